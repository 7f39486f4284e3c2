/- Children and piles in memory: a slice of children, a pile at a block with its row of positions; no conditions beyond those written in each theorem. -/
import Derived.Test.YtmcjabbfhhdmmaaPMath
import Derived.Test.YtmcjabbfhhdmmaaOpenL
import Derived.Test.YtmcjabbfhhdmmaaAll
import Derived.Laws.MakeOwn
namespace Go.Proofs.Ytmcjabbfhhdmmaa
open Go.ChangeShapes Go.WideShapes Go.ChangeAt Go.RowKit
set_option maxRecDepth 100000
/-- The cells of a child. -/
def chl (c : Ch) : List Value := [.int .i64 c.top.p, .int .i64 c.top.n, .int .i64 c.bot.p, .int .i64 c.bot.n, .int .i64 c.inn.p, .int .i64 c.inn.n, .bool c.thr, .int .i64 c.high]
theorem chl_length (c : Ch) : (chl c).length = 8 := rfl
/-- Its value. -/
abbrev chv (c : Ch) : Value := .agg #[.int .i64 c.top.p, .int .i64 c.top.n, .int .i64 c.bot.p, .int .i64 c.bot.n, .int .i64 c.inn.p, .int .i64 c.inn.n, .bool c.thr, .int .i64 c.high]
/-- A slice of n children reads as this list. -/
def CS (w : World) (a : Option Addr) (n : Nat) (l : List Ch) : Prop := SL chl 8 zeroC w a n l
theorem CS.seen {w w' : World} {a : Option Addr} {n : Nat} {l : List Ch} (h : CS w a n l) (hs : Seen w w') : CS w' a n l := SL.seen chl_length h hs
/-- The cells of a child at a place. -/
def At8 (w : World) (b o : Nat) (c : Ch) : Prop :=
  w.cell? ⟨b, o, none⟩ = some (.int .i64 c.top.p) ∧ w.cell? ⟨b, o + 1, none⟩ = some (.int .i64 c.top.n) ∧ w.cell? ⟨b, o + 2, none⟩ = some (.int .i64 c.bot.p) ∧ w.cell? ⟨b, o + 3, none⟩ = some (.int .i64 c.bot.n) ∧
  w.cell? ⟨b, o + 4, none⟩ = some (.int .i64 c.inn.p) ∧ w.cell? ⟨b, o + 5, none⟩ = some (.int .i64 c.inn.n) ∧ w.cell? ⟨b, o + 6, none⟩ = some (.bool c.thr) ∧ w.cell? ⟨b, o + 7, none⟩ = some (.int .i64 c.high)
theorem CS.ats {w : World} {a : Option Addr} {n : Nat} {l : List Ch} (h : CS w a n l) (h0 : 0 < n) : ∃ b off, a = some ⟨b, off, none⟩ ∧ ∀ i, i < n → At8 w b (off + i * 8) (cat l i) := by
  obtain ⟨b, off, e, hc⟩ := h.2 h0
  refine ⟨b, off, e, fun i hi => ?_⟩
  have k := hc i hi
  exact ⟨k 0 (by omega), k 1 (by omega), k 2 (by omega), k 3 (by omega), k 4 (by omega), k 5 (by omega), k 6 (by omega), k 7 (by omega)⟩
theorem At8.seen {w w' : World} {b o : Nat} {c : Ch} (h : At8 w b o c) (hs : Seen w w') : At8 w' b o c := by
  obtain ⟨h0, h1, h2, h3, h4, h5, h6, h7⟩ := h
  exact ⟨hs.cell h0, hs.cell h1, hs.cell h2, hs.cell h3, hs.cell h4, hs.cell h5, hs.cell h6, hs.cell h7⟩
theorem Blk.child {w : World} {B : Nat} {c : Ch} {t : TypeId} (h : Blk w B (chl c) t) : At8 w B 0 c := ⟨h.cell 0, h.cell 1, h.cell 2, h.cell 3, h.cell 4, h.cell 5, h.cell 6, h.cell 7⟩
/-! A row of numbers that is owned. -/
def flI (l : List Int) : List Value := l.map (.int .i64)
theorem flI_append (l m : List Int) : flI (l ++ m) = flI l ++ flI m := List.map_append
theorem info2z : (Try.prog.info? 2).map (fun i => (i.zero, i.size, i.bytes)) = some (some (.int .i64 0), 1, 8) := by kernel_rfl
theorem one_at (w : World) (u : Value) (t : TypeId) : ∀ j v, [u][j]? = some v → (w.alloc (.cells #[u] t)).cell? ((⟨w.heap.size, 0, none⟩ : Addr).add j) = some v := by
  intro j v h
  match j, h with
  | 0, h =>
    simp at h
    subst h
    rw [add_plain, Go.Joins.cell_of_block (World.alloc_heap_new w _)]; rfl
/-- The row of numbers that it owns. -/
def RI (w : World) (base : Nat) (v : Value) (l : List Int) : Prop := w.ownsRow base 2 1 v l.length (flI l)
theorem RI.seen {w w' : World} {base : Nat} {v : Value} {l : List Int} (h : RI w base v l) (hs : Seen w w') : RI w' base v l := row_seen h hs
theorem RI.nil (w : World) (base : Nat) : RI w base (.slice none 0 0) [] := ⟨rfl, .inl ⟨rfl, rfl⟩⟩
theorem RI.slice {w : World} {base : Nat} {v : Value} {l : List Int} (h : RI w base v l) : ∃ a c, v = .slice a l.length c ∧ ZS w a l.length l ∧ l.length ≤ c := by
  rcases h.2 with ⟨rfl, hn⟩ | ⟨g, cap, cur, rfl, hb, hh, h1, h2, h3, h4⟩
  · refine ⟨none, 0, by rw [hn], ⟨rfl, fun h => absurd h (by omega)⟩, by omega⟩
  · refine ⟨_, cap, rfl, ⟨rfl, fun _ => ⟨g, 0, rfl, fun i hi => ?_⟩⟩, h1⟩
    have hc := World.ownsRow.cellAt h i (by omega)
    rw [Nat.zero_add, hc]
    unfold flI zat
    simp [hi]
/-- The append of one number, by itself. -/
theorem run_pushI (w : World) (base : Nat) (v : Value) (l : List Int) (y : Int) (ty : TypeId) (hown : RI w base v l) (hl : l.length ≤ 1000000) (hb : base ≤ w.heap.size) :
    ∃ v' w', (Builtin.append_ #[33, 33] ty #[v, .slice (some ⟨w.heap.size, 0, none⟩) 1 1]).run Try.prog (w.alloc (.cells #[.int .i64 y] 2)) = .ok v' w' ∧ RI w' base v' (l ++ [y]) ∧ (w.alloc (.cells #[.int .i64 y] 2)).grownBy w' v.ownBlock := by
  obtain ⟨i0, hi, hz0, hz1, hz2⟩ := info_parts info2z
  obtain ⟨v', w', hr, h2, h3, _⟩ := run_append_own_at (P := Try.prog) (w.alloc (.cells #[.int .i64 y] 2)) base 33 ty 2 i0 (.int .i64 0) 1 8 Try.underlying33 hi hz0 hz1 hz2 rfl (by decide) v l.length (flI l) (hown.alloc _) ⟨w.heap.size, 0, none⟩ 1 1 [.int .i64 y] rfl (one_at _ _ _) (by intro u hu; rw [List.mem_singleton] at hu; subst hu; rfl) (by unfold maxLen; omega) (by omega) (by simp; omega)
  refine ⟨v', w', hr, ?_, h3⟩
  unfold RI
  rw [flI_append, List.length_append]
  exact h2
/-! A pile at a block. -/
/-- The cells of a pile. -/
abbrev pil (sv : Value) (p : Pi) : List Value := [sv, .int .i64 p.edge, .int .i64 p.top.p, .int .i64 p.top.n, .int .i64 p.cur.p, .int .i64 p.cur.n, .bool p.att]
abbrev piv (sv : Value) (p : Pi) : Value := .agg #[sv, .int .i64 p.edge, .int .i64 p.top.p, .int .i64 p.top.n, .int .i64 p.cur.p, .int .i64 p.cur.n, .bool p.att]
/-- The block B is this pile, its row lies from base on. -/
structure PS (w : World) (base B : Nat) (t : TypeId) (sv : Value) (p : Pi) : Prop where
  blk : Blk w B (pil sv p) t
  row : RI w base sv p.y
theorem PS.seen {w w' : World} {base B : Nat} {t : TypeId} {sv : Value} {p : Pi} (h : PS w base B t sv p) (hs : Seen w w') : PS w' base B t sv p := ⟨h.blk.seen hs, h.row.seen hs⟩
theorem row_apart {w : World} {B : Nat} {l : List Value} {t : TypeId} {base : Nat} {v : Value} {xs : List Int} (h : Blk w B l t) (ht : t ≠ 2) (hr : RI w base v xs) : v.ownBlock ≠ some B := by
  rcases hr.2 with ⟨rfl, _⟩ | ⟨g, cap, cur, rfl, _, hg, _⟩
  · intro e; cases e
  · intro e
    have e' : g = B := by simpa [Value.ownBlock] using e
    subst e'
    have h1 : w.heap[g]? = some (.cells l.toArray t) := h
    rw [hg] at h1
    simp at h1
    exact ht h1.2.symm
theorem RI.other {w : World} {B : Nat} {l : List Value} {t : TypeId} {base : Nat} {v : Value} {xs : List Int} (hr : RI w base v xs) (h : Blk w B l t) (ht : t ≠ 2) (o : Nat) (u : Value) : RI (w.setCell ⟨B, o, none⟩ u) base v xs :=
  ownsRow_keeps hr (fun g hg => Below.heap_setCell w _ _ g (fun e => by simp at e; subst e; exact row_apart h ht hr hg))
/-- Behind 'p.Y = append(p.Y, y)'. -/
theorem pile_step {W w1 : World} {base B : Nat} {t : TypeId} {sv v' : Value} {p : Pi} {y : Int} {tmp : Obj} (h : PS W base B t sv p) (ht : t ≠ 2) (hb : base ≤ B)
    (hown : RI w1 base v' (p.y ++ [y])) (hgrow : (W.alloc tmp).grownBy w1 sv.ownBlock) :
    Blk w1 B (pil sv p) t ∧ PS (w1.setCell ⟨B, 0, none⟩ v') base B t v' ⟨p.y ++ [y], p.edge, p.top, p.cur, p.att⟩ ∧ Below base W (w1.setCell ⟨B, 0, none⟩ v') := by
  have hap := row_apart h.blk ht h.row
  have hlt := h.blk.lt
  have h1 : Blk w1 B (pil sv p) t := (hgrow.block B (h.blk.alloc tmp).lt (fun e => hap e.symm)).trans (h.blk.alloc tmp)
  refine ⟨h1, ⟨h1.set 0 v', hown.other h1 ht 0 v'⟩, ?_⟩
  exact ((((Below.refl base W).alloc (by omega) tmp).grown hgrow (by simp; omega) (fun g hg => (h.row.lt g hg).1)).setCell (by simp; omega) _)
end Go.Proofs.Ytmcjabbfhhdmmaa
