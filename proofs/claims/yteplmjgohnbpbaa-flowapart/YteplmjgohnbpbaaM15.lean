/- Texts of the proof, merged: PMem, FMath, FLow. -/
import Derived.Test.YteplmjgohnbpbaaM14
import Derived.Test.YteplmjgohnbpbaaM1
import Derived.Laws.MakeOwn
import Derived.Test.YteplmjgohnbpbaaM9
import Derived.Test.YteplmjgohnbpbaaM13
import Derived.Deep.DeepCutAuto
/- Children and piles in memory: a slice of children, a pile at a block with its row of positions; no conditions beyond those written in each theorem. -/
namespace Go.Proofs.Yteplmjgohnbpbaa
open Go.ChangeShapes Go.WideShapes Go.ChangeAt Go.RowKit
set_option maxRecDepth 100000
/-- The cells of a child. -/
def chl (c : Ch) : List Value := [.int .i64 c.top.p, .int .i64 c.top.n, .int .i64 c.bot.p, .int .i64 c.bot.n, .int .i64 c.inn.p, .int .i64 c.inn.n, .bool c.thr, .int .i64 c.high]
theorem chl_length (c : Ch) : (chl c).length = 8 := rfl
/-- Its value. -/
abbrev chv (c : Ch) : Value := .agg #[.int .i64 c.top.p, .int .i64 c.top.n, .int .i64 c.bot.p, .int .i64 c.bot.n, .int .i64 c.inn.p, .int .i64 c.inn.n, .bool c.thr, .int .i64 c.high]
/-- A slice of n children reads as this list. -/
def CS (w : World) (a : Option Addr) (n : Nat) (l : List Ch) : Prop := SL chl 8 zeroC w a n l
theorem CS.seen {w w' : World} {a : Option Addr} {n : Nat} {l : List Ch} (h : CS w a n l) (hs : Seen w w') : CS w' a n l := SL.seen chl_length h hs
/-- The cells of a child at a place. -/
def At8 (w : World) (b o : Nat) (c : Ch) : Prop :=
  w.cell? ⟨b, o, none⟩ = some (.int .i64 c.top.p) ∧ w.cell? ⟨b, o + 1, none⟩ = some (.int .i64 c.top.n) ∧ w.cell? ⟨b, o + 2, none⟩ = some (.int .i64 c.bot.p) ∧ w.cell? ⟨b, o + 3, none⟩ = some (.int .i64 c.bot.n) ∧
  w.cell? ⟨b, o + 4, none⟩ = some (.int .i64 c.inn.p) ∧ w.cell? ⟨b, o + 5, none⟩ = some (.int .i64 c.inn.n) ∧ w.cell? ⟨b, o + 6, none⟩ = some (.bool c.thr) ∧ w.cell? ⟨b, o + 7, none⟩ = some (.int .i64 c.high)
theorem CS.ats {w : World} {a : Option Addr} {n : Nat} {l : List Ch} (h : CS w a n l) (h0 : 0 < n) : ∃ b off, a = some ⟨b, off, none⟩ ∧ ∀ i, i < n → At8 w b (off + i * 8) (cat l i) := by
  obtain ⟨b, off, e, hc⟩ := h.2 h0
  refine ⟨b, off, e, fun i hi => ?_⟩
  have k := hc i hi
  exact ⟨k 0 (by omega), k 1 (by omega), k 2 (by omega), k 3 (by omega), k 4 (by omega), k 5 (by omega), k 6 (by omega), k 7 (by omega)⟩
theorem At8.seen {w w' : World} {b o : Nat} {c : Ch} (h : At8 w b o c) (hs : Seen w w') : At8 w' b o c := by
  obtain ⟨h0, h1, h2, h3, h4, h5, h6, h7⟩ := h
  exact ⟨hs.cell h0, hs.cell h1, hs.cell h2, hs.cell h3, hs.cell h4, hs.cell h5, hs.cell h6, hs.cell h7⟩
theorem Blk.child {w : World} {B : Nat} {c : Ch} {t : TypeId} (h : Blk w B (chl c) t) : At8 w B 0 c := ⟨h.cell 0, h.cell 1, h.cell 2, h.cell 3, h.cell 4, h.cell 5, h.cell 6, h.cell 7⟩
/-! A row of numbers that is owned. -/
def flI (l : List Int) : List Value := l.map (.int .i64)
theorem flI_append (l m : List Int) : flI (l ++ m) = flI l ++ flI m := List.map_append
theorem info2z : (Try.prog.info? 2).map (fun i => (i.zero, i.size, i.bytes)) = some (some (.int .i64 0), 1, 8) := by kernel_rfl
theorem one_atP (w : World) (u : Value) (t : TypeId) : ∀ j v, [u][j]? = some v → (w.alloc (.cells #[u] t)).cell? ((⟨w.heap.size, 0, none⟩ : Addr).add j) = some v := by
  intro j v h
  match j, h with
  | 0, h =>
    simp at h
    subst h
    rw [add_plain, Go.Joins.cell_of_block (World.alloc_heap_new w _)]; rfl
/-- The row of numbers that it owns. -/
def RP (w : World) (base : Nat) (v : Value) (l : List Int) : Prop := w.ownsRow base 2 1 v l.length (flI l)
theorem RP.seen {w w' : World} {base : Nat} {v : Value} {l : List Int} (h : RP w base v l) (hs : Seen w w') : RP w' base v l := row_seen h hs
theorem RP.nil (w : World) (base : Nat) : RP w base (.slice none 0 0) [] := ⟨rfl, .inl ⟨rfl, rfl⟩⟩
theorem RP.slice {w : World} {base : Nat} {v : Value} {l : List Int} (h : RP w base v l) : ∃ a c, v = .slice a l.length c ∧ ZI w a l.length l ∧ l.length ≤ c := by
  rcases h.2 with ⟨rfl, hn⟩ | ⟨g, cap, cur, rfl, hb, hh, h1, h2, h3, h4⟩
  · refine ⟨none, 0, by rw [hn], ⟨rfl, fun h => absurd h (by omega)⟩, by omega⟩
  · refine ⟨_, cap, rfl, ⟨rfl, fun _ => ⟨g, 0, rfl, fun i hi => ?_⟩⟩, h1⟩
    have hc := World.ownsRow.cellAt h i (by omega)
    rw [Nat.zero_add, hc]
    unfold flI zat
    simp [hi]
/-- The append of one number, by itself. -/
theorem run_pushI (w : World) (base : Nat) (v : Value) (l : List Int) (y : Int) (ty : TypeId) (hown : RP w base v l) (hl : l.length ≤ 1000000) (hb : base ≤ w.heap.size) :
    ∃ v' w', (Builtin.append_ #[49, 49] ty #[v, .slice (some ⟨w.heap.size, 0, none⟩) 1 1]).run Try.prog (w.alloc (.cells #[.int .i64 y] 2)) = .ok v' w' ∧ RP w' base v' (l ++ [y]) ∧ (w.alloc (.cells #[.int .i64 y] 2)).grownBy w' v.ownBlock := by
  obtain ⟨i0, hi, hz0, hz1, hz2⟩ := info_parts info2z
  obtain ⟨v', w', hr, h2, h3, _⟩ := run_append_own_at (P := Try.prog) (w.alloc (.cells #[.int .i64 y] 2)) base 49 ty 2 i0 (.int .i64 0) 1 8 Try.underlying49 hi hz0 hz1 hz2 rfl (by decide) v l.length (flI l) (hown.alloc _) ⟨w.heap.size, 0, none⟩ 1 1 [.int .i64 y] rfl (one_atP _ _ _) (by intro u hu; rw [List.mem_singleton] at hu; subst hu; rfl) (by unfold maxLen; omega) (by omega) (by simp; omega)
  refine ⟨v', w', hr, ?_, h3⟩
  unfold RP
  rw [flI_append, List.length_append]
  exact h2
/-! A pile at a block. -/
/-- The cells of a pile. -/
abbrev pil (stv : Value) (p : Pi) : List Value := [stv, .int .i64 p.edge, .int .i64 p.top.p, .int .i64 p.top.n, .int .i64 p.cur.p, .int .i64 p.cur.n, .bool p.att]
abbrev piv (stv : Value) (p : Pi) : Value := .agg #[stv, .int .i64 p.edge, .int .i64 p.top.p, .int .i64 p.top.n, .int .i64 p.cur.p, .int .i64 p.cur.n, .bool p.att]
/-- The block B is this pile, its row lies from base on. -/
structure PS (w : World) (base B : Nat) (t : TypeId) (stv : Value) (p : Pi) : Prop where
  blk : Blk w B (pil stv p) t
  row : RP w base stv p.y
theorem PS.seen {w w' : World} {base B : Nat} {t : TypeId} {stv : Value} {p : Pi} (h : PS w base B t stv p) (hs : Seen w w') : PS w' base B t stv p := ⟨h.blk.seen hs, h.row.seen hs⟩
theorem row_apart {w : World} {B : Nat} {l : List Value} {t : TypeId} {base : Nat} {v : Value} {xs : List Int} (h : Blk w B l t) (ht : t ≠ 2) (hr : RP w base v xs) : v.ownBlock ≠ some B := by
  rcases hr.2 with ⟨rfl, _⟩ | ⟨g, cap, cur, rfl, _, hg, _⟩
  · intro e; cases e
  · intro e
    have e' : g = B := by simpa [Value.ownBlock] using e
    subst e'
    have h1 : w.heap[g]? = some (.cells l.toArray t) := h
    rw [hg] at h1
    simp at h1
    exact ht h1.2.symm
theorem RP.other {w : World} {B : Nat} {l : List Value} {t : TypeId} {base : Nat} {v : Value} {xs : List Int} (hr : RP w base v xs) (h : Blk w B l t) (ht : t ≠ 2) (o : Nat) (u : Value) : RP (w.setCell ⟨B, o, none⟩ u) base v xs :=
  ownsRow_keeps hr (fun g hg => Below.heap_setCell w _ _ g (fun e => by simp at e; subst e; exact row_apart h ht hr hg))
/-- Behind 'p.Y = append(p.Y, y)'. -/
theorem pile_step {W w1 : World} {base B : Nat} {t : TypeId} {stv v' : Value} {p : Pi} {y : Int} {tmp : Obj} (h : PS W base B t stv p) (ht : t ≠ 2) (hb : base ≤ B)
    (hown : RP w1 base v' (p.y ++ [y])) (hgrow : (W.alloc tmp).grownBy w1 stv.ownBlock) :
    Blk w1 B (pil stv p) t ∧ PS (w1.setCell ⟨B, 0, none⟩ v') base B t v' ⟨p.y ++ [y], p.edge, p.top, p.cur, p.att⟩ ∧ Below base W (w1.setCell ⟨B, 0, none⟩ v') := by
  have hap := row_apart h.blk ht h.row
  have hlt := h.blk.lt
  have h1 : Blk w1 B (pil stv p) t := (hgrow.block B (h.blk.alloc tmp).lt (fun e => hap e.symm)).trans (h.blk.alloc tmp)
  refine ⟨h1, ⟨h1.set 0 v', hown.other h1 ht 0 v'⟩, ?_⟩
  exact ((((Below.refl base W).alloc (by omega) tmp).grown hgrow (by simp; omega) (fun g hg => (h.row.lt g hg).1)).setCell (by simp; omega) _)
end Go.Proofs.Yteplmjgohnbpbaa

/- Layer 14 as plain mathematics: frames, containers, ends, what a box and a content come to; no conditions. -/
namespace Go.Proofs.Yteplmjgohnbpbaa
open Go.ChangeShapes Go.WideShapes Go.ChangeAt Go.RowKit
set_option maxRecDepth 100000
/-- Four numbers. -/
structure I4 where
  a : Int
  b : Int
  c : Int
  d : Int
def zI4 : I4 := ⟨0, 0, 0, 0⟩
/-- Four sizes. -/
structure S4 where
  a : Sz
  b : Sz
  c : Sz
  d : Sz
/-- A frame. -/
structure Fr where
  x : Int
  y : Int
  w : Int
  h : Int
  mg : I4
  pd : I4
  bd : I4
  kn : Bool
  ch : Ch
def zFr : Fr := ⟨0, 0, 0, 0, zI4, zI4, zI4, false, zeroC⟩
/-- Its cells. -/
def frl (f : Fr) : List Value :=
  [.int .i64 f.x, .int .i64 f.y, .int .i64 f.w, .int .i64 f.h, .int .i64 f.mg.a, .int .i64 f.mg.b, .int .i64 f.mg.c, .int .i64 f.mg.d,
   .int .i64 f.pd.a, .int .i64 f.pd.b, .int .i64 f.pd.c, .int .i64 f.pd.d, .int .i64 f.bd.a, .int .i64 f.bd.b, .int .i64 f.bd.c, .int .i64 f.bd.d, .bool f.kn,
   .int .i64 f.ch.top.p, .int .i64 f.ch.top.n, .int .i64 f.ch.bot.p, .int .i64 f.ch.bot.n, .int .i64 f.ch.inn.p, .int .i64 f.ch.inn.n, .bool f.ch.thr, .int .i64 f.ch.high]
/-- Its value. -/
def frv (f : Fr) : Value := .agg (frl f).toArray
theorem frl_length (f : Fr) : (frl f).length = 25 := rfl
theorem frl_one (f : Fr) : ∀ u ∈ frl f, u.oneCell' = true := by
  intro u hu
  simp only [frl, List.mem_cons, List.not_mem_nil, or_false] at hu
  rcases hu with rfl | rfl | rfl | rfl | rfl | rfl | rfl | rfl | rfl | rfl | rfl | rfl | rfl | rfl | rfl | rfl | rfl | rfl | rfl | rfl | rfl | rfl | rfl | rfl | rfl <;> rfl
/-- A node and its frame. -/
structure Pd where
  n : Int
  f : Fr
def pdl (p : Pd) : List Value := .int .i64 p.n :: frl p.f
def zPd : Pd := ⟨0, zFr⟩
theorem pdl_length (p : Pd) : (pdl p).length = 26 := rfl
theorem pdl_one (p : Pd) : ∀ u ∈ pdl p, u.oneCell' = true := by
  intro u hu
  rcases List.mem_cons.1 hu with rfl | h
  · rfl
  · exact frl_one _ _ h
/-- A container: the width, the height, the direction. -/
structure Ct where
  w : Int
  h : Sz
  rtl : Bool
abbrev ctl (c : Ct) : List Value := [.int .i64 c.w, .bool c.h.au, .int .i64 c.h.n, .bool c.rtl]
abbrev ctv (c : Ct) : Value := .agg #[.int .i64 c.w, .bool c.h.au, .int .i64 c.h.n, .bool c.rtl]
/-- Heights: its own, the least, the greatest. -/
structure Hts where
  own : Sz
  lo : Int
  hi : Int
abbrev htl (h : Hts) : List Value := [.bool h.own.au, .int .i64 h.own.n, .int .i64 h.lo, .int .i64 h.hi]
abbrev htv (h : Hts) : Value := .agg #[.bool h.own.au, .int .i64 h.own.n, .int .i64 h.lo, .int .i64 h.hi]
def zHt : Hts := ⟨⟨false, 0⟩, 0, 0⟩
/-- Which ends are open. -/
structure En where
  top : Bool
  bot : Bool
  flat : Bool
abbrev enl (e : En) : List Value := [.bool e.top, .bool e.bot, .bool e.flat]
abbrev env (e : En) : Value := .agg #[.bool e.top, .bool e.bot, .bool e.flat]
def zEn : En := ⟨false, false, false⟩
abbrev s4l (m : S4) : List Value := [.bool m.a.au, .int .i64 m.a.n, .bool m.b.au, .int .i64 m.b.n, .bool m.c.au, .int .i64 m.c.n, .bool m.d.au, .int .i64 m.d.n]
abbrev s4v (m : S4) : Value := .agg #[.bool m.a.au, .int .i64 m.a.n, .bool m.b.au, .int .i64 m.b.n, .bool m.c.au, .int .i64 m.c.n, .bool m.d.au, .int .i64 m.d.n]
/-- A content as a value: its list is not laid into it. -/
def layl (lv yv : Value) (p : Pi) (hi : Int) : List Value := [lv, yv, .int .i64 p.edge, .int .i64 p.top.p, .int .i64 p.top.n, .int .i64 p.cur.p, .int .i64 p.cur.n, .bool p.att, .int .i64 hi]
def layv (lv yv : Value) (p : Pi) (hi : Int) : Value := .agg (layl lv yv p hi).toArray
/-! What a style comes to in a container. -/
def mg4 (s : Sty) : Ln4 := ⟨lat s.lens 10, lat s.lens 11, lat s.lens 12, lat s.lens 13⟩
def pd4 (s : Sty) : Ln4 := ⟨lat s.lens 14, lat s.lens 15, lat s.lens 16, lat s.lens 17⟩
def bd4 (s : Sty) : I4 := ⟨bat s.bord 0, bat s.bord 1, bat s.bord 2, bat s.bord 3⟩
def sds (q : Ln4) (b : Int) : S4 := ⟨sideS q b q.a, sideS q b q.b, sideS q b q.c, sideS q b q.d⟩
def or4 (m : S4) : I4 := ⟨orV m.a 0, orV m.b 0, orV m.c 0, orV m.d 0⟩
/-- A number with what surrounds it, from left to right, from top to bottom. -/
def arL (f : Fr) : List Int := [f.bd.d, f.pd.d, 0, f.pd.b, f.bd.b]
def arT (f : Fr) (n : Int) : List Int := [f.bd.a, f.pd.a, n, f.pd.c, f.bd.c]
/-- What is known of its width. -/
def acIn (s : Sty) (f : Fr) (m : S4) (c : Ct) : Bx :=
  ⟨c.w, m.d, ofS (lat s.lens 4).k (lat s.lens 4).n c.w true, m.b, sumN (arL f), c.rtl, ofOrV (lat s.lens 6).k (lat s.lens 6).n c.w true 0, ofOrV (lat s.lens 7).k (lat s.lens 7).n c.w true 1125899906842624⟩
/-- All of that is a size. -/
def acG (s : Sty) (f : Fr) (c : Ct) : Bool :=
  ofB (lat s.lens 4).k (lat s.lens 4).n c.w true && (ofB (lat s.lens 6).k (lat s.lens 6).n c.w true && (ofB (lat s.lens 7).k (lat s.lens 7).n c.w true && sumB (arL f)))
def acB (s : Sty) (f : Fr) (m : S4) (c : Ct) : Bool := acG s f c && solB (acIn s f m c)
def acO (s : Sty) (f : Fr) (m : S4) (c : Ct) : O3 := if acG s f c then solO (acIn s f m c) else zO
/-- The frame ahead of the width. -/
def fr0 (s : Sty) (c : Ct) : Fr := ⟨0, 0, 0, 0, or4 (sds (mg4 s) c.w), or4 (sds (pd4 s) c.w), bd4 s, false, zeroC⟩
def sdB (s : Sty) (c : Ct) : Bool := sidesB (mg4 s) c.w && sidesB (pd4 s) c.w
def frB (s : Sty) (c : Ct) : Bool := sdB s c && acB s (fr0 s c) (sds (mg4 s) c.w) c
def withO (f : Fr) (o : O3) : Fr := ⟨o.l, f.y, o.w, f.h, ⟨f.mg.a, o.r, f.mg.c, o.l⟩, f.pd, f.bd, f.kn, f.ch⟩
def frF (s : Sty) (c : Ct) : Fr := if sdB s c then withO (fr0 s c) (acO s (fr0 s c) (sds (mg4 s) c.w) c) else zFr
/-- The heights. -/
def htsF (s : Sty) (h : Sz) : Hts :=
  ⟨ofS (lat s.lens 5).k (lat s.lens 5).n h.n (!h.au), ofOrV (lat s.lens 8).k (lat s.lens 8).n h.n (!h.au) 0, ofOrV (lat s.lens 9).k (lat s.lens 9).n h.n (!h.au) 1125899906842624⟩
def htsB (s : Sty) (h : Sz) : Bool :=
  ofB (lat s.lens 5).k (lat s.lens 5).n h.n (!h.au) && (ofB (lat s.lens 8).k (lat s.lens 8).n h.n (!h.au) && ofB (lat s.lens 9).k (lat s.lens 9).n h.n (!h.au))
def outN (h : Hts) (x : Int) : Int := clampI (orV h.own x) h.lo h.hi
def innS (h : Hts) : Sz := if h.own.au then h.own else ⟨false, outN h 0⟩
/-- The ends of a box that is not independent. -/
def flatB (f : Fr) (h : Hts) : Bool := decide (f.bd.c = 0) && (decide (f.pd.c = 0) && decide (h.lo = 0))
def endE (f : Fr) (h : Hts) (ind : Bool) : En := if ind then zEn else ⟨decide (f.bd.a = 0) && decide (f.pd.a = 0), flatB f h && h.own.au, flatB f h⟩
def thrB (p : Pi) (e : En) (h : Hts) : Bool := p.att && (e.flat && (h.own.au || (decide (h.own.n = 0) && decide (p.y.length = 0))))
/-- A box as a child. -/
def chO (f : Fr) (p : Pi) (e : En) (h : Hts) : Ch :=
  ⟨if thrB p e h then joinS (joinS (ofM f.mg.a) p.top) (ofM f.mg.c) else joinS (ofM f.mg.a) p.top,
   if thrB p e h then joinS (joinS (ofM f.mg.a) p.top) (ofM f.mg.c) else if e.bot then joinS (ofM f.mg.c) p.cur else ofM f.mg.c,
   joinS (ofM f.mg.a) p.top, thrB p e h, sumN (arT f f.h)⟩
def chB (f : Fr) : Bool := sumB (arT f f.h)
/-- The height of a content. -/
def hgV (p : Pi) (e : En) : Int := max (if e.bot then p.edge else wrap64 (p.edge + valN p.cur)) 0
def hgG (p : Pi) (e : En) : Bool := e.bot || valB p.cur
def hgN (p : Pi) (e : En) : Int := if hgG p e then hgV p e else 0
def hgB (p : Pi) (e : En) : Bool := hgG p e && fitsB (hgV p e)
/-! Boxes. -/
/-- A box: its frame, its pile, the height of its content, all in it. -/
structure Bo where
  f : Fr
  p : Pi
  hi : Int
  l : List Pd
/-- A content. -/
structure La where
  p : Pi
  hi : Int
  l : List Pd
/-- The boxes of children, one after the other. -/
def boxesO (B : Int → Ct → Option Bo) (c : Ct) : List Int → Option (List Bo)
  | [] => some []
  | k :: r => match B k c with
    | none => none
    | some b => match boxesO B c r with
      | none => none
      | some l => some (b :: l)
/-- All in the list: each child ahead of what is in it. -/
def layB : List Int → List Bo → List Pd
  | k :: r, b :: bs => ⟨k, b.f⟩ :: (b.l ++ layB r bs)
  | _, _ => []
/-- The same with the places of the pile. -/
def layY : List Int → List Bo → List Int → List Pd
  | k :: r, b :: bs, y :: ys => ⟨k, { b.f with y := y }⟩ :: (b.l ++ layY r bs ys)
  | _, _, _ => []
def contO (B : Int → Ct → Option Bo) (kids : List Int) (c : Ct) (e : En) : Option La :=
  match boxesO B c kids with
  | none => none
  | some bs => match stkO (bs.map fun b => b.f.ch) e.top with
    | none => none
    | some p => if hgB p e then some ⟨p, hgN p e, layY kids bs p.y⟩ else none
/-- The frame of a box whose content is laid out. -/
def doneF (f : Fr) (h : Hts) (hi : Int) : Fr := { f with h := outN h hi, kn := !h.own.au }
def indB (s : Sty) (n : Int) : Bool := decide (n = 0) || s.clip
def ctIn (s : Sty) (f : Fr) (h : Hts) : Ct := ⟨f.w, innS h, s.rtl⟩
def boxO (l : List Nd) : Nat → Int → Ct → Option Bo
  | 0, _, _ => none
  | k + 1, n, c =>
    if frB (styAt l n) c && htsB (styAt l n) c.h then
      match contO (boxO l k) (flowV l n) (ctIn (styAt l n) (frF (styAt l n) c) (htsF (styAt l n) c.h)) (endE (frF (styAt l n) c) (htsF (styAt l n) c.h) (indB (styAt l n) n)) with
      | none => none
      | some a =>
        if chB (doneF (frF (styAt l n) c) (htsF (styAt l n) c.h) a.hi) then
          some ⟨{ doneF (frF (styAt l n) c) (htsF (styAt l n) c.h) a.hi with ch := chO (doneF (frF (styAt l n) c) (htsF (styAt l n) c.h) a.hi) a.p (endE (frF (styAt l n) c) (htsF (styAt l n) c.h) (indB (styAt l n) n)) (htsF (styAt l n) c.h) }, a.p, a.hi, a.l⟩
        else none
    else none
end Go.Proofs.Yteplmjgohnbpbaa

/- Contracts of small functions that layer 14 calls (strut.Of, fix.Clamp, outer, inner); no conditions. -/
namespace Go.Proofs.Yteplmjgohnbpbaa
open Go.ChangeShapes Go.WideShapes Go.ChangeAt Go.RowKit
set_option maxRecDepth 100000
theorem stOf_any (m : Int) (w : World) :
    Calls Try.prog 68 #[.int .i64 m] w fun e w' => e = .returned (.agg #[.int .i64 (ofM m).p, .int .i64 (ofM m).n]) ∧ Seen w w' := by
  have H := Lib.hid (show (ofM m).p = max m 0 ∧ (ofM m).n = min m 0 from ⟨rfl, rfl⟩)
  go_enter Try.func68, Try.ntmps68
  go_wp2
  all_goals
    go_returns
    exact ⟨ret_st (by rw [H.out.1]; omega) (by rw [H.out.2]; omega), by unfold Seen; go_grown⟩
theorem clamp_any (n l m : Int) (w : World) :
    Calls Try.prog 66 #[.int .i64 n, .int .i64 l, .int .i64 m] w fun e w' => e = .returned (.int .i64 (clampI n l m)) ∧ w' = w := by
  have H := Lib.hid (show clampI n l m = max (min n m) l from rfl)
  go_enter Try.func66, Try.ntmps66
  go_wp2
  all_goals
    go_ret
    exact ⟨ret_int (by rw [H.out]; omega), rfl⟩
theorem clamp_seen (n l m : Int) (w : World) :
    Calls Try.prog 66 #[.int .i64 n, .int .i64 l, .int .i64 m] w fun e w' => e = .returned (.int .i64 (clampI n l m)) ∧ Seen w w' :=
  (clamp_any n l m w).mono fun _ _ h => ⟨h.1, h.2 ▸ Seen.refl w⟩
theorem Blk.rules4 {w : World} {B : Nat} {t : TypeId} {x0 x1 x2 x3 : Value} (h : Blk w B [x0, x1, x2, x3] t) : ∀ w', Seen w w' → w'.cell? ⟨B, 0, none⟩ = some x0 ∧ w'.cell? ⟨B, 1, none⟩ = some x1 ∧ w'.cell? ⟨B, 2, none⟩ = some x2 ∧ w'.cell? ⟨B, 3, none⟩ = some x3 ∧ (∀ o, w'.frozen? ⟨B, o, none⟩ = false) :=
  fun _ hs => ⟨(h.seen hs).cell 0, (h.seen hs).cell 1, (h.seen hs).cell 2, (h.seen hs).cell 3, (h.seen hs).free⟩
set_option maxHeartbeats 1000000 in
theorem outer_any (h : Hts) (x : Int) (w : World) :
    Calls Try.prog 44 #[htv h, .int .i64 x] w fun e w' => e = .returned (.int .i64 (outN h x)) ∧ Seen w w' := by
  obtain ⟨⟨au, n⟩, lo, hi⟩ := h
  have OR := fun w => or_any ⟨au, n⟩ x w
  have CL := fun w => clamp_seen (orV ⟨au, n⟩ x) lo hi w
  have HV := Lib.hid (show outN ⟨⟨au, n⟩, lo, hi⟩ x = clampI (orV ⟨au, n⟩ x) lo hi from rfl)
  obtain ⟨o, ho⟩ : ∃ o, orV ⟨au, n⟩ x = o := ⟨_, rfl⟩
  rw [ho] at OR CL HV
  clear ho
  rw [HV.out]
  obtain ⟨W, hW⟩ : ∃ W, W = w.alloc (.cells #[.bool au, .int .i64 n, .int .i64 lo, .int .i64 hi] 103) := ⟨_, rfl⟩
  have k : Blk W w.heap.size [.bool au, .int .i64 n, .int .i64 lo, .int .i64 hi] 103 := by rw [hW]; exact Blk.new w _ _
  have SW : Hid (Seen w W) := by rw [hW]; exact (Seen.refl w).alloc _
  have r0 := k.rules4
  go_enter Try.func44, Try.ntmps44
  go_upto_region 1 with fail
  rw [← hW]
  clear hW k
  refine wp_region_quiet (C := Seen W) (by kernel_rfl) (by kernel_rfl) (Seen.drew (Seen.refl W)) ?_
  simp only []
  repeat (first
    | go_big_quiet_skip
    | (go_big_quiet_want
       apply Exists.intro
       refine ⟨fun w1 h1 => ?_, ?_⟩
       focus
         go_simp
         first | done | rfl | (go_at_call 39; with_reducible exact quiet_call h1 (OR _)) | (go_at_call 66; with_reducible exact quiet_call h1 (CL _))
       (try simp only [Act.put, List.setIfInBounds_toArray, List.set_cons_zero, List.set_cons_succ])
       go_big_quiet_on))
  refine wpQuiet_nil ?_
  intro w2 h2
  have H2 := Lib.hid h2
  clear h2
  go_wp2
  go_ret
  exact ⟨rfl, SW.out.trans H2.out⟩
set_option maxHeartbeats 1000000 in
theorem inner_any (h : Hts) (w : World) :
    Calls Try.prog 43 #[htv h] w fun e w' => e = .returned (szv (innS h)) ∧ Seen w w' := by
  have OU := fun w => outer_any h 0 w
  obtain ⟨⟨au, n⟩, lo, hi⟩ := h
  obtain ⟨W, hW⟩ : ∃ W, W = (w.alloc (.cells #[.bool au, .int .i64 n, .int .i64 lo, .int .i64 hi] 103)).alloc (.cells #[.bool false, .int .i64 0] 24) := ⟨_, rfl⟩
  have k : Blk W w.heap.size [.bool au, .int .i64 n, .int .i64 lo, .int .i64 hi] 103 := by rw [hW]; exact (Blk.new w _ _).alloc _
  have k1 : Blk W (w.heap.size + 1) [.bool false, .int .i64 0] 24 := by rw [hW]; simpa using Blk.new (w.alloc (.cells #[.bool au, .int .i64 n, .int .i64 lo, .int .i64 hi] 103)) [.bool false, .int .i64 0] 24
  have SW : Hid (Seen w W) := by rw [hW]; exact ((Seen.refl w).alloc _).alloc _
  have r0 := k.rules4
  have r1 := k1.rules2
  have r0' := r0 W (Seen.refl W)
  have r1' := r1 W (Seen.refl W)
  have K1 := Lib.hid k1
  clear k k1
  cases au
  · have HV := Lib.hid (show innS ⟨⟨false, n⟩, lo, hi⟩ = ⟨false, outN ⟨⟨false, n⟩, lo, hi⟩ 0⟩ from rfl)
    rw [HV.out]
    obtain ⟨o, ho⟩ : ∃ o, outN ⟨⟨false, n⟩, lo, hi⟩ 0 = o := ⟨_, rfl⟩
    rw [ho] at OU ⊢
    clear ho HV
    go_enter Try.func43, Try.ntmps43
    go_upto_region 1 with fail
    rw [← hW]
    clear hW
    go_wp2_with (go_at_call 44; refine (OU _).mono ?_; clear OU; rintro e w2 ⟨rfl, h2⟩; have H2 := Lib.hid h2; have r2' := r1 w2 h2; clear h2)
    have z := ((K1.out.seen H2.out).set 0 (.bool false)).set 1 (.int .i64 o)
    have z0 := z.cell 0
    have z1 := z.cell 1
    refine bodyPost_ret (by simp [results, Try.results43, go_sem, z0, z1]; try rfl) rfl ?_
    exact ⟨rfl, Below.setCell (Below.setCell (SW.out.trans H2.out) (by simp) _) (by simp) _⟩
  · have HV := Lib.hid (show innS ⟨⟨true, n⟩, lo, hi⟩ = ⟨true, n⟩ from rfl)
    rw [HV.out]
    clear HV OU
    go_enter Try.func43, Try.ntmps43
    go_upto_region 1 with fail
    rw [← hW]
    clear hW
    go_wp2_with fail
    have z := (K1.out.set 0 (.bool true)).set 1 (.int .i64 n)
    have z0 := z.cell 0
    have z1 := z.cell 1
    refine bodyPost_ret (by simp [results, Try.results43, go_sem, z0, z1]; try rfl) rfl ?_
    exact ⟨rfl, Below.setCell (Below.setCell SW.out (by simp) _) (by simp) _⟩
end Go.Proofs.Yteplmjgohnbpbaa
