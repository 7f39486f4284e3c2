/- Rows of numbers: one number pushed, a row as a result, a row read; contract of the reference's Same for two rows of one list; no conditions beyond those written in each theorem. -/
import Derived.Test.YtlnnaegmcopiiaaKinMem
namespace Go.Proofs.Ytlnnaegmcopiiaa
open Go.ChangeShapes Go.WideShapes Go.ChangeAt Go.RowKit
set_option maxRecDepth 100000
theorem info3z : (Try.prog.info? 3).map (fun i => (i.zero, i.size, i.bytes)) = some (some (.int .i64 0), 1, 8) := by kernel_rfl
theorem one_at (w : World) (u : Value) (t : TypeId) : ∀ j v, [u][j]? = some v → (w.alloc (.cells #[u] t)).cell? ((⟨w.heap.size, 0, none⟩ : Addr).add j) = some v := by
  intro j v h
  match j, h with
  | 0, h =>
    simp at h
    subst h
    rw [add_plain, Go.Joins.cell_of_block (World.alloc_heap_new w _)]; rfl
/-- The row of numbers that it owns. -/
def RI (w : World) (base : Nat) (v : Value) (l : List Int) : Prop := w.ownsRow base 3 1 v l.length (flatI l)
theorem RI.seen {w w' : World} {base : Nat} {v : Value} {l : List Int} (h : RI w base v l) (hs : Seen w w') : RI w' base v l := row_seen h hs
theorem RI.nil (w : World) (base : Nat) : RI w base (.slice none 0 0) [] := ⟨rfl, .inl ⟨rfl, rfl⟩⟩
/-- x = append(x, y). -/
theorem wpList_pushI {ops : Array Oper} {rest : List Oper} {op : Oper} {a : Act} {w : World} {Q : Exit → Act → World → Prop} (hgd : op.guard = none) (s x : Operand) (ho : op.op = .call { callee := .builtin .append, args := #[s, x], argTypes := #[58, 58] })
    (base : Nat) (v : Value) (l : List Int) (y : Int) (hs : a.eval s = v) (hx : a.eval x = .slice (some ⟨w.heap.size, 0, none⟩) 1 1) (hown : RI w base v l) (hl : l.length ≤ 1000000) (hb : base ≤ w.heap.size)
    (h : ∀ v' w', RI w' base v' (l ++ [y]) → Below base w w' → wpList Try.prog ops Q rest (a.put op.dst v') w') : wpList Try.prog ops Q (op :: rest) a (w.alloc (.cells #[.int .i64 y] 3)) := by
  obtain ⟨i0, hi, hz0, hz1, hz2⟩ := info_parts info3z
  refine wpList_append_own (P := Try.prog) _ hgd s x 58 ho base 3 i0 (.int .i64 0) 1 8 Try.underlying58 hi hz0 hz1 hz2 rfl (by decide) v l.length (flatI l) hs (hown.alloc _) ⟨w.heap.size, 0, none⟩ 1 1 [.int .i64 y] hx rfl (one_at _ _ _) (by intro u hu; rw [List.mem_singleton] at hu; subst hu; rfl) (by unfold maxLen; omega) (by omega) (by simp; omega) ?_
  intro v' w' h1 h2 _
  refine h v' w' ?_ ?_
  · unfold RI
    rw [flatI_append, List.length_append]
    exact h1
  · exact ((Below.refl base w).alloc hb _).grown h2 (by simp; omega) (fun g hg => (hown.lt g hg).1)
/-- The answer is a new row of these numbers; nothing old has turned. -/
def RowI (w : World) (l : List Int) (e : Ending) (w' : World) : Prop := ∃ v, e = .returned v ∧ RI w' w.heap.size v l ∧ Seen w w'
/-- A slice of n numbers reads as this list. -/
def ZS (w : World) (ad : Option Addr) (n : Nat) (l : List Int) : Prop := SL (fun x => [Value.int .i64 x]) 1 0 w ad n l
theorem ZS.seen {w w' : World} {ad : Option Addr} {n : Nat} {l : List Int} (h : ZS w ad n l) (hs : Seen w w') : ZS w' ad n l := SL.seen (fun _ => rfl) h hs
theorem ZS.cells {w : World} {ad : Option Addr} {n : Nat} {l : List Int} (h : ZS w ad n l) (h0 : 0 < n) : ∃ b off, ad = some ⟨b, off, none⟩ ∧ ∀ i, i < n → w.cell? ⟨b, off + i, none⟩ = some (.int .i64 (bat l i)) := by
  obtain ⟨b, off, e, hc⟩ := h.2 h0
  refine ⟨b, off, e, fun i hi => ?_⟩
  have := hc i hi 0 (by omega)
  rw [Nat.mul_one, Nat.add_zero] at this
  exact this
theorem RI.slice {w : World} {base : Nat} {v : Value} {l : List Int} (h : RI w base v l) : ∃ a c, v = .slice a l.length c ∧ ZS w a l.length l ∧ l.length ≤ c := by
  rcases h.2 with ⟨rfl, hn⟩ | ⟨g, cap, cur, rfl, hb, hh, h1, h2, h3, h4⟩
  · refine ⟨none, 0, by rw [hn], ⟨rfl, fun h => absurd h (by omega)⟩, by omega⟩
  · refine ⟨_, cap, rfl, ⟨rfl, fun _ => ⟨g, 0, rfl, fun i hi j hj => ?_⟩⟩, h1⟩
    obtain rfl : j = 0 := by omega
    have hc := World.ownsRow.cellAt h i (by omega)
    rw [Nat.zero_add, Nat.mul_one, Nat.add_zero, hc, flatI_at hi]
    rfl
end Go.Proofs.Ytlnnaegmcopiiaa
