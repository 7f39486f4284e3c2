/- The least rectangle around some, as a function of their list; a block of the call's own that holds a rectangle. -/
import Derived.Test.YtnoolbonejamcaaLists
import Derived.Test.YtnoolbonejamcaaCutMath
import Derived.Test.YtnoolbonejamcaaInside
namespace Go.Proofs.Ytnoolbonejamcaa
open Go.ChangeShapes Go.WideShapes Go.ChangeAt Go.RowKit
theorem emptyB_iff (r : R4) : emptyB r = true ↔ r.x1 ≤ r.x0 ∨ r.y1 ≤ r.y0 := by simp [emptyB]
theorem emptyB_not (r : R4) : emptyB r = false ↔ r.x0 < r.x1 ∧ r.y0 < r.y1 := by simp [emptyB]
theorem insideB_iff (a b : R4) : insideB a b = true ↔ (a.x1 ≤ a.x0 ∨ a.y1 ≤ a.y0) ∨ (b.x0 ≤ a.x0 ∧ a.x1 ≤ b.x1 ∧ b.y0 ≤ a.y0 ∧ a.y1 ≤ b.y1) := by simp [insideB, emptyB]
/-- One element more. -/
def bstep (all r : R4) : R4 := if emptyB r then all else if emptyB all then r else spanR all r
/-- The least one around all. -/
def boundL (l : List R4) : R4 := l.foldl bstep ⟨0, 0, 0, 0⟩
theorem bound_step {l : List R4} {k : Nat} (h : k < l.length) : boundL (l.take (k + 1)) = bstep (boundL (l.take k)) (rat l k) := by
  unfold boundL
  rw [List.take_succ_eq_append_getElem h, List.foldl_append, rat_eq h]; rfl
theorem bstep_t {all r : R4} (h : emptyB r = true) : bstep all r = all := by unfold bstep; rw [h]; rfl
theorem bstep_ft {all r : R4} (h : emptyB r = false) (h2 : emptyB all = true) : bstep all r = r := by unfold bstep; rw [h, h2]; rfl
theorem bstep_ff {all r : R4} (h : emptyB r = false) (h2 : emptyB all = false) : bstep all r = spanR all r := by unfold bstep; rw [h, h2]; rfl
theorem span_no {all r : R4} (h : emptyB r = false) (h2 : emptyB all = false) : emptyB (spanR all r) = false := by
  simp only [emptyB_not, spanR] at *; omega
theorem span_self (r : R4) : spanR r r = r := by
  obtain ⟨a, b, c, d⟩ := r
  simp [spanR]
theorem bstep_no {all r : R4} (h : emptyB r = false) : emptyB (bstep all r) = false := by
  rcases Bool.eq_false_or_eq_true (emptyB all) with h2 | h2
  · rw [bstep_ft h h2]; exact h
  · rw [bstep_ff h h2]; exact span_no h h2
theorem inside_mono {x all r : R4} (h : insideB x all = true) : insideB x (bstep all r) = true := by
  rcases Bool.eq_false_or_eq_true (emptyB r) with h1 | h1
  · rw [bstep_t h1]; exact h
  · rcases Bool.eq_false_or_eq_true (emptyB all) with h2 | h2
    · rw [bstep_ft h1 h2]
      simp only [insideB_iff, emptyB_iff, emptyB_not] at *; omega
    · rw [bstep_ff h1 h2]
      simp only [insideB_iff, emptyB_not, spanR] at *; omega
theorem inside_step (all r : R4) : insideB r (bstep all r) = true := by
  rcases Bool.eq_false_or_eq_true (emptyB r) with h1 | h1
  · unfold insideB; rw [h1]; rfl
  · rcases Bool.eq_false_or_eq_true (emptyB all) with h2 | h2
    · rw [bstep_ft h1 h2]; simp [insideB]
    · rw [bstep_ff h1 h2]
      simp only [insideB_iff, spanR]; omega
theorem inside_fold (x : R4) (l : List R4) (all : R4) (h : insideB x all = true) : insideB x (l.foldl bstep all) = true := by
  induction l generalizing all with
  | nil => exact h
  | cons r l ih => exact ih _ (inside_mono h)
theorem inside_bound (l : List R4) (all : R4) : ∀ r ∈ l, insideB r (l.foldl bstep all) = true := by
  induction l generalizing all with
  | nil => intro r hr; simp at hr
  | cons q l ih =>
    intro r hr
    rcases List.mem_cons.1 hr with rfl | hr
    · exact inside_fold r l (bstep all r) (inside_step _ _)
    · exact ih _ r hr
/-- A block that holds just this rectangle, and is free to be written. -/
def Own4 (w : World) (b : Nat) (r : R4) : Prop := w.heap[b]? = some (.cells #[.int .i64 r.x0, .int .i64 r.y0, .int .i64 r.x1, .int .i64 r.y1] 23)
theorem Own4.lt {w : World} {b : Nat} {r : R4} (h : Own4 w b r) : b < w.heap.size := by
  rcases Nat.lt_or_ge b w.heap.size with h1 | h1
  · exact h1
  · unfold Own4 at h; rw [Array.getElem?_eq_none h1] at h; cases h
theorem Own4.seen {W w' : World} {b : Nat} {r : R4} (h : Own4 W b r) (hs : Seen W w') : Own4 w' b r := by
  unfold Own4; rw [hs.block b h.lt]; exact h
theorem Own4.new (w : World) (r : R4) : Own4 (w.alloc (.cells #[.int .i64 r.x0, .int .i64 r.y0, .int .i64 r.x1, .int .i64 r.y1] 23)) w.heap.size r := by
  show (w.heap.push _)[w.heap.size]? = _; simp
theorem Own4.box {w : World} {b : Nat} {r : R4} (h : Own4 w b r) : Box w b r := by
  unfold Own4 at h
  refine ⟨?_, ?_, ?_, ?_⟩ <;> (rw [Go.Joins.cell_of_block h]; rfl)
/-- Its cells can be read and written, in every world that holds the blocks of W. -/
theorem Own4.rules {W : World} {b : Nat} {r : R4} (h : Own4 W b r) : ∀ w', Seen W w' →
    (w'.cell? ⟨b, 0, none⟩ = some (.int .i64 r.x0) ∧ w'.cell? ⟨b, 1, none⟩ = some (.int .i64 r.y0) ∧ w'.cell? ⟨b, 2, none⟩ = some (.int .i64 r.x1) ∧ w'.cell? ⟨b, 3, none⟩ = some (.int .i64 r.y1)) ∧
    (w'.frozen? ⟨b, 0, none⟩ = false ∧ w'.frozen? ⟨b, 1, none⟩ = false ∧ w'.frozen? ⟨b, 2, none⟩ = false ∧ w'.frozen? ⟨b, 3, none⟩ = false) := fun w' hs =>
  ⟨(h.seen hs).box, by
    have h' := h.seen hs
    unfold Own4 at h'
    exact ⟨Go.Joins.unfrozen_of_block h' 0, Go.Joins.unfrozen_of_block h' 1, Go.Joins.unfrozen_of_block h' 2, Go.Joins.unfrozen_of_block h' 3⟩⟩
theorem Own4.set {w : World} {b : Nat} {r : R4} (h : Own4 w b r) (q : R4) :
    Own4 ((((w.setCell ⟨b, 0, none⟩ (.int .i64 q.x0)).setCell ⟨b, 1, none⟩ (.int .i64 q.y0)).setCell ⟨b, 2, none⟩ (.int .i64 q.x1)).setCell ⟨b, 3, none⟩ (.int .i64 q.y1)) b q := by
  unfold Own4 at *
  have h1 := Go.Joins.block_setCell (i := 0) h (.int .i64 q.x0)
  have h2 := Go.Joins.block_setCell (i := 1) h1 (.int .i64 q.y0)
  have h3 := Go.Joins.block_setCell (i := 2) h2 (.int .i64 q.x1)
  have h4 := Go.Joins.block_setCell (i := 3) h3 (.int .i64 q.y1)
  rw [h4]; rfl
theorem Own4.other {w : World} {b : Nat} {r : R4} (h : Own4 w b r) {p : Addr} (hp : b ≠ p.block) (u : Value) : Own4 (w.setCell p u) b r := by
  unfold Own4; rw [Below.heap_setCell _ _ _ _ hp]; exact h
end Go.Proofs.Ytnoolbonejamcaa
