/- What is left of one rectangle without another one, as a list. -/
import Derived.Test.YtckfdlolmenigaaSeen
import Derived.Test.YtckfdlolmenigaaMeet
namespace Go.Proofs.Ytckfdlolmenigaa
open Go.ChangeShapes Go.WideShapes Go.ChangeAt Go.RowKit
/-- The cells of a list of rectangles, in a row. -/
def flat : List R4 → List Value
  | [] => []
  | r :: l => .int .i64 r.x0 :: .int .i64 r.y0 :: .int .i64 r.x1 :: .int .i64 r.y1 :: flat l
theorem flat_length (l : List R4) : (flat l).length = l.length * 4 := by
  induction l with
  | nil => rfl
  | cons r l ih => simp [flat, ih]; omega
theorem flat_append (l m : List R4) : flat (l ++ m) = flat l ++ flat m := by
  induction l with
  | nil => rfl
  | cons r l ih => simp [flat, ih]
/-- The parts above, below, to the left, to the right, empty or not. -/
def partsL (a m : R4) : List R4 := [⟨a.x0, a.y0, a.x1, m.y0⟩, ⟨a.x0, m.y1, a.x1, a.y1⟩, ⟨a.x0, m.y0, m.x0, m.y1⟩, ⟨m.x1, m.y0, a.x1, m.y1⟩]
/-- Those that are not empty. -/
def solid (l : List R4) : List R4 := l.filter fun r => !emptyB r
theorem solid_snoc_t {l : List R4} {r : R4} (h : emptyB r = true) : solid (l ++ [r]) = solid l := by
  unfold solid; rw [List.filter_append]; simp [h]
theorem solid_snoc_f {l : List R4} {r : R4} (h : emptyB r = false) : solid (l ++ [r]) = solid l ++ [r] := by
  unfold solid; rw [List.filter_append]; simp [h]
/-- What is left of a without b. -/
def cutL (a b : R4) : List R4 := if emptyB a then [] else if emptyB (meetR a b) then [a] else solid (partsL a (meetR a b))
theorem empty_ex (r : R4) (w : World) :
    Calls Try.prog 28 #[.agg #[.int .i64 r.x0, .int .i64 r.y0, .int .i64 r.x1, .int .i64 r.y1]] w fun e w' => e = .returned (.bool (emptyB r)) ∧ w' = w.alloc (.cells #[.int .i64 r.x0, .int .i64 r.y0, .int .i64 r.x1, .int .i64 r.y1] 23) := by
  have H : Hid (emptyB r = decide (r.x1 ≤ r.x0 ∨ r.y1 ≤ r.y0)) := rfl
  go_enter Try.func28, Try.ntmps28
  go_wp2
  all_goals
    go_ret
    exact ⟨ret_bool (bool_iff (by rw [H.out]; simp <;> omega)), rfl⟩
theorem index35_0 (w : World) (c0 c1 c2 c3 c4 c5 c6 c7 c8 c9 c10 c11 c12 c13 c14 c15 : Value) : (Instr.index 52 (.agg #[c0, c1, c2, c3, c4, c5, c6, c7, c8, c9, c10, c11, c12, c13, c14, c15]) (.int .i64 0)).run Try.prog w = .ok (.agg #[c0, c1, c2, c3]) w := by kernel_rfl
theorem index35_1 (w : World) (c0 c1 c2 c3 c4 c5 c6 c7 c8 c9 c10 c11 c12 c13 c14 c15 : Value) : (Instr.index 52 (.agg #[c0, c1, c2, c3, c4, c5, c6, c7, c8, c9, c10, c11, c12, c13, c14, c15]) (.int .i64 1)).run Try.prog w = .ok (.agg #[c4, c5, c6, c7]) w := by kernel_rfl
theorem index35_2 (w : World) (c0 c1 c2 c3 c4 c5 c6 c7 c8 c9 c10 c11 c12 c13 c14 c15 : Value) : (Instr.index 52 (.agg #[c0, c1, c2, c3, c4, c5, c6, c7, c8, c9, c10, c11, c12, c13, c14, c15]) (.int .i64 2)).run Try.prog w = .ok (.agg #[c8, c9, c10, c11]) w := by kernel_rfl
theorem index35_3 (w : World) (c0 c1 c2 c3 c4 c5 c6 c7 c8 c9 c10 c11 c12 c13 c14 c15 : Value) : (Instr.index 52 (.agg #[c0, c1, c2, c3, c4, c5, c6, c7, c8, c9, c10, c11, c12, c13, c14, c15]) (.int .i64 3)).run Try.prog w = .ok (.agg #[c12, c13, c14, c15]) w := by kernel_rfl
theorem info23 : (Try.prog.info? 23).map (fun i => (i.zero, i.size, i.bytes)) = some (some (.agg #[.int .i64 0, .int .i64 0, .int .i64 0, .int .i64 0]), 4, 32) := by kernel_rfl
/-- The four cells of a new block that holds one rectangle. -/
theorem new_cells (w : World) (r : R4) : ∀ j v, (flat [r])[j]? = some v → (w.alloc (.cells #[.int .i64 r.x0, .int .i64 r.y0, .int .i64 r.x1, .int .i64 r.y1] 23)).cell? ((⟨w.heap.size, 0, none⟩ : Addr).add j) = some v := by
  intro j v hj
  match j, hj with
  | 0, hj => simp [flat] at hj; subst hj; simp [Addr.add]
  | 1, hj => simp [flat] at hj; subst hj; simp [Addr.add]
  | 2, hj => simp [flat] at hj; subst hj; simp [Addr.add]
  | 3, hj => simp [flat] at hj; subst hj; simp [Addr.add]
  | (j + 4), hj => simp [flat] at hj
theorem new_cells_at (w : World) (r : R4) (g : Nat) (hg : g = w.heap.size) : ∀ j v, (flat [r])[j]? = some v → (w.alloc (.cells #[.int .i64 r.x0, .int .i64 r.y0, .int .i64 r.x1, .int .i64 r.y1] 23)).cell? ((⟨g, 0, none⟩ : Addr).add j) = some v := by
  subst hg; exact new_cells w r
theorem flat_one (l : List R4) : ∀ u ∈ flat l, u.oneCell' = true := by
  induction l with
  | nil => intro u hu; simp [flat] at hu
  | cons r l ih =>
    intro u hu
    simp only [flat, List.mem_cons] at hu
    rcases hu with rfl | rfl | rfl | rfl | hu
    · rfl
    · rfl
    · rfl
    · rfl
    · exact ih u hu
theorem solid_length (l : List R4) : (solid l).length ≤ l.length := List.length_filter_le _ _
end Go.Proofs.Ytckfdlolmenigaa
