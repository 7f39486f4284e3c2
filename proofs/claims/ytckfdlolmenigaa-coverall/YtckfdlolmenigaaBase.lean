/- Contracts of the small functions of package rect and of their reference twins, over the translation of this seat; no conditions beyond those written in each theorem. -/
import Derived.Test.YtckfdlolmenigaaRows
import Derived.WalkKit
import Derived.ProofKit
import Derived.OpenShut
import Derived.Lib.Hide
import Derived.Handy
namespace Go.Proofs.Ytckfdlolmenigaa
open Go.ChangeShapes Go.WideShapes Go.ChangeAt Go.RowKit

/-- A rectangle's four numbers. -/
structure R4 where
  x0 : Int
  y0 : Int
  x1 : Int
  y1 : Int

/-- It has no point. -/
def emptyB (r : R4) : Bool := decide (r.x1 ≤ r.x0 ∨ r.y1 ≤ r.y0)
/-- The point is in it. -/
def holdsB (r : R4) (x y : Int) : Bool := decide (r.x0 ≤ x ∧ x < r.x1 ∧ r.y0 ≤ y ∧ y < r.y1)

theorem ret_bool {a b : Bool} (h : a = b) : Ending.returned (.bool a) = .returned (.bool b) := by rw [h]
theorem bool_iff {a b : Bool} (h : a = true ↔ b = true) : a = b := Bool.eq_iff_iff.2 h

theorem empty_any (r : R4) (w : World) :
    Calls Try.prog 28 #[.agg #[.int .i64 r.x0, .int .i64 r.y0, .int .i64 r.x1, .int .i64 r.y1]] w fun e w' => e = .returned (.bool (emptyB r)) ∧ Below w.heap.size w w' := by
  have H : Hid (emptyB r = decide (r.x1 ≤ r.x0 ∨ r.y1 ≤ r.y0)) := rfl
  go_enter Try.func28, Try.ntmps28
  go_wp2
  all_goals
    go_ret
    exact ⟨ret_bool (bool_iff (by rw [H.out]; simp <;> omega)), by go_grown⟩

theorem refHolds_any (r : R4) (x y : Int) (w : World) :
    Calls Try.prog 9 #[.agg #[.int .i64 r.x0, .int .i64 r.y0, .int .i64 r.x1, .int .i64 r.y1], .int .i64 x, .int .i64 y] w fun e w' => e = .returned (.bool (holdsB r x y)) ∧ Below w.heap.size w w' := by
  have H : Hid (holdsB r x y = decide (r.x0 ≤ x ∧ x < r.x1 ∧ r.y0 ≤ y ∧ y < r.y1)) := rfl
  go_enter Try.func9, Try.ntmps9
  go_wp2
  all_goals
    go_ret
    exact ⟨ret_bool (bool_iff (by rw [H.out]; simp <;> omega)), by go_grown⟩

theorem refEmpty_any (r : R4) (w : World) :
    Calls Try.prog 21 #[.agg #[.int .i64 r.x0, .int .i64 r.y0, .int .i64 r.x1, .int .i64 r.y1]] w fun e w' => e = .returned (.bool (emptyB r)) ∧ Below w.heap.size w w' := by
  have H : Hid (emptyB r = decide (r.x1 ≤ r.x0 ∨ r.y1 ≤ r.y0)) := rfl
  go_enter Try.func21, Try.ntmps21
  go_wp2
  all_goals
    go_ret
    exact ⟨ret_bool (bool_iff (by rw [H.out]; simp <;> omega)), by go_grown⟩

/-- What two have in common. -/
def meetR (a b : R4) : R4 :=
  if max a.x0 b.x0 < min a.x1 b.x1 ∧ max a.y0 b.y0 < min a.y1 b.y1 then ⟨max a.x0 b.x0, max a.y0 b.y0, min a.x1 b.x1, min a.y1 b.y1⟩ else ⟨0, 0, 0, 0⟩
/-- The least one around two. -/
def spanR (a b : R4) : R4 := ⟨min a.x0 b.x0, min a.y0 b.y0, max a.x1 b.x1, max a.y1 b.y1⟩

end Go.Proofs.Ytckfdlolmenigaa
