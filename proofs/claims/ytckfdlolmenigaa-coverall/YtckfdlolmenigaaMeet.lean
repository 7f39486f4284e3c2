/- Contracts of Meet, of the least rectangle around two, of Same and of Inside's reference twin. -/
import Derived.Test.YtckfdlolmenigaaEq
namespace Go.Proofs.Ytckfdlolmenigaa
open Go.ChangeShapes Go.WideShapes Go.ChangeAt Go.RowKit
theorem ite_max (p q : Int) : (if p < q then q else p) = max p q := by omega
theorem ite_min (p q : Int) : (if q < p then q else p) = min p q := by omega
theorem meetR_t {a b : R4} (h : max a.x0 b.x0 < min a.x1 b.x1 ∧ max a.y0 b.y0 < min a.y1 b.y1) : meetR a b = ⟨max a.x0 b.x0, max a.y0 b.y0, min a.x1 b.x1, min a.y1 b.y1⟩ := by
  unfold meetR; rw [if_pos h]
theorem meetR_f {a b : R4} (h : ¬ (max a.x0 b.x0 < min a.x1 b.x1 ∧ max a.y0 b.y0 < min a.y1 b.y1)) : meetR a b = ⟨0, 0, 0, 0⟩ := by
  unfold meetR; rw [if_neg h]
theorem meet_any (a b : R4) (w : World) :
    Calls Try.prog 31 #[.agg #[.int .i64 a.x0, .int .i64 a.y0, .int .i64 a.x1, .int .i64 a.y1], .agg #[.int .i64 b.x0, .int .i64 b.y0, .int .i64 b.x1, .int .i64 b.y1]] w fun e w' => e = .returned (.agg #[.int .i64 (meetR a b).x0, .int .i64 (meetR a b).y0, .int .i64 (meetR a b).x1, .int .i64 (meetR a b).y1]) ∧ Below w.heap.size w w' := by
  have hmx := ite_max
  have hmn := ite_min
  go_enter Try.func31, Try.ntmps31
  go_wp2
  all_goals go_returns
  all_goals refine ⟨?_, by go_grown⟩
  all_goals first | rw [meetR_f (by omega)] | rw [meetR_t (by omega)]
/-- Two have the same points. -/
def sameB (a b : R4) : Bool := eq4 a.x0 a.y0 a.x1 a.y1 b.x0 b.y0 b.x1 b.y1 || (emptyB a && emptyB b)
end Go.Proofs.Ytckfdlolmenigaa
