/- Contract of Meet's reference twin. -/
import Derived.Test.YtckfdlolmenigaaMeet
namespace Go.Proofs.Ytckfdlolmenigaa
open Go.ChangeShapes Go.WideShapes Go.ChangeAt Go.RowKit
theorem agg4 {p q r s p' q' r' s' : Int} (h1 : p = p') (h2 : q = q') (h3 : r = r') (h4 : s = s') : Ending.returned (.agg #[.int .i64 p, .int .i64 q, .int .i64 r, .int .i64 s]) = .returned (.agg #[.int .i64 p', .int .i64 q', .int .i64 r', .int .i64 s']) := by
  rw [h1, h2, h3, h4]
set_option maxHeartbeats 8000000 in
theorem refMeet_any (a b : R4) (w : World) :
    Calls Try.prog 25 #[.agg #[.int .i64 a.x0, .int .i64 a.y0, .int .i64 a.x1, .int .i64 a.y1], .agg #[.int .i64 b.x0, .int .i64 b.y0, .int .i64 b.x1, .int .i64 b.y1]] w fun e w' => e = .returned (.agg #[.int .i64 (meetR a b).x0, .int .i64 (meetR a b).y0, .int .i64 (meetR a b).x1, .int .i64 (meetR a b).y1]) ∧ Below w.heap.size w w' := by
  go_enter Try.func25, Try.ntmps25
  go_wp2
  all_goals go_returns
  all_goals refine ⟨?_, by go_grown⟩
  all_goals (rename_i hL; (try simp only [Bool.not_eq_true', Bool.not_eq_false', decide_eq_true_eq, decide_eq_false_iff_not] at hL))
  all_goals first | (rw [meetR_f (by omega)]) | (rw [meetR_t (by omega)]; dsimp only; exact agg4 (by omega) (by omega) (by omega) (by omega))
end Go.Proofs.Ytckfdlolmenigaa
