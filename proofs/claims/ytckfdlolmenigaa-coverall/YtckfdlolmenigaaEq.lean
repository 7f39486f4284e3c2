/- How two rectangles are compared. -/
import Derived.Test.YtckfdlolmenigaaBase
namespace Go.Proofs.Ytckfdlolmenigaa
open Go.ChangeShapes Go.WideShapes Go.ChangeAt Go.RowKit
/-- Four numbers are alike four others. -/
def eq4 (p q r s p' q' r' s' : Int) : Bool := decide (p = p' ∧ q = q' ∧ r = r' ∧ s = s')
theorem run_eql23 (w : World) (p q r s p' q' r' s' : Int) : (binOp .eql 23 (.agg #[.int .i64 p, .int .i64 q, .int .i64 r, .int .i64 s]) (.agg #[.int .i64 p', .int .i64 q', .int .i64 r', .int .i64 s'])).run Try.prog w = .ok (.bool (eq4 p q r s p' q' r' s')) w := by
  unfold eq4
  by_cases h1 : p = p'
  · by_cases h2 : q = q'
    · by_cases h3 : r = r'
      · by_cases h4 : s = s'
        · subst h1 h2 h3 h4; go_simp
        · subst h1 h2 h3; go_simp
      · subst h1 h2; go_simp
    · subst h1; go_simp
  · go_simp
theorem run_neq23 (w : World) (p q r s p' q' r' s' : Int) : (binOp .neq 23 (.agg #[.int .i64 p, .int .i64 q, .int .i64 r, .int .i64 s]) (.agg #[.int .i64 p', .int .i64 q', .int .i64 r', .int .i64 s'])).run Try.prog w = .ok (.bool (!eq4 p q r s p' q' r' s')) w := by
  unfold eq4
  by_cases h1 : p = p'
  · by_cases h2 : q = q'
    · by_cases h3 : r = r'
      · by_cases h4 : s = s'
        · subst h1 h2 h3 h4; go_simp
        · subst h1 h2 h3; go_simp
      · subst h1 h2; go_simp
    · subst h1; go_simp
  · go_simp
end Go.Proofs.Ytckfdlolmenigaa
