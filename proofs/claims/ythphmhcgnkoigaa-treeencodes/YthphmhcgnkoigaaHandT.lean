/- Small facts for regions taken step by step: strings and numbers compared; no conditions beyond those written in each theorem. -/
import Derived.Test.YthphmhcgnkoigaaHandS
namespace Go.Proofs.Ythphmhcgnkoigaa
open Go.ChangeShapes Go.WideShapes Go.ChangeAt Go.RowKit
set_option maxRecDepth 100000
theorem str_neq (x : _) (p q : Operand) (w : World) : ((do eqGuard .neq 9 p q (.string x) (.string x); binOp .neq 9 (.string x) (.string x)) : Sem Value).run Try.prog w = .ok (.bool false) w := by
  go_simp
theorem num_neq (x : Int) (p q : Operand) (w : World) : ((do eqGuard .neq 3 p q (.int .i64 x) (.int .i64 x); binOp .neq 3 (.int .i64 x) (.int .i64 x)) : Sem Value).run Try.prog w = .ok (.bool false) w := by
  go_simp
end Go.Proofs.Ythphmhcgnkoigaa
