/- Small facts for regions taken step by step: numbers turned and summed, an append; no conditions beyond those written in each theorem. -/
import Derived.Test.YthphmhcgnkoigaaHandS
import Derived.Test.YthphmhcgnkoigaaRef
namespace Go.Proofs.Ythphmhcgnkoigaa
open Go.ChangeShapes Go.WideShapes Go.ChangeAt Go.RowKit
set_option maxRecDepth 100000
theorem u64_of (n : Nat) (h : n ≤ 1000000) (w : World) : (convert 3 39 (.int .i64 (n : Int))).run Try.prog w = .ok (.int .u64 (n : Int)) w := by
  have e : IntKind.u64.wrap (n : Int) = (n : Int) := by rw [IntKind.wrap_u64]; omega
  go_simp
theorem u8_of (n : Nat) (h : n ≤ 1000000) (w : World) : (convert 5 39 (.int .u8 (n : Int))).run Try.prog w = .ok (.int .u64 (n : Int)) w := by
  have e : IntKind.u64.wrap (n : Int) = (n : Int) := by rw [IntKind.wrap_u64]; omega
  go_simp
theorem u64_plus (a b c : Nat) (h : a + b = c) (hc : c ≤ 1000000) (p q : Operand) (w : World) : ((do eqGuard .add 39 p q (.int .u64 (a : Int)) (.int .u64 (b : Int)); binOp .add 39 (.int .u64 (a : Int)) (.int .u64 (b : Int))) : Sem Value).run Try.prog w = .ok (.int .u64 (c : Int)) w := by
  have e : IntKind.u64.wrap ((a : Int) + b) = (c : Int) := by rw [IntKind.wrap_u64]; omega
  go_simp
theorem i64_less (a b : Nat) (h : a = b + 1) (ha : a ≤ 1000000) (p q : Operand) (w : World) : ((do eqGuard .sub 3 p q (.int .i64 (a : Int)) (.int .i64 1); binOp .sub 3 (.int .i64 (a : Int)) (.int .i64 1)) : Sem Value).run Try.prog w = .ok (.int .i64 (b : Int)) w := by
  have e : (a : Int) - 1 = b := by omega
  go_simp
  rw [IntKind.wrap_i64]; omega
theorem run_append_op {o : Oper} {a : Act} {w w' : World} {v u v' : Value} {t : TypeId} (s x : Operand) (ho : o.op = .call { callee := .builtin .append, args := #[s, x], argTypes := #[t, t] }) (hs : a.eval s = v) (hx : a.eval x = u)
    (hr : (Builtin.append_ #[t, t] o.type #[v, u]).run Try.prog w = .ok v' w') : (execOp a.eval o).run Try.prog w = .ok (.value v') w' := by
  unfold execOp
  simp only [ho, resolve, invoke, builtin, Sem.run_bind, Sem.run_pure, Result.andThen_ok, List.map_toArray, List.map_cons, List.map_nil, hs, hx, hr]
end Go.Proofs.Ythphmhcgnkoigaa
