/- Small facts for the walk of StyleGets; no conditions beyond those written in each theorem. -/
import Derived.Test.YtgmoolleckaiaaaHandS
import Derived.Test.YtgmoolleckaiaaaCutsBase
import Derived.Test.YtgmoolleckaiaaaFrom
namespace Go.Proofs.Ytgmoolleckaiaaa
open Go.ChangeShapes Go.WideShapes Go.ChangeAt Go.RowKit
theorem run_loadBo {w : World} {p : Addr} {b : Bool} (h : w.cell? p = some (.bool b)) : (Instr.loadAt 4 (.pointer (some p))).run Try.prog w = .ok (.bool b) w := by
  go_simp
theorem run_loadSl {w : World} {p : Addr} {a : Option Addr} {n c : Nat} (h : w.cell? p = some (.slice a n c)) : (Instr.loadAt 30 (.pointer (some p))).run Try.prog w = .ok (.slice a n c) w := by
  go_simp
theorem run_field0 (X : Nat) (w : World) : (Instr.fieldAt 43 (.pointer (some ⟨X, 0, none⟩)) 0).run Try.prog w = .ok (.pointer (some ⟨X, 0, none⟩)) w := by
  go_simp
theorem run_field1 (X : Nat) (w : World) : (Instr.fieldAt 43 (.pointer (some ⟨X, 0, none⟩)) 1).run Try.prog w = .ok (.pointer (some ⟨X, 1, none⟩)) w := by
  go_simp
theorem bool_neq (b : Bool) (p q : Operand) (w : World) : ((do eqGuard .neq 4 p q (.bool b) (.bool b); binOp .neq 4 (.bool b) (.bool b)) : Sem Value).run Try.prog w = .ok (.bool false) w := by
  go_simp
theorem int_neq (x : Int) (p q : Operand) (w : World) : ((do eqGuard .neq 3 p q (.int .i64 x) (.int .i64 x); binOp .neq 3 (.int .i64 x) (.int .i64 x)) : Sem Value).run Try.prog w = .ok (.bool false) w := by
  go_simp
theorem int_sub (a b k : Nat) (h : a = k + b) (ha : a ≤ 1000) (p q : Operand) (w : World) : ((do eqGuard .sub 3 p q (.int .i64 (a : Int)) (.int .i64 (b : Int)); binOp .sub 3 (.int .i64 (a : Int)) (.int .i64 (b : Int))) : Sem Value).run Try.prog w = .ok (.int .i64 (k : Int)) w := by
  have e : IntKind.i64.wrap ((a : Int) - (b : Int)) = (k : Int) := by rw [IntKind.wrap_i64]; omega
  go_simp
  rw [IntKind.wrap_i64]; omega
theorem conv_bs {w : World} {b off n c : Nat} {l : List Int} (h : BS w (some ⟨b, off, none⟩) n l) (hn : 0 < n) : (convert 30 9 (.slice (some ⟨b, off, none⟩) n c)).run Try.prog w = .ok (.string (strOfNums l)) w := by
  obtain ⟨b', off', e, hc⟩ := h.2 hn
  cases e
  exact run_convert_bytes_arg w 30 5 Try.underlying30 Try.underlying5 b off n c l h.1 hc 9 Try.underlying9
end Go.Proofs.Ytgmoolleckaiaaa
