/- Small laws for the walks of the laws on styles; no conditions beyond those written in each theorem. -/
import Derived.Test.YthphmhcgnkoigaaOpenS
namespace Go.Proofs.Ythphmhcgnkoigaa
open Go.ChangeShapes Go.WideShapes Go.ChangeAt Go.RowKit
set_option maxRecDepth 100000
theorem load_style {w : World} {X : Nat} {s : Sty} (h : Hs w X s) (hf : Full s) : (Instr.loadAt 47 (.pointer (some ⟨X, 0, none⟩))).run Try.prog w = .ok (sv s) w := by
  simp only [Instr.loadAt, Instr.sureAddr, Sem.run_bind, Sem.run_pure, Result.andThen_ok, run_loadS h hf]
theorem quiet_loadS {op : Oper} {a : Act} {C : World → Prop} {w : World} {s : Sty} {X : Nat} (x : Operand) (ho : op.op = .load 47 x) (hx : a.eval x = .pointer (some ⟨X, 0, none⟩))
    (hl : (Instr.loadAt 47 (.pointer (some ⟨X, 0, none⟩))).run Try.prog w = .ok (sv s) w) : Oper.quietAt Try.prog op a C w (sv s) := by
  unfold Oper.quietAt execOp
  simp only [ho, hx, Sem.run_bind, hl, Result.andThen_ok, Sem.run_pure]
  exact ⟨rfl, rfl⟩
theorem isB {f : FuncId} {args : Array Value} {w : World} {a b : Bool} (h : Calls Try.prog f args w fun e w' => e = .returned (.bool a) ∧ Seen w w') (e : a = b) : Calls Try.prog f args w fun e w' => e = .returned (.bool b) ∧ Below w.heap.size w w' := by rw [← e]; exact h
end Go.Proofs.Ythphmhcgnkoigaa
