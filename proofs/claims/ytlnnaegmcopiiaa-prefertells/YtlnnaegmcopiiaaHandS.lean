/- Small facts for regions taken step by step: a style loaded and compared, strings and numbers compared; no conditions beyond those written in each theorem. -/
import Derived.Test.YtlnnaegmcopiiaaHand
import Derived.Test.YtlnnaegmcopiiaaEqS
namespace Go.Proofs.Ytlnnaegmcopiiaa
open Go.ChangeShapes Go.WideShapes Go.ChangeAt Go.RowKit
set_option maxRecDepth 100000
/-- Number i is not wanted (its guard says no): it is taken first. -/
theorem hTakeNo {P : Program} {ops : Array Oper} {Q : Exit → Act → World → Prop} {md : Region.Mode} {S : World → Prop} (i : Nat) (d : Option Tmp) {fuel : Nat} {listed : Array Bool} {a : Act} {w : World} (hlt : decide (i < ops.size) = true) (hd : (opN ops i).dst = d)
    (hs : Region.noSelect ops = true) (hf : Region.free md ops listed i = true) (hr : (Region.ready md ops listed).contains i = true) (hw : Region.wanted (opN ops i) (yielded ops a.tmps) = false)
    (hQ : ∀ c a w, Q (.panic c) (a.put d undef) w → Q (.panic c) a w) (hS : S w)
    (h : wpAnyH P md ops Q S fuel (listed.setIfInBounds i true) (a.put d undef) w) : wpAnyH P md ops Q S (fuel + 1) listed a w := by
  subst hd
  exact wpAnyH_take (opN_at hlt) hs hf hr hQ (Or.inr ⟨hw, rfl⟩) hS h
theorem run_loadAtS {w : World} {X : Nat} {s : Sty} (h : Hs w X s) (hf : Full s) : (Instr.loadAt 39 (.pointer (some ⟨X, 0, none⟩))).run Try.prog w = .ok (sv s) w := by
  simp only [Instr.loadAt, Instr.sureAddr, Sem.run_bind, Sem.run_pure, Result.andThen_ok, run_loadS h hf]
theorem str_eql (x : _) (p q : Operand) (w : World) : ((do eqGuard .eql 9 p q (.string x) (.string x); binOp .eql 9 (.string x) (.string x)) : Sem Value).run Try.prog w = .ok (.bool true) w := by
  go_simp
theorem int_eql (x : Int) (p q : Operand) (w : World) : ((do eqGuard .eql 3 p q (.int .i64 x) (.int .i64 x); binOp .eql 3 (.int .i64 x) (.int .i64 x)) : Sem Value).run Try.prog w = .ok (.bool true) w := by
  go_simp
theorem sty_eql (s : Sty) (hf : Full s) (p q : Operand) (w : World) : ((do eqGuard .eql 39 p q (sv s) (sv s); binOp .eql 39 (sv s) (sv s)) : Sem Value).run Try.prog w = .ok (.bool true) w := by
  rw [Sem.run_bind, guard_self, Result.andThen_ok, eql_self s hf]
theorem sty_neq (s : Sty) (hf : Full s) (p q : Operand) (w : World) : ((do eqGuard .neq 39 p q (sv s) (sv s); binOp .neq 39 (sv s) (sv s)) : Sem Value).run Try.prog w = .ok (.bool false) w := by
  rw [Sem.run_bind, guard_self, Result.andThen_ok, neq_self s hf]
end Go.Proofs.Ytlnnaegmcopiiaa
