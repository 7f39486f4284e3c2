/- Steps of a drawn region where several operations may come up: a call, a store, an alloc as one of them; and what its guard refuses. No number of a seat in it; no conditions beyond those written in each theorem. -/
import Derived.Test.YtlnnaegmcopiiaaHand
namespace Go.Proofs.Ytlnnaegmcopiiaa
section
variable {P : Program} {ops : Array Oper} {Q : Exit → Act → World → Prop} {md : Region.Mode} {S : World → Prop}
/-- Number i is not wanted (its guard says no): it is taken first. -/
theorem hTakeNoF (i : Nat) (d : Option Tmp) {fuel : Nat} {listed : Array Bool} {a : Act} {w : World} (hlt : decide (i < ops.size) = true) (hd : (opN ops i).dst = d)
    (hs : Region.noSelect ops = true) (hf : Region.free md ops listed i = true) (hr : (Region.ready md ops listed).contains i = true) (hw : Region.wanted (opN ops i) (yielded ops a.tmps) = false)
    (hQ : ∀ c a w, Q (.panic c) (a.put d undef) w → Q (.panic c) a w) (hS : S w)
    (h : wpAnyH P md ops Q S fuel (listed.setIfInBounds i true) (a.put d undef) w) : wpAnyH P md ops Q S (fuel + 1) listed a w := by
  subst hd
  exact wpAnyH_take (opN_at hlt) hs hf hr hQ (Or.inr ⟨hw, rfl⟩) hS h
/-- One of those that may come up enters function f. -/
theorem aCall (i : Nat) (d : Option Tmp) (f : FuncId) (args : Array Value) {rs : List Nat} {fuel : Nat} {listed : Array Bool} {a : Act} {w : World} (hlt : decide (i < ops.size) = true) (hd : (opN ops i).dst = d)
    (hw : Region.wanted (opN ops i) (yielded ops a.tmps) = true) (hx : (execOp a.eval (opN ops i)).run P w = .ok (.enter f args) w)
    (h : Calls P f args w fun e w' => ∃ v, e = .returned v ∧ S w' ∧ wpAnyH P md ops Q S fuel (listed.setIfInBounds i true) (a.put d v) w')
    (hs : AllReadyH P md ops Q S fuel listed a w rs) : AllReadyH P md ops Q S fuel listed a w (i :: rs) := by
  subst hd
  refine AllReadyH.cons (opN_at hlt) (fun K hK => ?_) hs
  rw [if_pos hw]
  unfold Oper.wp
  rw [hx, Oper.upon_enter]
  refine h.mono fun e w' hh => ?_
  obtain ⟨v, rfl, hS, hn⟩ := hh
  exact hK.out _ _ hS (fun _ => hn)
/-- One of those that may come up gives no value (a store). -/
theorem aSkip (i : Nat) (d : Option Tmp) {rs : List Nat} {fuel : Nat} {listed : Array Bool} {a : Act} {w w' : World} (hlt : decide (i < ops.size) = true) (hd : (opN ops i).dst = d)
    (hw : Region.wanted (opN ops i) (yielded ops a.tmps) = true) (hx : (execOp a.eval (opN ops i)).run P w = .ok .skip w') (hS : S w')
    (h : wpAnyH P md ops Q S fuel (listed.setIfInBounds i true) (a.put d undef) w')
    (hs : AllReadyH P md ops Q S fuel listed a w rs) : AllReadyH P md ops Q S fuel listed a w (i :: rs) := by
  subst hd
  refine AllReadyH.cons (opN_at hlt) (fun K hK => ?_) hs
  rw [if_pos hw]
  unfold Oper.wp
  rw [hx, Oper.upon_skip]
  exact hK.out _ _ hS (fun _ => h)
/-- One of those that may come up gives a value and makes memory. -/
theorem aRun (i : Nat) (d : Option Tmp) (v : Value) {rs : List Nat} {fuel : Nat} {listed : Array Bool} {a : Act} {w w' : World} (hlt : decide (i < ops.size) = true) (hd : (opN ops i).dst = d)
    (hw : Region.wanted (opN ops i) (yielded ops a.tmps) = true) (hx : (execOp a.eval (opN ops i)).run P w = .ok (.value v) w') (hS : S w')
    (h : wpAnyH P md ops Q S fuel (listed.setIfInBounds i true) (a.put d v) w')
    (hs : AllReadyH P md ops Q S fuel listed a w rs) : AllReadyH P md ops Q S fuel listed a w (i :: rs) := by
  subst hd
  refine AllReadyH.cons (opN_at hlt) (fun K hK => ?_) hs
  rw [if_pos hw]
  unfold Oper.wp
  rw [hx, Oper.upon_value]
  exact hK.out _ _ hS (fun _ => h)
end
end Go.Proofs.Ytlnnaegmcopiiaa
