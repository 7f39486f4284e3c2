/- Texts of the proof, merged: Hand, Fork. -/
import Derived.Deep.RegionHeld3
import Derived.KernelRfl
/- Steps of a region that draws its order, typed one by one (for operations that the walk's simp must not open); no conditions beyond those written in each theorem. -/
namespace Go.Proofs.Ytlnnaegmcopiiaa
section
variable {P : Program} {ops : Array Oper} {Q : Exit → Act → World → Prop} {md : Region.Mode} {S : World → Prop}
/-- Operation number i. -/
def opN (ops : Array Oper) (i : Nat) : Oper := (ops[i]?).getD default
theorem opN_at {i : Nat} (h : decide (i < ops.size) = true) : ops[i]? = some (opN ops i) := by
  have h' := of_decide_eq_true h
  unfold opN
  rw [Array.getElem?_eq_getElem h']; rfl
/-- A computation of a value, as an operation's end. -/
def toNext (s : Sem Value) : Sem Next := do pure (.value (← s))
theorem run_toNext {s : Sem Value} {v : Value} {w w' : World} (h : s.run P w = .ok v w') : (toNext s).run P w = .ok (.value v) w' := by
  unfold toNext
  rw [Sem.run_bind, h]; rfl
theorem run_by {o : Oper} {a : Act} (E : Sem Value) {v : Value} {w w' : World} (he : execOp a.eval o = toNext E) (h : E.run P w = .ok v w') : (execOp a.eval o).run P w = .ok (.value v) w' := by
  rw [he]; exact run_toNext h
/-- Number i is taken first. -/
theorem hTake (i : Nat) (d : Option Tmp) (v : Value) {fuel : Nat} {listed : Array Bool} {a : Act} {w : World} (hlt : decide (i < ops.size) = true) (hd : (opN ops i).dst = d)
    (hs : Region.noSelect ops = true) (hf : Region.free md ops listed i = true) (hr : (Region.ready md ops listed).contains i = true) (hw : Region.wanted (opN ops i) (yielded ops a.tmps) = true)
    (hQ : ∀ c a w, Q (.panic c) (a.put d v) w → Q (.panic c) a w) (hy : ∀ w, S w → (execOp a.eval (opN ops i)).run P w = .ok (.value v) w) (hS : S w)
    (h : wpAnyH P md ops Q S fuel (listed.setIfInBounds i true) (a.put d v) w) : wpAnyH P md ops Q S (fuel + 1) listed a w := by
  subst hd
  exact wpAnyH_take (opN_at hlt) hs hf hr hQ (Or.inl ⟨hw, hy⟩) hS h
/-- Number i alone may come up; it gives a value. -/
theorem hRun (i : Nat) (d : Option Tmp) (v : Value) {fuel : Nat} {listed : Array Bool} {a : Act} {w w' : World} (hlt : decide (i < ops.size) = true) (hd : (opN ops i).dst = d)
    (hr : Region.ready md ops listed = [i]) (hw : Region.wanted (opN ops i) (yielded ops a.tmps) = true)
    (hx : (execOp a.eval (opN ops i)).run P w = .ok (.value v) w') (hS : S w')
    (h : wpAnyH P md ops Q S fuel (listed.setIfInBounds i true) (a.put d v) w') : wpAnyH P md ops Q S (fuel + 1) listed a w := by
  subst hd
  refine wpAnyH_ready hr (by simp) (AllReadyH.cons (opN_at hlt) (fun K hK => ?_) AllReadyH.nil)
  rw [if_pos hw]
  unfold Oper.wp
  rw [hx, Oper.upon_value]
  exact hK.out _ _ hS (fun _ => h)
/-- Number i alone may come up; it enters function f. -/
theorem hCall (i : Nat) (d : Option Tmp) (f : FuncId) (args : Array Value) {fuel : Nat} {listed : Array Bool} {a : Act} {w : World} (hlt : decide (i < ops.size) = true) (hd : (opN ops i).dst = d)
    (hr : Region.ready md ops listed = [i]) (hw : Region.wanted (opN ops i) (yielded ops a.tmps) = true)
    (hx : (execOp a.eval (opN ops i)).run P w = .ok (.enter f args) w)
    (h : Calls P f args w fun e w' => ∃ v, e = .returned v ∧ S w' ∧ wpAnyH P md ops Q S fuel (listed.setIfInBounds i true) (a.put d v) w') : wpAnyH P md ops Q S (fuel + 1) listed a w := by
  subst hd
  refine wpAnyH_ready hr (by simp) (AllReadyH.cons (opN_at hlt) (fun K hK => ?_) AllReadyH.nil)
  rw [if_pos hw]
  unfold Oper.wp
  rw [hx, Oper.upon_enter]
  refine h.mono fun e w' hh => ?_
  obtain ⟨v, rfl, hS, hn⟩ := hh
  exact hK.out _ _ hS (fun _ => hn)
/-- An operation without a value. -/
def toSkip (s : Sem Unit) : Sem Next := do s; pure .skip
theorem run_skip_by {o : Oper} {a : Act} (E : Sem Unit) {w w' : World} (he : execOp a.eval o = toSkip E) (h : E.run P w = .ok () w') : (execOp a.eval o).run P w = .ok .skip w' := by
  rw [he]
  unfold toSkip
  rw [Sem.run_bind, h]; rfl
/-- Number i alone may come up; it gives no value (a store). -/
theorem hSkip (i : Nat) (d : Option Tmp) {fuel : Nat} {listed : Array Bool} {a : Act} {w w' : World} (hlt : decide (i < ops.size) = true) (hd : (opN ops i).dst = d)
    (hr : Region.ready md ops listed = [i]) (hw : Region.wanted (opN ops i) (yielded ops a.tmps) = true)
    (hx : (execOp a.eval (opN ops i)).run P w = .ok .skip w') (hS : S w')
    (h : wpAnyH P md ops Q S fuel (listed.setIfInBounds i true) (a.put d undef) w') : wpAnyH P md ops Q S (fuel + 1) listed a w := by
  subst hd
  refine wpAnyH_ready hr (by simp) (AllReadyH.cons (opN_at hlt) (fun K hK => ?_) AllReadyH.nil)
  rw [if_pos hw]
  unfold Oper.wp
  rw [hx, Oper.upon_skip]
  exact hK.out _ _ hS (fun _ => h)
/-- The frame said anew. -/
theorem hFrame {fuel : Nat} {listed listed' : Array Bool} {a a' : Act} {w : World} (hl : listed = listed') (ha : a = a') (h : wpAnyH P md ops Q S fuel listed' a' w) : wpAnyH P md ops Q S fuel listed a w := by
  subst hl; subst ha; exact h
end
end Go.Proofs.Ytlnnaegmcopiiaa

/- Steps of a drawn region where several operations may come up: a call, a store, an alloc as one of them; and what its guard refuses. No number of a seat in it; no conditions beyond those written in each theorem. -/
namespace Go.Proofs.Ytlnnaegmcopiiaa
section
variable {P : Program} {ops : Array Oper} {Q : Exit → Act → World → Prop} {md : Region.Mode} {S : World → Prop}
/-- Number i is not wanted (its guard says no): it is taken first. -/
theorem hTakeNoF (i : Nat) (d : Option Tmp) {fuel : Nat} {listed : Array Bool} {a : Act} {w : World} (hlt : decide (i < ops.size) = true) (hd : (opN ops i).dst = d)
    (hs : Region.noSelect ops = true) (hf : Region.free md ops listed i = true) (hr : (Region.ready md ops listed).contains i = true) (hw : Region.wanted (opN ops i) (yielded ops a.tmps) = false)
    (hQ : ∀ c a w, Q (.panic c) (a.put d undef) w → Q (.panic c) a w) (hS : S w)
    (h : wpAnyH P md ops Q S fuel (listed.setIfInBounds i true) (a.put d undef) w) : wpAnyH P md ops Q S (fuel + 1) listed a w := by
  subst hd
  exact wpAnyH_take (opN_at hlt) hs hf hr hQ (Or.inr ⟨hw, rfl⟩) hS h
/-- One of those that may come up enters function f. -/
theorem aCall (i : Nat) (d : Option Tmp) (f : FuncId) (args : Array Value) {rs : List Nat} {fuel : Nat} {listed : Array Bool} {a : Act} {w : World} (hlt : decide (i < ops.size) = true) (hd : (opN ops i).dst = d)
    (hw : Region.wanted (opN ops i) (yielded ops a.tmps) = true) (hx : (execOp a.eval (opN ops i)).run P w = .ok (.enter f args) w)
    (h : Calls P f args w fun e w' => ∃ v, e = .returned v ∧ S w' ∧ wpAnyH P md ops Q S fuel (listed.setIfInBounds i true) (a.put d v) w')
    (hs : AllReadyH P md ops Q S fuel listed a w rs) : AllReadyH P md ops Q S fuel listed a w (i :: rs) := by
  subst hd
  refine AllReadyH.cons (opN_at hlt) (fun K hK => ?_) hs
  rw [if_pos hw]
  unfold Oper.wp
  rw [hx, Oper.upon_enter]
  refine h.mono fun e w' hh => ?_
  obtain ⟨v, rfl, hS, hn⟩ := hh
  exact hK.out _ _ hS (fun _ => hn)
/-- One of those that may come up gives no value (a store). -/
theorem aSkip (i : Nat) (d : Option Tmp) {rs : List Nat} {fuel : Nat} {listed : Array Bool} {a : Act} {w w' : World} (hlt : decide (i < ops.size) = true) (hd : (opN ops i).dst = d)
    (hw : Region.wanted (opN ops i) (yielded ops a.tmps) = true) (hx : (execOp a.eval (opN ops i)).run P w = .ok .skip w') (hS : S w')
    (h : wpAnyH P md ops Q S fuel (listed.setIfInBounds i true) (a.put d undef) w')
    (hs : AllReadyH P md ops Q S fuel listed a w rs) : AllReadyH P md ops Q S fuel listed a w (i :: rs) := by
  subst hd
  refine AllReadyH.cons (opN_at hlt) (fun K hK => ?_) hs
  rw [if_pos hw]
  unfold Oper.wp
  rw [hx, Oper.upon_skip]
  exact hK.out _ _ hS (fun _ => h)
/-- One of those that may come up gives a value and makes memory. -/
theorem aRun (i : Nat) (d : Option Tmp) (v : Value) {rs : List Nat} {fuel : Nat} {listed : Array Bool} {a : Act} {w w' : World} (hlt : decide (i < ops.size) = true) (hd : (opN ops i).dst = d)
    (hw : Region.wanted (opN ops i) (yielded ops a.tmps) = true) (hx : (execOp a.eval (opN ops i)).run P w = .ok (.value v) w') (hS : S w')
    (h : wpAnyH P md ops Q S fuel (listed.setIfInBounds i true) (a.put d v) w')
    (hs : AllReadyH P md ops Q S fuel listed a w rs) : AllReadyH P md ops Q S fuel listed a w (i :: rs) := by
  subst hd
  refine AllReadyH.cons (opN_at hlt) (fun K hK => ?_) hs
  rw [if_pos hw]
  unfold Oper.wp
  rw [hx, Oper.upon_value]
  exact hK.out _ _ hS (fun _ => h)
end
end Go.Proofs.Ytlnnaegmcopiiaa
