/- Texts of the proof, merged: Hand, Fork, Try, Ask. -/
import Derived.Deep.RegionHeld3
import Derived.KernelRfl
import Derived.Test.YtngeaigkafamiaaGreatM9
import Derived.Defers
import Derived.Recover
namespace Go.Proofs.YtngeaigkafamiaaGreat
section
variable {P : Program} {ops : Array Oper} {Q : Exit → Act → World → Prop} {md : Region.Mode} {S : World → Prop}
def opN (ops : Array Oper) (i : Nat) : Oper := (ops[i]?).getD default
theorem opN_at {i : Nat} (h : decide (i < ops.size) = true) : ops[i]? = some (opN ops i) := by
  have h' := of_decide_eq_true h
  unfold opN
  rw [Array.getElem?_eq_getElem h']; rfl
def toNext (s : Sem Value) : Sem Next := do pure (.value (← s))
theorem run_toNext {s : Sem Value} {v : Value} {w w' : World} (h : s.run P w = .ok v w') : (toNext s).run P w = .ok (.value v) w' := by
  unfold toNext
  rw [Sem.run_bind, h]; rfl
theorem run_by {o : Oper} {a : Act} (E : Sem Value) {v : Value} {w w' : World} (he : execOp a.eval o = toNext E) (h : E.run P w = .ok v w') : (execOp a.eval o).run P w = .ok (.value v) w' := by
  rw [he]; exact run_toNext h
theorem hTake (i : Nat) (d : Option Tmp) (v : Value) {fuel : Nat} {listed : Array Bool} {a : Act} {w : World} (hlt : decide (i < ops.size) = true) (hd : (opN ops i).dst = d)
    (hs : Region.noSelect ops = true) (hf : Region.free md ops listed i = true) (hr : (Region.ready md ops listed).contains i = true) (hw : Region.wanted (opN ops i) (yielded ops a.tmps) = true)
    (hQ : ∀ c a w, Q (.panic c) (a.put d v) w → Q (.panic c) a w) (hy : ∀ w, S w → (execOp a.eval (opN ops i)).run P w = .ok (.value v) w) (hS : S w)
    (h : wpAnyH P md ops Q S fuel (listed.setIfInBounds i true) (a.put d v) w) : wpAnyH P md ops Q S (fuel + 1) listed a w := by
  subst hd
  exact wpAnyH_take (opN_at hlt) hs hf hr hQ (Or.inl ⟨hw, hy⟩) hS h
theorem hRun (i : Nat) (d : Option Tmp) (v : Value) {fuel : Nat} {listed : Array Bool} {a : Act} {w w' : World} (hlt : decide (i < ops.size) = true) (hd : (opN ops i).dst = d)
    (hr : Region.ready md ops listed = [i]) (hw : Region.wanted (opN ops i) (yielded ops a.tmps) = true)
    (hx : (execOp a.eval (opN ops i)).run P w = .ok (.value v) w') (hS : S w')
    (h : wpAnyH P md ops Q S fuel (listed.setIfInBounds i true) (a.put d v) w') : wpAnyH P md ops Q S (fuel + 1) listed a w := by
  subst hd
  refine wpAnyH_ready hr (by simp) (AllReadyH.cons (opN_at hlt) (fun K hK => ?_) AllReadyH.nil)
  rw [if_pos hw]
  unfold Oper.wp
  rw [hx, Oper.upon_value]
  exact hK.out _ _ hS (fun _ => h)
theorem hCall (i : Nat) (d : Option Tmp) (f : FuncId) (args : Array Value) {fuel : Nat} {listed : Array Bool} {a : Act} {w : World} (hlt : decide (i < ops.size) = true) (hd : (opN ops i).dst = d)
    (hr : Region.ready md ops listed = [i]) (hw : Region.wanted (opN ops i) (yielded ops a.tmps) = true)
    (hx : (execOp a.eval (opN ops i)).run P w = .ok (.enter f args) w)
    (h : Calls P f args w fun e w' => ∃ v, e = .returned v ∧ S w' ∧ wpAnyH P md ops Q S fuel (listed.setIfInBounds i true) (a.put d v) w') : wpAnyH P md ops Q S (fuel + 1) listed a w := by
  subst hd
  refine wpAnyH_ready hr (by simp) (AllReadyH.cons (opN_at hlt) (fun K hK => ?_) AllReadyH.nil)
  rw [if_pos hw]
  unfold Oper.wp
  rw [hx, Oper.upon_enter]
  refine h.mono fun e w' hh => ?_
  obtain ⟨v, rfl, hS, hn⟩ := hh
  exact hK.out _ _ hS (fun _ => hn)
def toSkip (s : Sem Unit) : Sem Next := do s; pure .skip
theorem run_skip_by {o : Oper} {a : Act} (E : Sem Unit) {w w' : World} (he : execOp a.eval o = toSkip E) (h : E.run P w = .ok () w') : (execOp a.eval o).run P w = .ok .skip w' := by
  rw [he]
  unfold toSkip
  rw [Sem.run_bind, h]; rfl
theorem hSkip (i : Nat) (d : Option Tmp) {fuel : Nat} {listed : Array Bool} {a : Act} {w w' : World} (hlt : decide (i < ops.size) = true) (hd : (opN ops i).dst = d)
    (hr : Region.ready md ops listed = [i]) (hw : Region.wanted (opN ops i) (yielded ops a.tmps) = true)
    (hx : (execOp a.eval (opN ops i)).run P w = .ok .skip w') (hS : S w')
    (h : wpAnyH P md ops Q S fuel (listed.setIfInBounds i true) (a.put d undef) w') : wpAnyH P md ops Q S (fuel + 1) listed a w := by
  subst hd
  refine wpAnyH_ready hr (by simp) (AllReadyH.cons (opN_at hlt) (fun K hK => ?_) AllReadyH.nil)
  rw [if_pos hw]
  unfold Oper.wp
  rw [hx, Oper.upon_skip]
  exact hK.out _ _ hS (fun _ => h)
theorem ZT (i : Nat) (d : Option Tmp) (v : Value) {fuel : Nat} {listed : Array Bool} {a : Act} {w : World} (hS : S w)
    (h : wpAnyH P md ops Q S fuel (listed.setIfInBounds i true) (a.put d v) w) (hlt : decide (i < ops.size) = true := by refine id ?_; kernel_rfl) (hd : (opN ops i).dst = d := by refine id ?_; kernel_rfl)
    (hs : Region.noSelect ops = true := by refine id ?_; kernel_rfl) (hf : Region.free md ops listed i = true := by refine id ?_; kernel_rfl) (hr : (Region.ready md ops listed).contains i = true := by refine id ?_; kernel_rfl) (hw : Region.wanted (opN ops i) (yielded ops a.tmps) = true := by refine id ?_; kernel_rfl)
    (hQ : ∀ c a w, Q (.panic c) (a.put d v) w → Q (.panic c) a w := by exact fun _ _ _ h => h) (hy : ∀ w, S w → (execOp a.eval (opN ops i)).run P w = .ok (.value v) w := by intro _ _; refine id ?_; kernel_rfl) : wpAnyH P md ops Q S (fuel + 1) listed a w :=
  hTake i d v hlt hd hs hf hr hw hQ hy hS h
theorem ZU (i : Nat) (d : Option Tmp) (v : Value) {fuel : Nat} {listed : Array Bool} {a : Act} {w : World} (hy : ∀ w, S w → (execOp a.eval (opN ops i)).run P w = .ok (.value v) w) (hS : S w)
    (h : wpAnyH P md ops Q S fuel (listed.setIfInBounds i true) (a.put d v) w) (hlt : decide (i < ops.size) = true := by refine id ?_; kernel_rfl) (hd : (opN ops i).dst = d := by refine id ?_; kernel_rfl)
    (hs : Region.noSelect ops = true := by refine id ?_; kernel_rfl) (hf : Region.free md ops listed i = true := by refine id ?_; kernel_rfl) (hr : (Region.ready md ops listed).contains i = true := by refine id ?_; kernel_rfl) (hw : Region.wanted (opN ops i) (yielded ops a.tmps) = true := by refine id ?_; kernel_rfl)
    (hQ : ∀ c a w, Q (.panic c) (a.put d v) w → Q (.panic c) a w := by exact fun _ _ _ h => h) : wpAnyH P md ops Q S (fuel + 1) listed a w :=
  hTake i d v hlt hd hs hf hr hw hQ hy hS h
theorem ZK (i : Nat) (d : Option Tmp) {fuel : Nat} {listed : Array Bool} {a : Act} {w w' : World} (hx : (execOp a.eval (opN ops i)).run P w = .ok .skip w') (hS : S w')
    (h : wpAnyH P md ops Q S fuel (listed.setIfInBounds i true) (a.put d undef) w') (hlt : decide (i < ops.size) = true := by refine id ?_; kernel_rfl) (hd : (opN ops i).dst = d := by refine id ?_; kernel_rfl)
    (hr : Region.ready md ops listed = [i] := by refine id ?_; kernel_rfl) (hw : Region.wanted (opN ops i) (yielded ops a.tmps) = true := by refine id ?_; kernel_rfl) : wpAnyH P md ops Q S (fuel + 1) listed a w :=
  hSkip i d hlt hd hr hw hx hS h
theorem ZC (i : Nat) (d : Option Tmp) (f : FuncId) (args : Array Value) {fuel : Nat} {listed : Array Bool} {a : Act} {w : World}
    (h : Calls P f args w fun e w' => ∃ v, e = .returned v ∧ S w' ∧ wpAnyH P md ops Q S fuel (listed.setIfInBounds i true) (a.put d v) w') (hlt : decide (i < ops.size) = true := by refine id ?_; kernel_rfl) (hd : (opN ops i).dst = d := by refine id ?_; kernel_rfl)
    (hr : Region.ready md ops listed = [i] := by refine id ?_; kernel_rfl) (hw : Region.wanted (opN ops i) (yielded ops a.tmps) = true := by refine id ?_; kernel_rfl)
    (hx : (execOp a.eval (opN ops i)).run P w = .ok (.enter f args) w := by refine id ?_; kernel_rfl) : wpAnyH P md ops Q S (fuel + 1) listed a w :=
  hCall i d f args hlt hd hr hw hx h
theorem Z1 (a : Act) (d : Option Tmp) (v : Value) : a.put d v = match d with | some d => { a with tmps := a.tmps.setIfInBounds d v } | none => a := by cases d <;> rfl
theorem Z2 {α : Type _} (l : List α) (i : Nat) (a : α) : l.toArray.setIfInBounds i a = (l.set i a).toArray := List.setIfInBounds_toArray l i a
theorem Z3 {α : Type _} {a b : α} {l : List α} : (a :: l).set 0 b = b :: l := List.set_cons_zero
theorem Z4 {α : Type _} {a b : α} {l : List α} {n : Nat} : (a :: l).set (n + 1) b = a :: l.set n b := List.set_cons_succ
end
end Go.Proofs.YtngeaigkafamiaaGreat
namespace Go.Proofs.YtngeaigkafamiaaGreat
section
variable {P : Program} {ops : Array Oper} {Q : Exit → Act → World → Prop} {md : Region.Mode} {S : World → Prop}
theorem hTakeNoF (i : Nat) (d : Option Tmp) {fuel : Nat} {listed : Array Bool} {a : Act} {w : World} (hlt : decide (i < ops.size) = true) (hd : (opN ops i).dst = d)
    (hs : Region.noSelect ops = true) (hf : Region.free md ops listed i = true) (hr : (Region.ready md ops listed).contains i = true) (hw : Region.wanted (opN ops i) (yielded ops a.tmps) = false)
    (hQ : ∀ c a w, Q (.panic c) (a.put d undef) w → Q (.panic c) a w) (hS : S w)
    (h : wpAnyH P md ops Q S fuel (listed.setIfInBounds i true) (a.put d undef) w) : wpAnyH P md ops Q S (fuel + 1) listed a w := by
  subst hd
  exact wpAnyH_take (opN_at hlt) hs hf hr hQ (Or.inr ⟨hw, rfl⟩) hS h
theorem ZN (i : Nat) (d : Option Tmp) {fuel : Nat} {listed : Array Bool} {a : Act} {w : World} (hS : S w)
    (h : wpAnyH P md ops Q S fuel (listed.setIfInBounds i true) (a.put d undef) w) (hlt : decide (i < ops.size) = true := by refine id ?_; kernel_rfl) (hd : (opN ops i).dst = d := by refine id ?_; kernel_rfl)
    (hs : Region.noSelect ops = true := by refine id ?_; kernel_rfl) (hf : Region.free md ops listed i = true := by refine id ?_; kernel_rfl) (hr : (Region.ready md ops listed).contains i = true := by refine id ?_; kernel_rfl) (hw : Region.wanted (opN ops i) (yielded ops a.tmps) = false := by refine id ?_; kernel_rfl)
    (hQ : ∀ c a w, Q (.panic c) (a.put d undef) w → Q (.panic c) a w := by exact fun _ _ _ h => h) : wpAnyH P md ops Q S (fuel + 1) listed a w :=
  hTakeNoF i d hlt hd hs hf hr hw hQ hS h
theorem aCall (i : Nat) (d : Option Tmp) (f : FuncId) (args : Array Value) {rs : List Nat} {fuel : Nat} {listed : Array Bool} {a : Act} {w : World} (hlt : decide (i < ops.size) = true) (hd : (opN ops i).dst = d)
    (hw : Region.wanted (opN ops i) (yielded ops a.tmps) = true) (hx : (execOp a.eval (opN ops i)).run P w = .ok (.enter f args) w)
    (h : Calls P f args w fun e w' => ∃ v, e = .returned v ∧ S w' ∧ wpAnyH P md ops Q S fuel (listed.setIfInBounds i true) (a.put d v) w')
    (hs : AllReadyH P md ops Q S fuel listed a w rs) : AllReadyH P md ops Q S fuel listed a w (i :: rs) := by
  subst hd
  refine AllReadyH.cons (opN_at hlt) (fun K hK => ?_) hs
  rw [if_pos hw]
  unfold Oper.wp
  rw [hx, Oper.upon_enter]
  refine h.mono fun e w' hh => ?_
  obtain ⟨v, rfl, hS, hn⟩ := hh
  exact hK.out _ _ hS (fun _ => hn)
theorem aSkip (i : Nat) (d : Option Tmp) {rs : List Nat} {fuel : Nat} {listed : Array Bool} {a : Act} {w w' : World} (hlt : decide (i < ops.size) = true) (hd : (opN ops i).dst = d)
    (hw : Region.wanted (opN ops i) (yielded ops a.tmps) = true) (hx : (execOp a.eval (opN ops i)).run P w = .ok .skip w') (hS : S w')
    (h : wpAnyH P md ops Q S fuel (listed.setIfInBounds i true) (a.put d undef) w')
    (hs : AllReadyH P md ops Q S fuel listed a w rs) : AllReadyH P md ops Q S fuel listed a w (i :: rs) := by
  subst hd
  refine AllReadyH.cons (opN_at hlt) (fun K hK => ?_) hs
  rw [if_pos hw]
  unfold Oper.wp
  rw [hx, Oper.upon_skip]
  exact hK.out _ _ hS (fun _ => h)
theorem aRun (i : Nat) (d : Option Tmp) (v : Value) {rs : List Nat} {fuel : Nat} {listed : Array Bool} {a : Act} {w w' : World} (hlt : decide (i < ops.size) = true) (hd : (opN ops i).dst = d)
    (hw : Region.wanted (opN ops i) (yielded ops a.tmps) = true) (hx : (execOp a.eval (opN ops i)).run P w = .ok (.value v) w') (hS : S w')
    (h : wpAnyH P md ops Q S fuel (listed.setIfInBounds i true) (a.put d v) w')
    (hs : AllReadyH P md ops Q S fuel listed a w rs) : AllReadyH P md ops Q S fuel listed a w (i :: rs) := by
  subst hd
  refine AllReadyH.cons (opN_at hlt) (fun K hK => ?_) hs
  rw [if_pos hw]
  unfold Oper.wp
  rw [hx, Oper.upon_value]
  exact hK.out _ _ hS (fun _ => h)
end
end Go.Proofs.YtngeaigkafamiaaGreat
namespace Go.Proofs.YtngeaigkafamiaaGreat
open Go.ChangeShapes Go.WideShapes Go.ChangeAt Go.RowKit
set_option maxRecDepth 100000
set_option linter.unusedVariables false
set_option maxHeartbeats 2000000 in
theorem fitsIn_any (b : Bx) (w : World) :
    Calls Tryz.prog 101 #[bxv b] w fun e w' => e = .returned (.bool (okF b)) ∧ Seen w w' := by
  have o1 := fun w => or_any b.lf 0 w
  have o2 := fun w => or_any b.rt 0 w
  have HV := Lib.hid (show okF b = (fitsB b.base && fitsB b.ar && fitsB (orV b.lf 0) && fitsB (orV b.rt 0)) from rfl)
  have f1 := fun w => fits_eq b.base w
  have f2 := fun w => fits_eq b.ar w
  have f3 := fun w => fits_eq (orV b.lf 0) w
  have f4 := fun w => fits_eq (orV b.rt 0) w
  obtain ⟨x1, h1⟩ : ∃ x, fitsB b.base = x := ⟨_, rfl⟩
  obtain ⟨x2, h2⟩ : ∃ x, fitsB b.ar = x := ⟨_, rfl⟩
  obtain ⟨x3, h3⟩ : ∃ x, fitsB (orV b.lf 0) = x := ⟨_, rfl⟩
  obtain ⟨x4, h4⟩ : ∃ x, fitsB (orV b.rt 0) = x := ⟨_, rfl⟩
  rw [h1] at HV f1
  rw [h2] at HV f2
  rw [h3] at HV f3
  rw [h4] at HV f4
  obtain ⟨o, ho⟩ : ∃ x, okF b = x := ⟨_, rfl⟩
  rw [ho] at HV ⊢
  obtain ⟨L, hL⟩ : ∃ x, orV b.lf 0 = x := ⟨_, rfl⟩
  obtain ⟨R, hR⟩ : ∃ x, orV b.rt 0 = x := ⟨_, rfl⟩
  rw [hL] at o1 f3
  rw [hR] at o2 f4
  clear h1 h2 h3 h4 ho hL hR
  obtain ⟨W, hW⟩ : ∃ W, W = w.alloc (.cells (bxl b).toArray 185) := ⟨_, rfl⟩
  have kb : Blk W w.heap.size (bxl b) 185 := by rw [hW]; exact Blk.new w _ _
  have SW : Hid (Seen w W) := by rw [hW]; exact (Seen.refl w).alloc _
  have rb := kb.rulesB
  have sr := Seen.refl W
  clear kb
  cases x1 <;> cases x2 <;> cases x3
  all_goals
    go_enter Tryz.func101, Tryz.ntmps101
    go_upto_region 1 with fail
    rw [← hW]
    clear hW
    go_wp2_with (first
      | (go_at_call 91; refine (f1 _).mono ?_; clear f1; rintro e wa ⟨rfl, rfl⟩)
      | (go_at_call 91; refine (f2 _).mono ?_; clear f2; rintro e wa ⟨rfl, rfl⟩)
      | (go_at_call 40; refine (o1 _).mono ?_; clear o1; rintro e w1 ⟨rfl, hb⟩; replace sr := Seen.next sr hb; clear hb)
      | (go_at_call 91; refine (f3 _).mono ?_; clear f3; rintro e wa ⟨rfl, rfl⟩)
      | (go_at_call 40; refine (o2 _).mono ?_; clear o2; rintro e w2 ⟨rfl, hb⟩; replace sr := Seen.next sr hb; clear hb)
      | (go_at_call 91; refine (f4 _).mono ?_; clear f4; rintro e wa ⟨rfl, rfl⟩))
    go_ret
    exact ⟨by rw [HV.out]; rfl, SW.out.trans sr⟩
set_option maxHeartbeats 4000000 in
theorem tryWide_any (b : Bx) (s : Sz) (w : World) :
    Calls Tryz.prog 103 #[bxv b, szv s] w fun e w' => e = .returned (.tuple #[o3v (fillW b s), .int .i64 (fillW b s).w, .bool (tryB b s)]) ∧ Seen w w' := by
  have HV := Lib.hid (show tryB b s = (fitsB (fillW b s).l && fitsB (fillW b s).w && fitsB (fillW b s).r) from rfl)
  have fl := fun w => fill_any b s w
  obtain ⟨v, hv⟩ : ∃ x, tryB b s = x := ⟨_, rfl⟩
  rw [hv] at HV ⊢
  obtain ⟨o, ho⟩ : ∃ x, fillW b s = x := ⟨_, rfl⟩
  rw [ho] at HV fl ⊢
  obtain ⟨l, m, r⟩ := o
  simp only at HV ⊢
  have f1 := fun w => fits_eq l w
  have f2 := fun w => fits_eq m w
  have f3 := fun w => fits_eq r w
  obtain ⟨x1, h1⟩ : ∃ x, fitsB l = x := ⟨_, rfl⟩
  obtain ⟨x2, h2⟩ : ∃ x, fitsB m = x := ⟨_, rfl⟩
  obtain ⟨x3, h3⟩ : ∃ x, fitsB r = x := ⟨_, rfl⟩
  rw [h1] at HV f1
  rw [h2] at HV f2
  rw [h3] at HV f3
  clear h1 h2 h3 ho hv
  obtain ⟨W, hW⟩ : ∃ W, W = ((w.alloc (.cells (bxl b).toArray 185)).alloc (.cells #[.bool s.au, .int .i64 s.n] 24)).alloc (.cells #[.int .i64 0, .int .i64 0, .int .i64 0] 159) := ⟨_, rfl⟩
  have kb : Blk W w.heap.size (bxl b) 185 := by rw [hW]; exact ((Blk.new w _ _).alloc _).alloc _
  have ks : Blk W (w.heap.size + 1) [.bool s.au, .int .i64 s.n] 24 := by rw [hW]; simpa using (Blk.new (w.alloc (.cells (bxl b).toArray 185)) [.bool s.au, .int .i64 s.n] 24).alloc _
  have ko : Blk W (w.heap.size + 1 + 1) [.int .i64 0, .int .i64 0, .int .i64 0] 159 := by rw [hW]; simpa using Blk.new ((w.alloc (.cells (bxl b).toArray 185)).alloc (.cells #[.bool s.au, .int .i64 s.n] 24)) [.int .i64 0, .int .i64 0, .int .i64 0] 159
  have SW : Hid (Seen w W) := by rw [hW]; unfold Hid Seen; go_grown
  have HKO := Lib.hid ko
  have rb := kb.rulesB
  have rs := ks.rules2
  have sr := Seen.refl W
  clear kb ks ko
  go_enter Tryz.func103, Tryz.ntmps103
  go_upto_region 1 with fail
  rw [← hW]
  clear hW
  go_upto_region 2 with (go_at_call 112; refine (fl _).mono ?_; clear fl; rintro e w1 ⟨rfl, hb⟩; have s1 : Seen W w1 := Seen.next sr hb; clear hb sr)
  obtain ⟨V, hV⟩ : ∃ V, V = w1.alloc (.cells #[.int .i64 l, .int .i64 m, .int .i64 r] 159) := ⟨_, rfl⟩
  obtain ⟨A, hA⟩ : ∃ A, w1.heap.size = A := ⟨_, rfl⟩
  have kA : Blk V A [.int .i64 l, .int .i64 m, .int .i64 r] 159 := by rw [hV, ← hA]; exact Blk.new w1 _ _
  have sV : Seen W V := by rw [hV]; exact s1.alloc _
  have KO : Blk V (w.heap.size + 1 + 1) [.int .i64 0, .int .i64 0, .int .i64 0] 159 := HKO.out.seen sV
  have HSV : Hid (Seen w V) := SW.out.trans sV
  have hWA : w.heap.size + 1 + 1 < A := by have := (HKO.out.seen s1).lt; omega
  have n1 : ¬ A = w.heap.size + 1 + 1 := by omega
  have n2 : ¬ w.heap.size + 1 + 1 = A := by omega
  have HKV := Lib.hid KO
  rw [← hV, hA]
  clear HKO SW rb rs s1 sV hV hA KO
  obtain ⟨U, hU⟩ : ∃ U, U = (((V.drew.setCell ⟨w.heap.size + 1 + 1, 0, none⟩ (.int .i64 l)).setCell ⟨w.heap.size + 1 + 1, 1, none⟩ (.int .i64 m)).setCell ⟨w.heap.size + 1 + 1, 2, none⟩ (.int .i64 r)) := ⟨_, rfl⟩
  have stB : (Instr.storeAt 159 (.pointer (some ⟨w.heap.size + 1 + 1, 0, none⟩)) (.agg #[.int .i64 l, .int .i64 m, .int .i64 r])).run Tryz.prog V.drew = .ok () U := by
    rw [hU]
    exact st28 l m r HKV.out.drew
  have sB : Blk U A [.int .i64 l, .int .i64 m, .int .i64 r] 159 := by
    rw [hU]
    exact ((kA.drew.other (p := ⟨w.heap.size + 1 + 1, 0, none⟩) n2 _).other (p := ⟨w.heap.size + 1 + 1, 1, none⟩) n2 _).other (p := ⟨w.heap.size + 1 + 1, 2, none⟩) n2 _
  have z : Blk U (w.heap.size + 1 + 1) [.int .i64 l, .int .i64 m, .int .i64 r] 159 := by rw [hU]; exact ((HKV.out.drew.set 0 (.int .i64 l)).set 1 (.int .i64 m)).set 2 (.int .i64 r)
  have sU : Seen w U := by rw [hU]; exact Seen.set3 HSV.out.drew (by omega)
  have HU := Lib.hid sU
  have z0 := z.cell 0
  have z1 := z.cell 1
  have z2 := z.cell 2
  have sd := kA.drew
  clear hU z sU
  refine wp_region_held_drew (S := fun w' => Blk w' A [.int .i64 l, .int .i64 m, .int .i64 r] 159) (by kernel_rfl) sd (fun _ => ?_)
  cases x1 with
  | false =>
    refine ZU 0 (some 11) (.agg #[.int .i64 l, .int .i64 m, .int .i64 r]) (fun _ hS => run_by (Instr.loadAt 159 (.pointer (some ⟨A, 0, none⟩))) (by kernel_rfl) (ld28 hS)) sd ?_
    simp only [Z1,Z2,Z3,Z4]
    refine ZT 1 (some 12) (.pointer (some ⟨A, 1, none⟩)) sd ?_
    simp only [Z1,Z2,Z3,Z4]
    refine ZU 2 (some 13) (.int .i64 m) (fun _ hS => run_by (Instr.loadAt 2 (.pointer (some ⟨A, 1, none⟩))) (by kernel_rfl) (ldk1 hS)) sd ?_
    simp only [Z1,Z2,Z3,Z4]
    refine ZT 3 (some 14) (.pointer (some ⟨A, 0, none⟩)) sd ?_
    simp only [Z1,Z2,Z3,Z4]
    refine ZU 4 (some 15) (.int .i64 l) (fun _ hS => run_by (Instr.loadAt 2 (.pointer (some ⟨A, 0, none⟩))) (by kernel_rfl) (ldk0 hS)) sd ?_
    simp only [Z1,Z2,Z3,Z4]
    refine wpAnyH_ready (rs := [5]) (by kernel_rfl) (by simp) ?_
    refine aCall 5 (some 16) 91 #[.int .i64 l] (by kernel_rfl) (by kernel_rfl) (by kernel_rfl) (by kernel_rfl) ?_ ?_
    · refine (f1 _).mono ?_
      rintro _ _ ⟨rfl, rfl⟩
      refine ⟨_, rfl, sd, ?_⟩
      simp only [Z1,Z2,Z3,Z4]
      refine ZT 6 (some 17) (.bool false) sd ?_
      simp only [Z1,Z2,Z3,Z4]
      refine ZN 7 (some 18) sd ?_
      simp only [Z1,Z2,Z3,Z4]
      refine ZN 8 (some 19) sd ?_
      simp only [Z1,Z2,Z3,Z4]
      refine ZN 9 (some 20) sd ?_
      simp only [Z1,Z2,Z3,Z4]
      refine ZT 10 (some 21) (.bool false) sd ?_
      simp only [Z1,Z2,Z3,Z4]
      refine ZT 11 (some 22) (.bool false) sd ?_
      simp only [Z1,Z2,Z3,Z4]
      refine ZN 12 (some 23) sd ?_
      simp only [Z1,Z2,Z3,Z4]
      refine ZN 13 (some 24) sd ?_
      simp only [Z1,Z2,Z3,Z4]
      refine ZN 14 (some 25) sd ?_
      simp only [Z1,Z2,Z3,Z4]
      refine ZT 15 (some 26) (.bool false) sd ?_
      simp only [Z1,Z2,Z3,Z4]
      refine wpAnyH_ready (rs := [16]) (by kernel_rfl) (by simp) ?_
      refine aSkip 16 none (by kernel_rfl) (by kernel_rfl) (by kernel_rfl) (run_skip_by (Instr.storeAt 159 (.pointer (some ⟨w.heap.size + 1 + 1, 0, none⟩)) (.agg #[.int .i64 l, .int .i64 m, .int .i64 r])) (by kernel_rfl) stB) sB ?_ ?_
      · simp only [Act.put]
        refine ZT 17 (some 5) (.int .i64 m) sB ?_
        simp only [Z1,Z2,Z3,Z4]
        refine ZT 18 (some 6) (.bool false) sB ?_
        simp only [Z1,Z2,Z3,Z4]
        refine wpAnyH_done (by kernel_rfl) ?_ _
        go_wp2_with fail
        refine bodyPost_ret (by simp [results, Tryz.results103, go_sem, z0, z1, z2]; try rfl) rfl ?_
        exact ⟨by rw [HV.out]; rfl, HU.out⟩
      exact AllReadyH.nil
    exact AllReadyH.nil
  | true =>
    cases x2 with
    | false =>
      refine ZU 0 (some 11) (.agg #[.int .i64 l, .int .i64 m, .int .i64 r]) (fun _ hS => run_by (Instr.loadAt 159 (.pointer (some ⟨A, 0, none⟩))) (by kernel_rfl) (ld28 hS)) sd ?_
      simp only [Z1,Z2,Z3,Z4]
      refine ZT 1 (some 12) (.pointer (some ⟨A, 1, none⟩)) sd ?_
      simp only [Z1,Z2,Z3,Z4]
      refine ZU 2 (some 13) (.int .i64 m) (fun _ hS => run_by (Instr.loadAt 2 (.pointer (some ⟨A, 1, none⟩))) (by kernel_rfl) (ldk1 hS)) sd ?_
      simp only [Z1,Z2,Z3,Z4]
      refine ZT 3 (some 14) (.pointer (some ⟨A, 0, none⟩)) sd ?_
      simp only [Z1,Z2,Z3,Z4]
      refine ZU 4 (some 15) (.int .i64 l) (fun _ hS => run_by (Instr.loadAt 2 (.pointer (some ⟨A, 0, none⟩))) (by kernel_rfl) (ldk0 hS)) sd ?_
      simp only [Z1,Z2,Z3,Z4]
      refine wpAnyH_ready (rs := [5]) (by kernel_rfl) (by simp) ?_
      refine aCall 5 (some 16) 91 #[.int .i64 l] (by kernel_rfl) (by kernel_rfl) (by kernel_rfl) (by kernel_rfl) ?_ ?_
      · refine (f1 _).mono ?_
        rintro _ _ ⟨rfl, rfl⟩
        refine ⟨_, rfl, sd, ?_⟩
        simp only [Z1,Z2,Z3,Z4]
        refine ZT 6 (some 17) (.bool true) sd ?_
        simp only [Z1,Z2,Z3,Z4]
        refine ZT 7 (some 18) (.pointer (some ⟨A, 1, none⟩)) sd ?_
        simp only [Z1,Z2,Z3,Z4]
        refine ZU 8 (some 19) (.int .i64 m) (fun _ hS => run_by (Instr.loadAt 2 (.pointer (some ⟨A, 1, none⟩))) (by kernel_rfl) (ldk1 hS)) sd ?_
        simp only [Z1,Z2,Z3,Z4]
        refine wpAnyH_ready (rs := [9]) (by kernel_rfl) (by simp) ?_
        refine aCall 9 (some 20) 91 #[.int .i64 m] (by kernel_rfl) (by kernel_rfl) (by kernel_rfl) (by kernel_rfl) ?_ ?_
        · refine (f2 _).mono ?_
          rintro _ _ ⟨rfl, rfl⟩
          refine ⟨_, rfl, sd, ?_⟩
          simp only [Z1,Z2,Z3,Z4]
          refine ZT 10 (some 21) (.bool false) sd ?_
          simp only [Z1,Z2,Z3,Z4]
          refine ZT 11 (some 22) (.bool false) sd ?_
          simp only [Z1,Z2,Z3,Z4]
          refine ZN 12 (some 23) sd ?_
          simp only [Z1,Z2,Z3,Z4]
          refine ZN 13 (some 24) sd ?_
          simp only [Z1,Z2,Z3,Z4]
          refine ZN 14 (some 25) sd ?_
          simp only [Z1,Z2,Z3,Z4]
          refine ZT 15 (some 26) (.bool false) sd ?_
          simp only [Z1,Z2,Z3,Z4]
          refine wpAnyH_ready (rs := [16]) (by kernel_rfl) (by simp) ?_
          refine aSkip 16 none (by kernel_rfl) (by kernel_rfl) (by kernel_rfl) (run_skip_by (Instr.storeAt 159 (.pointer (some ⟨w.heap.size + 1 + 1, 0, none⟩)) (.agg #[.int .i64 l, .int .i64 m, .int .i64 r])) (by kernel_rfl) stB) sB ?_ ?_
          · simp only [Act.put]
            refine ZT 17 (some 5) (.int .i64 m) sB ?_
            simp only [Z1,Z2,Z3,Z4]
            refine ZT 18 (some 6) (.bool false) sB ?_
            simp only [Z1,Z2,Z3,Z4]
            refine wpAnyH_done (by kernel_rfl) ?_ _
            go_wp2_with fail
            refine bodyPost_ret (by simp [results, Tryz.results103, go_sem, z0, z1, z2]; try rfl) rfl ?_
            exact ⟨by rw [HV.out]; rfl, HU.out⟩
          exact AllReadyH.nil
        exact AllReadyH.nil
      exact AllReadyH.nil
    | true =>
      refine ZU 0 (some 11) (.agg #[.int .i64 l, .int .i64 m, .int .i64 r]) (fun _ hS => run_by (Instr.loadAt 159 (.pointer (some ⟨A, 0, none⟩))) (by kernel_rfl) (ld28 hS)) sd ?_
      simp only [Z1,Z2,Z3,Z4]
      refine ZT 1 (some 12) (.pointer (some ⟨A, 1, none⟩)) sd ?_
      simp only [Z1,Z2,Z3,Z4]
      refine ZU 2 (some 13) (.int .i64 m) (fun _ hS => run_by (Instr.loadAt 2 (.pointer (some ⟨A, 1, none⟩))) (by kernel_rfl) (ldk1 hS)) sd ?_
      simp only [Z1,Z2,Z3,Z4]
      refine ZT 3 (some 14) (.pointer (some ⟨A, 0, none⟩)) sd ?_
      simp only [Z1,Z2,Z3,Z4]
      refine ZU 4 (some 15) (.int .i64 l) (fun _ hS => run_by (Instr.loadAt 2 (.pointer (some ⟨A, 0, none⟩))) (by kernel_rfl) (ldk0 hS)) sd ?_
      simp only [Z1,Z2,Z3,Z4]
      refine wpAnyH_ready (rs := [5]) (by kernel_rfl) (by simp) ?_
      refine aCall 5 (some 16) 91 #[.int .i64 l] (by kernel_rfl) (by kernel_rfl) (by kernel_rfl) (by kernel_rfl) ?_ ?_
      · refine (f1 _).mono ?_
        rintro _ _ ⟨rfl, rfl⟩
        refine ⟨_, rfl, sd, ?_⟩
        simp only [Z1,Z2,Z3,Z4]
        refine ZT 6 (some 17) (.bool true) sd ?_
        simp only [Z1,Z2,Z3,Z4]
        refine ZT 7 (some 18) (.pointer (some ⟨A, 1, none⟩)) sd ?_
        simp only [Z1,Z2,Z3,Z4]
        refine ZU 8 (some 19) (.int .i64 m) (fun _ hS => run_by (Instr.loadAt 2 (.pointer (some ⟨A, 1, none⟩))) (by kernel_rfl) (ldk1 hS)) sd ?_
        simp only [Z1,Z2,Z3,Z4]
        refine wpAnyH_ready (rs := [9]) (by kernel_rfl) (by simp) ?_
        refine aCall 9 (some 20) 91 #[.int .i64 m] (by kernel_rfl) (by kernel_rfl) (by kernel_rfl) (by kernel_rfl) ?_ ?_
        · refine (f2 _).mono ?_
          rintro _ _ ⟨rfl, rfl⟩
          refine ⟨_, rfl, sd, ?_⟩
          simp only [Z1,Z2,Z3,Z4]
          refine ZT 10 (some 21) (.bool true) sd ?_
          simp only [Z1,Z2,Z3,Z4]
          refine ZT 11 (some 22) (.bool true) sd ?_
          simp only [Z1,Z2,Z3,Z4]
          refine ZT 12 (some 23) (.pointer (some ⟨A, 2, none⟩)) sd ?_
          simp only [Z1,Z2,Z3,Z4]
          refine ZU 13 (some 24) (.int .i64 r) (fun _ hS => run_by (Instr.loadAt 2 (.pointer (some ⟨A, 2, none⟩))) (by kernel_rfl) (ldk2 hS)) sd ?_
          simp only [Z1,Z2,Z3,Z4]
          refine wpAnyH_ready (rs := [14]) (by kernel_rfl) (by simp) ?_
          refine aCall 14 (some 25) 91 #[.int .i64 r] (by kernel_rfl) (by kernel_rfl) (by kernel_rfl) (by kernel_rfl) ?_ ?_
          · refine (f3 _).mono ?_
            rintro _ _ ⟨rfl, rfl⟩
            refine ⟨_, rfl, sd, ?_⟩
            simp only [Z1,Z2,Z3,Z4]
            refine ZT 15 (some 26) (.bool x3) sd ?_
            simp only [Z1,Z2,Z3,Z4]
            refine wpAnyH_ready (rs := [16]) (by kernel_rfl) (by simp) ?_
            refine aSkip 16 none (by kernel_rfl) (by kernel_rfl) (by kernel_rfl) (run_skip_by (Instr.storeAt 159 (.pointer (some ⟨w.heap.size + 1 + 1, 0, none⟩)) (.agg #[.int .i64 l, .int .i64 m, .int .i64 r])) (by kernel_rfl) stB) sB ?_ ?_
            · simp only [Act.put]
              refine ZT 17 (some 5) (.int .i64 m) sB ?_
              simp only [Z1,Z2,Z3,Z4]
              refine ZT 18 (some 6) (.bool x3) sB ?_
              simp only [Z1,Z2,Z3,Z4]
              refine wpAnyH_done (by kernel_rfl) ?_ _
              go_wp2_with fail
              refine bodyPost_ret (by simp [results, Tryz.results103, go_sem, z0, z1, z2]; try rfl) rfl ?_
              exact ⟨by rw [HV.out]; rfl, HU.out⟩
            exact AllReadyH.nil
          exact AllReadyH.nil
        exact AllReadyH.nil
      exact AllReadyH.nil
end Go.Proofs.YtngeaigkafamiaaGreat
namespace Go.Proofs.YtngeaigkafamiaaGreat
open Go.ChangeShapes Go.WideShapes Go.ChangeAt Go.RowKit
set_option maxRecDepth 100000
set_option linter.unusedVariables false
theorem caught22 (w : World) : CallsD Tryz.prog 113 #[] .returning w fun e u' w' => e = .returned (.tuple #[]) ∧ u' = .returning ∧ w' = w := by
  refine callsD_of_wpS Tryz.func113 rfl fun c₀ cs hu => ?_
  apply wpS_region
  simp [wpOpsS, go_sem, recoverD, hu, Tryz.ntmps113, bodyPostS, results, Tryz.results113]
  rw [← hu]
set_option maxHeartbeats 2000000 in
theorem ask_any (b : Bx) (s : Sz) (w : World) :
    Calls Tryz.prog 111 #[.agg #[.func (.func 103) #[bxv b] #[]], szv s] w fun e w' => e = .returned (.tuple #[o3v (tryO b s), .int .i64 (tryN b s), .bool (tryB b s)]) ∧ Seen w w' := by
  have hn : ∀ (f : Fn) (a c : Array Value) (w : World), (binOp .eql 198 (.func f a c) .nilFunc).run Tryz.prog w = .ok (.bool false) w := fun _ _ _ _ => by kernel_rfl
  have HT := Lib.hid (show tryO b s = (if tryB b s then fillW b s else zO) ∧ tryN b s = (if tryB b s then (fillW b s).w else 0) from ⟨rfl, rfl⟩)
  have tw := fun w => tryWide_any b s w
  obtain ⟨o, ho⟩ : ∃ x, fillW b s = x := ⟨_, rfl⟩
  obtain ⟨p, hp⟩ : ∃ x, tryB b s = x := ⟨_, rfl⟩
  rw [hp, ho] at tw HT
  rw [hp, HT.out.1, HT.out.2]
  clear hp ho HT
  obtain ⟨l, m, r⟩ := o
  obtain ⟨W, hW⟩ : ∃ W, W = ((w.alloc (.cells #[.func (.func 103) #[bxv b] #[]] 205)).alloc (.cells #[.bool s.au, .int .i64 s.n] 24)).alloc (.cells #[.int .i64 0, .int .i64 0, .int .i64 0] 159) := ⟨_, rfl⟩
  have kg : Blk W w.heap.size [.func (.func 103) #[bxv b] #[]] 205 := by rw [hW]; exact ((Blk.new w _ _).alloc _).alloc _
  have ks : Blk W (w.heap.size + 1) [.bool s.au, .int .i64 s.n] 24 := by rw [hW]; simpa using (Blk.new (w.alloc (.cells #[.func (.func 103) #[bxv b] #[]] 205)) [.bool s.au, .int .i64 s.n] 24).alloc _
  have ko : Blk W (w.heap.size + 1 + 1) [.int .i64 0, .int .i64 0, .int .i64 0] 159 := by rw [hW]; simpa using Blk.new ((w.alloc (.cells #[.func (.func 103) #[bxv b] #[]] 205)).alloc (.cells #[.bool s.au, .int .i64 s.n] 24)) [.int .i64 0, .int .i64 0, .int .i64 0] 159
  have SW : Hid (Seen w W) := by rw [hW]; unfold Hid Seen; go_grown
  have HKO := Lib.hid ko
  have c0 : W.cell? ⟨w.heap.size, 0, none⟩ = some (.func (.func 103) #[bxv b] #[]) := kg.cell 0
  have rs := ks.rules2 _ (Seen.refl W)
  have hlt : w.heap.size + 1 + 1 < W.heap.size := ko.lt
  clear kg ks ko
  cases p
  all_goals
    go_enter_defers Tryz.func111, Tryz.ntmps111
    go_upto_region 1 with fail
    rw [← hW]
    clear hW
    go_upto_region 5 with (go_at_call 103; refine (tw _).mono ?_; clear tw; rintro e w1 ⟨rfl, hb⟩; have HB := Lib.hid hb; clear hb)
    obtain ⟨V, hV⟩ : ∃ V, V = w1.alloc (.cells #[.int .i64 l, .int .i64 m, .int .i64 r] 159) := ⟨_, rfl⟩
    obtain ⟨A, hA⟩ : ∃ A, w1.heap.size = A := ⟨_, rfl⟩
    have kA : Blk V A [.int .i64 l, .int .i64 m, .int .i64 r] 159 := by rw [hV, ← hA]; exact Blk.new w1 _ _
    have kO : Blk V (w.heap.size + 1 + 1) [.int .i64 0, .int .i64 0, .int .i64 0] 159 := by rw [hV]; exact (HKO.out.seen HB.out).alloc _
    have sV : Seen w V := by rw [hV]; exact (SW.out.trans HB.out).alloc _
    have n1 : ¬ A = w.heap.size + 1 + 1 := by have := HB.out.size; omega
    have n2 : ¬ w.heap.size + 1 + 1 = A := by omega
    rw [← hV, hA]
    have HSV := Lib.hid sV
    have HO := Lib.hid kO
    have ra := kA.rules3 _ (Seen.refl _)
    have ro := kO.rules3 _ (Seen.refl _)
    clear hV hA kA kO sV HKO SW HB c0 rs hlt
    go_wp2_with fail
    refine leaves_cons (f := 113) (args := #[]) (by simp) (by simp [go_sem]) ?_
    refine (caught22 _).mono ?_
    rintro e u' w2 ⟨rfl, rfl, rfl⟩
  · have z := ((HO.out.set 0 (.int .i64 0)).set 1 (.int .i64 0)).set 2 (.int .i64 0)
    have z0 := z.cell 0
    have z1 := z.cell 1
    have z2 := z.cell 2
    simp [Leaves, settle, results, Tryz.results111, go_sem, z0, z1, z2]
    exact ⟨⟨rfl, rfl, rfl⟩, Seen.set3 HSV.out (by omega)⟩
  · have z := ((HO.out.set 0 (.int .i64 l)).set 1 (.int .i64 m)).set 2 (.int .i64 r)
    have z0 := z.cell 0
    have z1 := z.cell 1
    have z2 := z.cell 2
    simp [Leaves, settle, results, Tryz.results111, go_sem, z0, z1, z2]
    exact Seen.set3 HSV.out (by omega)
end Go.Proofs.YtngeaigkafamiaaGreat

