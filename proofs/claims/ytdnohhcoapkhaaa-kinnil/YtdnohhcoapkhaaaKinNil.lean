/- Proved: for any two numbers the law KinNil returns true; no conditions. -/
import Derived.Test.YtdnohhcoapkhaaaRows
import Derived.WalkKit
import Derived.Test.YtdnohhcoapkhaaaKinAwake
import Derived.Test.YtdnohhcoapkhaaaKinRows
import Derived.Test.YtdnohhcoapkhaaaEqS
import Derived.ProofKit
import Derived.OpenShut
import Derived.ShutString
import Derived.ChangeOld
import Derived.Below
namespace Go.Proofs.Ytdnohhcoapkhaaa.kinNil
open Go.ChangeShapes Go.WideShapes Go.ChangeAt Go.RowKit
set_option linter.unusedVariables false

theorem own : ownKnob Try.prog.godebug = none := by kernel_rfl
theorem laidOut : laidOutB Try.prog = true := by kernel_rfl


set_option maxRecDepth 100000 in
set_option maxHeartbeats 8000000 in
theorem walk (i j : Int) (w : World) (hi : -9223372036854775808 ≤ i ∧ i < 9223372036854775808) (hj : -9223372036854775808 ≤ j ∧ j < 9223372036854775808) :
    Calls Try.prog 6 #[.int .i64 i, .int .i64 j] w fun e w' => e = .returned (.bool true) ∧ Below w.heap.size w w' := by
  clear hi hj
  have K : Hid (∀ w', KV w' (.pointer none) []) := fun w' => .inl ⟨rfl, rfl⟩
  have hno : inB [] i = false := by unfold inB; simp
  have hp : plAt [] i = noP := plAt_no hno
  have HL : Hid (∀ w', Calls Try.prog 11 #[.pointer none] w' fun e w'' => e = .returned (.int .i64 0) ∧ w'' = w') := fun w' => len_any _ [] w' (K.out w')
  have HP : Hid (∀ w', Calls Try.prog 16 #[.pointer none, .int .i64 i] w' fun e w'' => e = .returned (.int .i64 (-1)) ∧ Seen w' w'') := fun w' => by
    have := parent_kin _ [] i w' (K.out w'); rw [hp] at this; exact this
  have HY : Hid (∀ w', Calls Try.prog 17 #[.pointer none, .int .i64 i] w' fun e w'' => e = .returned (sv zeroS) ∧ Seen w' w'') := fun w' => by
    have := style_kin _ [] i w' (K.out w')
    unfold styAt at this
    rw [hno] at this; exact this
  have HE : Hid (∀ w', Calls Try.prog 12 #[.pointer none, .int .i64 i] w' fun e w'' => e = .returned (.int .i64 0) ∧ Seen w' w'') := fun w' => by
    have := end_kin _ [] i w' (K.out w'); rw [hp] at this; exact this
  have HD : Hid (∀ w', Calls Try.prog 20 #[.pointer none, .int .i64 i] w' fun e w'' => e = .returned (.int .i64 0) ∧ Seen w' w'') := fun w' => by
    have := deep_kin _ [] i w' (K.out w'); rw [hp] at this; exact this
  have HM : Hid (∀ w', Calls Try.prog 21 #[.pointer none, .int .i64 i] w' fun e w'' => e = .returned (.bool false) ∧ Seen w' w'') := fun w' => by
    have := made_kin _ [] i w' (K.out w'); rw [hp] at this; exact this
  have HO : Hid (∀ w', Calls Try.prog 22 #[.pointer none, .int .i64 i] w' fun e w'' => e = .returned (.bool false) ∧ Seen w' w'') := fun w' => by
    have := out_kin _ [] i w' (K.out w'); rw [hp] at this; exact this
  have HB : Hid (∀ w', Calls Try.prog 13 #[.pointer none, .int .i64 i, .int .i64 j] w' fun e w'' => e = .returned (.bool false) ∧ Seen w' w'') := fun w' => by
    have := below_kin _ [] i j w' (K.out w')
    unfold belV at this
    rw [hno] at this; exact this
  have none_row : ∀ {w' : World} {e : Ending} {w'' : World}, RowI w' [] e w'' → ∃ a c, e = .returned (.slice a 0 c) ∧ Seen w' w'' := fun h => by
    obtain ⟨v, rfl, hr, hs⟩ := h
    obtain ⟨a, c, rfl, _, _⟩ := hr.slice
    exact ⟨a, c, rfl, hs⟩
  have HK : Hid (∀ w', Calls Try.prog 15 #[.pointer none, .int .i64 i] w' fun e w'' => ∃ a c, e = .returned (.slice a 0 c) ∧ Seen w' w'') := fun w' => by
    have := kids_kin _ [] i w' (K.out w')
    unfold kidsV at this
    rw [hno] at this
    exact this.mono fun _ _ h => none_row h
  have HW : Hid (∀ w', Calls Try.prog 18 #[.pointer none, .int .i64 i] w' fun e w'' => ∃ a c, e = .returned (.slice a 0 c) ∧ Seen w' w'') := fun w' => by
    have := flow_kin _ [] i w' (K.out w')
    unfold flowV at this
    rw [hno] at this
    exact this.mono fun _ _ h => none_row h
  have HU : Hid (∀ w', Calls Try.prog 19 #[.pointer none, .int .i64 i] w' fun e w'' => ∃ a c, e = .returned (.slice a 0 c) ∧ Seen w' w'') := fun w' => by
    have := up_kin _ [] i w' (K.out w')
    unfold upV at this
    rw [hno] at this
    exact this.mono fun _ _ h => none_row h
  clear hno hp none_row K
  have EQ : ∀ (w' : World), (binOp .eql 40 (sv zeroS) (.agg #[.bool false, .int .i64 0, .int .i64 0, .int .i64 0, .int .i64 0, .int .i64 0, .int .i64 0, .int .i64 0, .int .i64 0, .int .i64 0, .int .i64 0, .int .i64 0, .int .i64 0, .int .i64 0, .int .i64 0, .int .i64 0, .int .i64 0, .int .i64 0, .int .i64 0, .int .i64 0, .int .i64 0, .int .i64 0, .int .i64 0, .int .i64 0, .int .i64 0, .int .i64 0, .int .i64 0, .int .i64 0, .int .i64 0, .int .i64 0, .int .i64 0, .int .i64 0, .int .i64 0, .int .i64 0, .int .i64 0, .int .i64 0, .int .i64 0, .int .i64 0, .int .i64 0, .int .i64 0, .int .i64 0, .int .i64 0, .bool false, .bool false, .int .i64 0, .bool false, .int .i64 0, .int .i64 0])).run Try.prog w' = .ok (.bool true) w' := fun w' => by rw [zero_lit]; exact eql_self zeroS zero_full w'
  have GD : ∀ (x y : Operand) (w' : World), (eqGuard .eql 40 x y (sv zeroS) (.agg #[.bool false, .int .i64 0, .int .i64 0, .int .i64 0, .int .i64 0, .int .i64 0, .int .i64 0, .int .i64 0, .int .i64 0, .int .i64 0, .int .i64 0, .int .i64 0, .int .i64 0, .int .i64 0, .int .i64 0, .int .i64 0, .int .i64 0, .int .i64 0, .int .i64 0, .int .i64 0, .int .i64 0, .int .i64 0, .int .i64 0, .int .i64 0, .int .i64 0, .int .i64 0, .int .i64 0, .int .i64 0, .int .i64 0, .int .i64 0, .int .i64 0, .int .i64 0, .int .i64 0, .int .i64 0, .int .i64 0, .int .i64 0, .int .i64 0, .int .i64 0, .int .i64 0, .int .i64 0, .int .i64 0, .int .i64 0, .bool false, .bool false, .int .i64 0, .bool false, .int .i64 0, .int .i64 0])).run Try.prog w' = .ok () w' := fun x y w' => by rw [zero_lit]; exact guard_self .eql x y zeroS zeroS w'
  go_enter Try.func6, Try.ntmps6
  have A0 := Lib.hid (awakeK_any w)
  go_wp2_with (first
    | (go_at_call 7; refine A0.out.mono ?_; clear A0; rintro _ w1 ⟨rfl, hs1⟩; have S1 : Hid (Seen w w1) := hs1; clear hs1)
    | (go_at_call 11; refine (HL.out w1).mono ?_; rintro _ w2 ⟨rfl, hw⟩; rw [hw]; clear hw)
    | (go_at_call 16; refine (HP.out w1).mono ?_; rintro _ w3 ⟨rfl, hs⟩; have S3 : Hid (Seen w w3) := S1.out.trans hs; clear hs)
    | (go_at_call 17; refine (HY.out w3).mono ?_; rintro _ w4 ⟨rfl, hs⟩; have S4 : Hid (Seen w w4) := S3.out.trans hs; clear hs)
    | (go_at_call 15; refine (HK.out w4).mono ?_; rintro _ w5 ⟨a5, c5, rfl, hs⟩; have S5 : Hid (Seen w w5) := S4.out.trans hs; clear hs)
    | (go_at_call 18; refine (HW.out w5).mono ?_; rintro _ w6 ⟨a6, c6, rfl, hs⟩; have S6 : Hid (Seen w w6) := S5.out.trans hs; clear hs)
    | (go_at_call 19; refine (HU.out w6).mono ?_; rintro _ w7 ⟨a7, c7, rfl, hs⟩; have S7 : Hid (Seen w w7) := S6.out.trans hs; clear hs)
    | (go_at_call 12; refine (HE.out w7).mono ?_; rintro _ w8 ⟨rfl, hs⟩; have S8 : Hid (Seen w w8) := S7.out.trans hs; clear hs)
    | (go_at_call 20; refine (HD.out w8).mono ?_; rintro _ w9 ⟨rfl, hs⟩; have S9 : Hid (Seen w w9) := S8.out.trans hs; clear hs)
    | (go_at_call 21; refine (HM.out w9).mono ?_; rintro _ w10 ⟨rfl, hs⟩; have S10 : Hid (Seen w w10) := S9.out.trans hs; clear hs)
    | (go_at_call 22; refine (HO.out w10).mono ?_; rintro _ w11 ⟨rfl, hs⟩; have S11 : Hid (Seen w w11) := S10.out.trans hs; clear hs)
    | (go_at_call 13; refine (HB.out w11).mono ?_; rintro _ w12 ⟨rfl, hs⟩; have S12 : Hid (Seen w w12) := S11.out.trans hs; clear hs))
  go_ret
  exact ⟨rfl, S12.out⟩

/-! ### The row's step. -/
set_option maxRecDepth 100000 in
theorem lifted (os : Os) (started : os.Started) (H : Type) (enc : TypeId × Value → H) :
    ReturnsInHanded {} Try.checked os 6 .any (Rows.kinNilSpec.pre6 enc Try.prog Try.f6 Rows.kinNilRow.domain false) (Rows.kinNilSpec.post enc Try.prog Try.f6 false true false false) := by
  refine returnsInHanded_of_change (C := Try.checked) own started (by kernel_rfl) Try.func6
    (ChangeSpec.witness6 (enc := enc) (C := Try.checked) false ⟨#[], #[.int .i64 0, .int .i64 0], []⟩ 8 (by kernel_rfl) (by kernel_rfl) (by kernel_rfl) (by kernel_rfl)) ?_
  intro W base args ds gs before hval0 hW hcnd _
  have hval : ∀ (j : Nat) t v, Try.f6.params[j]? = some t → args[j]? = some v → Value.okWide Try.prog W .any base t v := hval0
  have hW' := hW
  obtain ⟨p, q, hA0, hV, rfl, hfz, hnd⟩ := hW
  have hA : DataW.TrodAll enc Try.prog W 0 (fun _ => true) true Try.f6.params.toList args.toList ds p := hA0
  rw [Try.params6] at hA hval
  obtain ⟨v0, vs0, d0, ds0, p0, q0, hargs, rfl, rfl, h0, r0⟩ := trodAll_cons hA
  obtain ⟨v1, vs1, d1, ds1, p1, q1, rfl, rfl, rfl, h1, r1⟩ := trodAll_cons r0
  obtain ⟨rfl, rfl, rfl⟩ := trodAll_nil r1
  obtain rfl : args = #[v0, v1] := by cases args; simp_all
  obtain ⟨rfl, rfl⟩ := trodVars_none hV
  have k0 := h0
  have lt0 : ∀ x ∈ p0, x.block < W.heap.size := by obtain ⟨m, hm⟩ := k0; exact DataW.trod_lt m _ _ _ hm
  obtain ⟨g0, rfl, o0⟩ := open_int3 (hval 0 3 v0 rfl rfl) h0
  have k1 := h1
  have lt1 : ∀ x ∈ p1, x.block < W.heap.size := by obtain ⟨m, hm⟩ := k1; exact DataW.trod_lt m _ _ _ hm
  obtain ⟨g1, rfl, o1⟩ := open_int3 (hval 1 3 v1 rfl rfl) h1
  clear hA0 hval0
  refine (walk g0 g1 W o0 o1).mono fun e W' ⟨he, bel⟩ => ?_
  subst he
  exact ⟨_, rfl, _, _, _, [], _, [], hW', trodAll_mk1 (shut_bool Try.underlying4 _), (trodAll_cons_mk (Below.trod laidOut (by kernel_rfl) (of_decide_eq_true (by kernel_rfl)) k0 bel lt0) (trodAll_cons_mk (Below.trod laidOut (by kernel_rfl) (of_decide_eq_true (by kernel_rfl)) k1 bel lt1) trodAll_mk0)), rfl, bel.frame _, fun h => by cases h⟩

theorem over : Rows.kinNilRow.holds Try.pinned (OpenSpec.ofChange Rows.kinNilSpec) :=
  OpenClaim.holds_of_wide 6 Try.f6 rfl rfl rfl rfl rfl rfl rfl ⟨rfl, rfl, rfl, rfl, rfl⟩ rfl rfl rfl rfl rfl (by kernel_rfl) Try.func6 (by kernel_rfl)
    (of_decide_eq_true (by kernel_rfl)) (by unfold Func.isWrapper; first | (rw [if_pos (by decide +kernel)]; kernel_rfl) | (rw [if_neg (by decide +kernel)]; exact ⟨rfl, rfl⟩))
    (fun os started H enc _ => lifted os started H enc)

/-- The statement. -/
theorem proved : Rows.KinNilSaid := over
#print axioms proved
end Go.Proofs.Ytdnohhcoapkhaaa.kinNil
