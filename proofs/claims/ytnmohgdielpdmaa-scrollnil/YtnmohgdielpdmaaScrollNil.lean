/- Proved: for every number n the law ScrollNil returns true, and its argument reads afterwards as before; no conditions. -/
import Derived.Test.YtnmohgdielpdmaaRows
import Derived.WalkKit
import Derived.Test.YtnmohgdielpdmaaAwake
import Derived.Test.YtnmohgdielpdmaaArgs
import Derived.ProofKit
import Derived.OpenShut
import Derived.ShutString
import Derived.ChangeOld
import Derived.Below
namespace Go.Proofs.Ytnmohgdielpdmaa.scrollNil
open Go.ChangeShapes Go.WideShapes Go.ChangeAt Go.RowKit
set_option linter.unusedVariables false

theorem own : ownKnob Try.prog.godebug = none := by kernel_rfl
theorem laidOut : laidOutB Try.prog = true := by kernel_rfl


set_option maxRecDepth 100000 in
set_option maxHeartbeats 4000000 in
theorem walk (n : Int) (w : World) (on : -9223372036854775808 ≤ n ∧ n < 9223372036854775808) :
    Calls Try.prog 6 #[.int .i64 n] w fun e w' => e = .returned (.bool true) ∧ Below w.heap.size w w' := by
  clear on
  go_enter Try.func6, Try.ntmps6
  go_wp2_with (first
    | (go_at_call 10; refine (oEight_nil n _).mono ?_; rintro _ w1 ⟨rfl, rfl⟩)
    | (go_at_call 18; refine (fail_nil _).mono ?_; rintro _ w2 ⟨rfl, rfl⟩)
    | (go_at_call 7; refine (awake_any _).mono ?_; rintro _ w3 ⟨rfl, b3⟩; have S3 := Lib.hid b3; clear b3)
    | (go_at_call 12; refine (bytes_nil _).mono ?_; rintro _ w4 ⟨rfl, rfl⟩)
    | (go_at_call 17; refine (iEight_nil _).mono ?_; rintro _ w5 ⟨rfl, rfl⟩)
    | (go_at_call 14; refine (iByte_nil _).mono ?_; rintro _ w6 ⟨rfl, rfl⟩)
    | (go_at_call 19; refine (bad_nil _).mono ?_; rintro _ w7 ⟨rfl, rfl⟩)
    | (go_at_call 21; refine (done_nil _).mono ?_; rintro _ w8 ⟨rfl, rfl⟩)
    | (go_at_call 20; refine (left_nil _).mono ?_; rintro _ w9 ⟨rfl, rfl⟩))
  go_ret
  exact ⟨rfl, S3.out⟩

/-! ### The row's step. -/
set_option maxRecDepth 100000 in
theorem lifted (os : Os) (started : os.Started) (H : Type) (enc : TypeId × Value → H) :
    ReturnsInHanded {} Try.checked os 6 .any (Rows.scrollNilSpec.pre6 enc Try.prog Try.f6 Rows.scrollNilRow.domain false) (Rows.scrollNilSpec.post enc Try.prog Try.f6 false true false false) := by
  refine returnsInHanded_of_change (C := Try.checked) own started (by kernel_rfl) Try.func6
    (ChangeSpec.witness6 (enc := enc) (C := Try.checked) false ⟨#[], #[.int .i64 0], []⟩ 8 (by kernel_rfl) (by kernel_rfl) (by kernel_rfl) (by kernel_rfl)) ?_
  intro W base args ds gs before hval0 hW hcnd _
  have hval : ∀ (j : Nat) t v, Try.f6.params[j]? = some t → args[j]? = some v → Value.okWide Try.prog W .any base t v := hval0
  have hW' := hW
  obtain ⟨p, q, hA0, hV, rfl, hfz, hnd⟩ := hW
  have hA : DataW.TrodAll enc Try.prog W 0 (fun _ => true) true Try.f6.params.toList args.toList ds p := hA0
  rw [Try.params6] at hA hval
  obtain ⟨v0, vs0, d0, ds0, p0, q0, hargs, rfl, rfl, h0, r0⟩ := trodAll_cons hA
  obtain ⟨rfl, rfl, rfl⟩ := trodAll_nil r0
  obtain rfl : args = #[v0] := by cases args; simp_all
  obtain ⟨rfl, rfl⟩ := trodVars_none hV
  have k0 := h0
  have lt0 : ∀ x ∈ p0, x.block < W.heap.size := by obtain ⟨m, hm⟩ := k0; exact DataW.trod_lt m _ _ _ hm
  obtain ⟨g0, rfl, o0⟩ := open_num (hval 0 2 v0 rfl rfl) h0
  clear hA0 hval0
  refine (walk g0 W o0).mono fun e W' ⟨he, bel⟩ => ?_
  subst he
  exact ⟨_, rfl, _, _, _, [], _, [], hW', trodAll_mk1 (shut_bool Try.underlying4 _), (trodAll_cons_mk (Below.trod laidOut (by kernel_rfl) (of_decide_eq_true (by kernel_rfl)) k0 bel lt0) trodAll_mk0), rfl, bel.frame _, fun h => by cases h⟩

theorem over : Rows.scrollNilRow.holds Try.pinned (OpenSpec.ofChange Rows.scrollNilSpec) :=
  OpenClaim.holds_of_wide 6 Try.f6 rfl rfl rfl rfl rfl rfl rfl ⟨rfl, rfl, rfl, rfl, rfl⟩ rfl rfl rfl rfl rfl (by kernel_rfl) Try.func6 (by kernel_rfl)
    (of_decide_eq_true (by kernel_rfl)) (by unfold Func.isWrapper; first | (rw [if_pos (by decide +kernel)]; kernel_rfl) | (rw [if_neg (by decide +kernel)]; exact ⟨rfl, rfl⟩))
    (fun os started H enc _ => lifted os started H enc)

/-- The statement. -/
theorem proved : Rows.ScrollNilSaid := over
#print axioms proved
end Go.Proofs.Ytnmohgdielpdmaa.scrollNil
