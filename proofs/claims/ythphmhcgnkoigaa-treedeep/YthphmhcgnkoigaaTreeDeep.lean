/- Proved: for every number the law TreeDeep returns true, and its argument reads afterwards as before; no conditions. -/
import Derived.Test.YthphmhcgnkoigaaRows
import Derived.WalkKit
import Derived.Test.YthphmhcgnkoigaaChain
import Derived.ProofKit
import Derived.OpenShut
import Derived.ShutString
import Derived.ChangeOld
import Derived.Below
namespace Go.Proofs.Ythphmhcgnkoigaa.treeDeep
open Go.ChangeShapes Go.WideShapes Go.ChangeAt Go.RowKit
set_option linter.unusedVariables false

theorem own : ownKnob Try.prog.godebug = none := by kernel_rfl
theorem laidOut : laidOutB Try.prog = true := by kernel_rfl


set_option maxRecDepth 100000 in
set_option maxHeartbeats 8000000 in
theorem walk (g : Int) (w : World) (o : 0 ≤ g ∧ g < 256) :
    Calls Try.prog 7 #[.int .u8 g] w fun e w' => e = .returned (.bool true) ∧ Below w.heap.size w w' := by
  obtain ⟨i0, hi, hz0, hz1, hz2⟩ := info_parts info51z
  obtain ⟨h0, h1⟩ := o
  obtain ⟨m, hm⟩ : ∃ m : Nat, (m : Int) = g % 12 := ⟨(g % 12).toNat, by omega⟩
  have hm12 : m < 12 := by omega
  have hrem : Int.tmod g 12 = (m : Int) := by rw [Int.tmod_eq_emod_of_nonneg h0, hm]
  obtain ⟨n, hn⟩ : ∃ n : Nat, 250 + (m : Int) = (n : Int) := ⟨250 + m, by omega⟩
  have hn1 : 250 ≤ n := by omega
  have hn2 : n ≤ 261 := by omega
  clear hm
  have A0 := Lib.hid (awakeT_any w)
  go_enter Try.func7, Try.ntmps7
  go_wp2_with (go_at_call 8; refine A0.out.mono ?_; clear A0; rintro _ w1 ⟨rfl, hs1⟩; have S1 : Hid (Seen w w1) := hs1; clear hs1)
  go_loopw [3, 12] (fun v i wr => ∃ k : Nat, k ≤ n ∧ i = .int .i64 k ∧ wr.ownsRow w.heap.size 51 49 v k (flatN (chainL k)) ∧ Seen w wr) (fun _ i _ => n - (intOf i).toNat)
  case atStart => exact ⟨0, Nat.zero_le _, rfl, World.ownsRow_nil _ _ _ _, S1.out⟩
  case round =>
    obtain ⟨k, hk, rfl, hown, hs⟩ := hrel
    have R1 := Lib.hid hown
    have S2 := Lib.hid hs
    clear hown hs S1
    by_cases hlt : k < n
    · have hk' : (k : Int) < (n : Int) := by omega
      obtain ⟨p, hp⟩ : ∃ p : Int, (k : Int) - 1 = p := ⟨_, rfl⟩
      have HQ : Hid (chainL (k + 1) = chainL k ++ [plainN p]) := by rw [← hp]; exact chainL_step k
      go_wp2_with (first
        | (go_at_call 22; refine (plain_any wr).mono ?_; rintro _ w2 ⟨rfl, hs2⟩; have S3 : Hid (Seen wr w2) := hs2; clear hs2)
        | (refine wpList_buildN rfl (.tmp 16) (.tmp 18) rfl (plainK 4) (plain_full (Nat.le_refl 4)) p rfl rfl ?_)
        | (refine wpList_buildS1 rfl (.tmp 19) rfl (plainN p) rfl ?_)
        | (at_builtin; refine wpList_append_rows _ rfl (.tmp 15) (.tmp 20) 22 rfl 51 i0 _ 49 384 Try.underlying22 hi hz0 hz1 hz2 (by kernel_rfl) (by decide) w.heap.size 0 u3 k (flatN (chainL k)) rfl (row_seen R1.out (S3.out.alloc _)) (.slice (some ⟨w2.heap.size, 0, none⟩) 1 1) 1 (flatN [plainN p]) rfl (new_rowN w2 (plainN p) 0 (Nat.zero_le _)) (flatN_one _) (by unfold maxLen; omega) (by omega) ((S2.out.trans S3.out).alloc _).size ?_
           intro v3 w3 ho3 hg3 hat3
           have R3 : Hid (w3.ownsRow w.heap.size 51 49 v3 (k + 1) (flatN (chainL (k + 1)))) := by unfold Hid; rw [HQ.out, flatN_append]; exact ho3
           have S4 : Hid (Seen w w3) := Below.grown ((S2.out.trans S3.out).alloc _) hg3 ((S2.out.trans S3.out).alloc _).size (fun j hj => (R1.out.lt j hj).1)
           clear ho3 hg3 hat3))
      exact ⟨⟨k + 1, by omega, by go_num, R3.out, S4.out⟩, by simp [intOf]; omega⟩
    · have hk' : ¬ (k : Int) < (n : Int) := by omega
      obtain rfl : k = n := by omega
      obtain ⟨a, c, rfl, hns, _, _⟩ := ns_of_own R1.out (chainL_length k)
      have HCK := Lib.hid (check_any a k c (chainL k) wr hns (by omega))
      rw [chain_check (by omega) (by omega)] at HCK
      clear hns
      by_cases h256 : k ≤ 256
      · rw [if_pos h256] at HCK
        have h256' : (k : Int) ≤ 256 := by omega
        go_wp2_with (go_at_call 11; refine HCK.out.mono ?_; rintro _ w3 ⟨rfl, hs3⟩; have S3 := Lib.hid (S2.out.trans hs3); clear hs3)
        go_ret
        exact ⟨rfl, S3.out⟩
      · rw [if_neg h256] at HCK
        have h256' : (k : Int) > 256 := by omega
        go_wp2_with (go_at_call 11; refine HCK.out.mono ?_; rintro _ w3 ⟨rfl, hs3⟩; have S3 := Lib.hid (S2.out.trans hs3); clear hs3)
        go_ret
        exact ⟨rfl, S3.out⟩

/-! ### The row's step. -/
set_option maxRecDepth 100000 in
theorem lifted (os : Os) (started : os.Started) (H : Type) (enc : TypeId × Value → H) :
    ReturnsInHanded {} Try.checked os 7 .any (Rows.treeDeepSpec.pre6 enc Try.prog Try.f7 Rows.treeDeepRow.domain false) (Rows.treeDeepSpec.post enc Try.prog Try.f7 false true false false) := by
  refine returnsInHanded_of_change (C := Try.checked) own started (by kernel_rfl) Try.func7
    (ChangeSpec.witness6 (enc := enc) (C := Try.checked) false ⟨#[], #[.int .u8 0], []⟩ 8 (by kernel_rfl) (by kernel_rfl) (by kernel_rfl) (by kernel_rfl)) ?_
  intro W base args ds gs before hval0 hW hcnd _
  have hval : ∀ (j : Nat) t v, Try.f7.params[j]? = some t → args[j]? = some v → Value.okWide Try.prog W .any base t v := hval0
  have hW' := hW
  obtain ⟨p, q, hA0, hV, rfl, hfz, hnd⟩ := hW
  have hA : DataW.TrodAll enc Try.prog W 0 (fun _ => true) true Try.f7.params.toList args.toList ds p := hA0
  rw [Try.params7] at hA hval
  obtain ⟨v0, vs0, d0, ds0, p0, q0, hargs, rfl, rfl, h0, r0⟩ := trodAll_cons hA
  obtain ⟨rfl, rfl, rfl⟩ := trodAll_nil r0
  obtain rfl : args = #[v0] := by cases args; simp_all
  obtain ⟨rfl, rfl⟩ := trodVars_none hV
  have k0 := h0
  have lt0 : ∀ x ∈ p0, x.block < W.heap.size := by obtain ⟨m, hm⟩ := k0; exact DataW.trod_lt m _ _ _ hm
  obtain ⟨g0, rfl, o0⟩ := open_u8 (hval 0 5 v0 rfl rfl) h0
  clear hA0 hval0
  refine (walk g0 W o0).mono fun e W' ⟨he, bel⟩ => ?_
  subst he
  exact ⟨_, rfl, _, _, _, [], _, [], hW', trodAll_mk1 (shut_bool Try.underlying4 _), (trodAll_cons_mk (Below.trod laidOut (by kernel_rfl) (of_decide_eq_true (by kernel_rfl)) k0 bel lt0) trodAll_mk0), rfl, bel.frame _, fun h => by cases h⟩

theorem over : Rows.treeDeepRow.holds Try.pinned (OpenSpec.ofChange Rows.treeDeepSpec) :=
  OpenClaim.holds_of_wide 7 Try.f7 rfl rfl rfl rfl rfl rfl rfl ⟨rfl, rfl, rfl, rfl, rfl⟩ rfl rfl rfl rfl rfl (by kernel_rfl) Try.func7 (by kernel_rfl)
    (of_decide_eq_true (by kernel_rfl)) (by unfold Func.isWrapper; first | (rw [if_pos (by decide +kernel)]; kernel_rfl) | (rw [if_neg (by decide +kernel)]; exact ⟨rfl, rfl⟩))
    (fun os started H enc _ => lifted os started H enc)

/-- The statement. -/
theorem proved : Rows.TreeDeepSaid := over
#print axioms proved
end Go.Proofs.Ythphmhcgnkoigaa.treeDeep
