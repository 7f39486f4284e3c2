/- Proved: for all bytes the law TreeDecodes returns true, and its argument reads afterwards as before; no conditions. -/
import Derived.Test.YthphmhcgnkoigaaRows
import Derived.WalkKit
import Derived.Test.YthphmhcgnkoigaaAwakeT
import Derived.Test.YthphmhcgnkoigaaFromT
import Derived.Test.YthphmhcgnkoigaaArgs
import Derived.ProofKit
import Derived.OpenShut
import Derived.ShutString
import Derived.ChangeOld
import Derived.Below
namespace Go.Proofs.Ythphmhcgnkoigaa.treeDecodes
open Go.ChangeShapes Go.WideShapes Go.ChangeAt Go.RowKit
set_option linter.unusedVariables false

theorem own : ownKnob Try.prog.godebug = none := by kernel_rfl
theorem laidOut : laidOutB Try.prog = true := by kernel_rfl


theorem want_no {l : List Int} (h : fromOk l = false) : codeT l = 2 := by
  unfold fromOk at h
  cases hd : decOk l with
  | false => exact code_no hd
  | true =>
    rw [hd] at h
    have h0 : decC l = 0 := by simp at h; exact h
    rw [code_yes hd]
    have e : (decA l).2 = [] := by unfold decA; rw [h0]; rfl
    rw [e]; exact check_nil
theorem want_yes {l : List Int} (h : fromOk l = true) : codeT l = checkT (decA l).2 := by
  unfold fromOk at h
  rw [Bool.and_eq_true] at h
  exact code_yes h.1
set_option maxRecDepth 100000 in
set_option maxHeartbeats 8000000 in
theorem walk (a : Option Addr) (n c : Nat) (l : List Int) (w : World) (o : BS w a n l ∧ Bytes8 l ∧ n ≤ c ∧ (a = none → c = 0)) :
    Calls Try.prog 5 #[.slice a n c] w fun e w' => e = .returned (.bool true) ∧ Below w.heap.size w w' := by
  have HO := Lib.hid o
  clear o
  by_cases hbig : (n : Int) > 20000
  · go_enter Try.func5, Try.ntmps5
    have A0 := Lib.hid (awakeT_any w)
    go_wp2_with (first
      | (go_at_call 8; refine A0.out.mono ?_; clear A0; rintro _ w1 ⟨rfl, hs1⟩; have S1 : Hid (Seen w w1) := hs1; clear hs1)
      | (go_at_call 8; refine (awakeT_any w1).mono ?_; rintro _ w2 ⟨rfl, hs2⟩; have S2 : Hid (Seen w w2) := S1.out.trans hs2
         clear hs2))
    go_ret
    exact ⟨rfl, S2.out⟩
  · have HD : Hid (∀ w', Seen w w' → Calls Try.prog 14 #[.slice a n c] w' fun e w'' => ∃ v, e = .returned (.tuple #[v, .int .i64 (codeT l)]) ∧ Seen w' w'' ∧ (codeT l ≠ 0 → v = .slice none 0 0) ∧ (codeT l = 0 → w''.ownsRow w'.heap.size 51 49 v (decA l).2.length (flatN (decA l).2))) := fun w' h' => decode_any a n c l w' (HO.out.1.seen h') HO.out.2.1 HO.out.2.2.2 (by omega)
    have HF : Hid (∀ w', Seen w w' → Calls Try.prog 18 #[.slice a n c] w' fun e w'' => ∃ v, e = .returned (.tuple #[v, .bool (fromOk l)]) ∧ Seen w' w'' ∧ (fromOk l = true → w''.ownsRow w'.heap.size 51 49 v (decA l).2.length (flatN (decA l).2))) := fun w' h' => fromT_any a n c l w' (HO.out.1.seen h') HO.out.2.1 HO.out.2.2.1 (by omega)
    have HMO : Hid ((decA l).2.length ≤ 20001) := by
      unfold Hid
      have h1 := (DI.all l HO.out.2.1).most
      have h2 := HO.out.1.1
      omega
    cases hf : fromOk l
    · rw [hf] at HF
      rw [want_no hf] at HD
      clear hf
      go_enter Try.func5, Try.ntmps5
      have A0 := Lib.hid (awakeT_any w)
      go_wp2_with (first
        | (go_at_call 8; refine A0.out.mono ?_; clear A0; rintro _ w1 ⟨rfl, hs1⟩; have S1 : Hid (Seen w w1) := hs1; clear hs1)
        | (go_at_call 14; refine (HD.out w1 S1.out).mono ?_; clear HD; rintro _ w2 ⟨v2, rfl, hs2, hn2, _⟩; obtain rfl := hn2 (by decide); have S2 : Hid (Seen w w2) := S1.out.trans hs2
           clear hs2 hn2)
        | (go_at_call 18; refine (HF.out w2 S2.out).mono ?_; clear HF; rintro _ w3 ⟨v3, rfl, hs3, _⟩; have S3 : Hid (Seen w w3) := S2.out.trans hs3
           clear hs3))
      go_ret
      exact ⟨rfl, S3.out⟩
    · have HCK : Hid (∀ a n c w', NS w' a n (decA l).2 → n ≤ 20001 → Calls Try.prog 12 #[.slice a n c] w' fun e w'' => e = .returned (.int .i64 (codeT l)) ∧ Seen w' w'') := fun a n c w' h' hn' => by
        rw [want_yes hf]; exact refCheck_any a n c _ w' h' (by omega)
      rw [hf] at HF
      clear hf
      obtain ⟨C, hC⟩ : ∃ C, codeT l = C := ⟨_, rfl⟩
      rw [hC] at HD HCK
      clear hC
      cases hC0 : (C == 0)
      · have hne : C ≠ 0 := by intro e; rw [e] at hC0; cases hC0
        have HNE := Lib.hid hne
        clear hne
        go_enter Try.func5, Try.ntmps5
        have A0 := Lib.hid (awakeT_any w)
        go_wp2_with (first
          | (go_at_call 8; refine A0.out.mono ?_; clear A0; rintro _ w1 ⟨rfl, hs1⟩; have S1 : Hid (Seen w w1) := hs1; clear hs1)
          | (go_at_call 14; refine (HD.out w1 S1.out).mono ?_; clear HD; rintro _ w2 ⟨v2, rfl, hs2, hn2, _⟩; obtain rfl := hn2 HNE.out; have S2 : Hid (Seen w w2) := S1.out.trans hs2
             clear hs2 hn2)
          | (go_at_call 18; refine (HF.out w2 S2.out).mono ?_; clear HF; rintro _ w3 ⟨v3, rfl, hs3, ho3⟩
             obtain ⟨a3, c3, rfl, hns3, _, _⟩ := ns_of_own (ho3 (by trivial)) rfl
             have S3 : Hid (Seen w w3) := S2.out.trans hs3
             have N3 := Lib.hid hns3
             clear hs3 ho3 hns3)
          | (go_at_call 12; refine (HCK.out a3 _ c3 w3 N3.out HMO.out).mono ?_; clear HCK; rintro _ w4 ⟨rfl, hs4⟩; have S4 : Hid (Seen w w4) := S3.out.trans hs4
             clear hs4))
        go_ret
        exact ⟨rfl, S4.out⟩
      · obtain rfl : C = 0 := by simpa using hC0
        clear hC0
        go_enter Try.func5, Try.ntmps5
        have A0 := Lib.hid (awakeT_any w)
        go_wp2_with (first
          | (go_at_call 8; refine A0.out.mono ?_; clear A0; rintro _ w1 ⟨rfl, hs1⟩; have S1 : Hid (Seen w w1) := hs1; clear hs1)
          | (go_at_call 14; refine (HD.out w1 S1.out).mono ?_; clear HD; rintro _ w2 ⟨v2, rfl, hs2, _, ho2⟩
             obtain ⟨a2, c2, rfl, hns2, _, _⟩ := ns_of_own (ho2 (by trivial)) rfl
             have S2 : Hid (Seen w w2) := S1.out.trans hs2
             have N2 := Lib.hid hns2
             clear hs2 ho2 hns2)
          | (go_at_call 18; refine (HF.out w2 S2.out).mono ?_; clear HF; rintro _ w3 ⟨v3, rfl, hs3, ho3⟩
             obtain ⟨a3, c3, rfl, hns3, _, _⟩ := ns_of_own (ho3 (by trivial)) rfl
             have S3 : Hid (Seen w w3) := S2.out.trans hs3
             have N3 := Lib.hid (And.intro hns3 (N2.out.seen hs3))
             clear hs3 ho3 hns3)
          | (go_at_call 12; refine (HCK.out a3 _ c3 w3 N3.out.1 HMO.out).mono ?_; clear HCK; rintro _ w4 ⟨rfl, hs4⟩; have S4 : Hid (Seen w w4) := S3.out.trans hs4
             have N4 := Lib.hid (And.intro (N3.out.1.seen hs4) (N3.out.2.seen hs4))
             clear hs4)
          | (go_at_call 16; refine (refSame_any a2 a3 _ c2 c3 _ w4 N4.out.2 N4.out.1 (by have := HMO.out; omega)).mono ?_; rintro _ w5 ⟨rfl, hs5⟩; have S5 : Hid (Seen w w5) := S4.out.trans hs5
             clear hs5))
        go_ret
        exact ⟨rfl, S5.out⟩

/-! ### The row's step. -/
set_option maxRecDepth 100000 in
theorem lifted (os : Os) (started : os.Started) (H : Type) (enc : TypeId × Value → H) :
    ReturnsInHanded {} Try.checked os 5 .any (Rows.treeDecodesSpec.pre6 enc Try.prog Try.f5 Rows.treeDecodesRow.domain false) (Rows.treeDecodesSpec.post enc Try.prog Try.f5 false true false false) := by
  refine returnsInHanded_of_change (C := Try.checked) own started (by kernel_rfl) Try.func5
    (ChangeSpec.witness6 (enc := enc) (C := Try.checked) false ⟨#[], #[.slice none 0 0], []⟩ 8 (by kernel_rfl) (by kernel_rfl) (by kernel_rfl) (by kernel_rfl)) ?_
  intro W base args ds gs before hval0 hW hcnd _
  have hval : ∀ (j : Nat) t v, Try.f5.params[j]? = some t → args[j]? = some v → Value.okWide Try.prog W .any base t v := hval0
  have hW' := hW
  obtain ⟨p, q, hA0, hV, rfl, hfz, hnd⟩ := hW
  have hA : DataW.TrodAll enc Try.prog W 0 (fun _ => true) true Try.f5.params.toList args.toList ds p := hA0
  rw [Try.params5] at hA hval
  obtain ⟨v0, vs0, d0, ds0, p0, q0, hargs, rfl, rfl, h0, r0⟩ := trodAll_cons hA
  obtain ⟨rfl, rfl, rfl⟩ := trodAll_nil r0
  obtain rfl : args = #[v0] := by cases args; simp_all
  obtain ⟨rfl, rfl⟩ := trodVars_none hV
  have k0 := h0
  have lt0 : ∀ x ∈ p0, x.block < W.heap.size := by obtain ⟨m, hm⟩ := k0; exact DataW.trod_lt m _ _ _ hm
  obtain ⟨a0, len0, cap0, g0, rfl, o0⟩ := open_bytes (hval 0 28 v0 rfl rfl) h0
  clear hA0 hval0
  refine (walk a0 len0 cap0 g0 W o0).mono fun e W' ⟨he, bel⟩ => ?_
  subst he
  exact ⟨_, rfl, _, _, _, [], _, [], hW', trodAll_mk1 (shut_bool Try.underlying4 _), (trodAll_cons_mk (Below.trod laidOut (by kernel_rfl) (of_decide_eq_true (by kernel_rfl)) k0 bel lt0) trodAll_mk0), rfl, bel.frame _, fun h => by cases h⟩

theorem over : Rows.treeDecodesRow.holds Try.pinned (OpenSpec.ofChange Rows.treeDecodesSpec) :=
  OpenClaim.holds_of_wide 5 Try.f5 rfl rfl rfl rfl rfl rfl rfl ⟨rfl, rfl, rfl, rfl, rfl⟩ rfl rfl rfl rfl rfl (by kernel_rfl) Try.func5 (by kernel_rfl)
    (of_decide_eq_true (by kernel_rfl)) (by unfold Func.isWrapper; first | (rw [if_pos (by decide +kernel)]; kernel_rfl) | (rw [if_neg (by decide +kernel)]; exact ⟨rfl, rfl⟩))
    (fun os started H enc _ => lifted os started H enc)

/-- The statement. -/
theorem proved : Rows.TreeDecodesSaid := over
#print axioms proved
end Go.Proofs.Ythphmhcgnkoigaa.treeDecodes
