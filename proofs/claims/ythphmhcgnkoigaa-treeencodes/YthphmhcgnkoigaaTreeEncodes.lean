/- Proved: for every list of nodes the law TreeEncodes returns true, and its argument reads afterwards as before; no conditions. -/
import Derived.Test.YthphmhcgnkoigaaRows
import Derived.WalkKit
import Derived.Test.YthphmhcgnkoigaaAwakeT
import Derived.Test.YthphmhcgnkoigaaEncode
import Derived.Test.YthphmhcgnkoigaaDecBack
import Derived.Test.YthphmhcgnkoigaaRefBytesT
import Derived.Test.YthphmhcgnkoigaaHandT
import Derived.Test.YthphmhcgnkoigaaOpenN
import Derived.ProofKit
import Derived.OpenShut
import Derived.ShutString
import Derived.ChangeOld
import Derived.Below
namespace Go.Proofs.Ythphmhcgnkoigaa.treeEncodes
open Go.ChangeShapes Go.WideShapes Go.ChangeAt Go.RowKit
set_option linter.unusedVariables false

theorem own : ownKnob Try.prog.godebug = none := by kernel_rfl
theorem laidOut : laidOutB Try.prog = true := by kernel_rfl


set_option maxRecDepth 100000 in
set_option maxHeartbeats 16000000 in
theorem walk (a : Option Addr) (n c : Nat) (l : List Nd) (w : World) (o : NS w a n l ∧ (∀ q ∈ l, OkN q) ∧ n ≤ c ∧ (a = none → c = 0)) :
    Calls Try.prog 4 #[.slice a n c] w fun e w' => e = .returned (.bool true) ∧ Below w.heap.size w w' := by
  have HS := Lib.hid o.1
  have HO := Lib.hid o.2.1
  have HN : Hid (l.length = n) := o.1.1
  clear o
  by_cases hbig : (n : Int) > 100
  · go_enter Try.func4, Try.ntmps4
    have A0 := Lib.hid (awakeT_any w)
    go_wp2_with (first
      | (go_at_call 8; refine A0.out.mono ?_; clear A0; rintro _ w1 ⟨rfl, hs1⟩; have S1 : Hid (Seen w w1) := hs1; clear hs1)
      | (go_at_call 8; refine (awakeT_any w1).mono ?_; rintro _ w2 ⟨rfl, hs2⟩; have S2 : Hid (Seen w w2) := S1.out.trans hs2
         clear hs2))
    go_ret
    exact ⟨rfl, S2.out⟩
  obtain ⟨fb, hfb⟩ : ∃ fb, formedT l = fb := ⟨_, rfl⟩
  have HB := Lib.hid (And.intro hfb trivial)
  clear hfb
  cases fb
  · go_enter Try.func4, Try.ntmps4
    have A0 := Lib.hid (awakeT_any w)
    go_wp2_with (first
      | (go_at_call 8; refine A0.out.mono ?_; clear A0; rintro _ w1 ⟨rfl, hs1⟩; have S1 : Hid (Seen w w1) := hs1; clear hs1)
      | (go_at_call 13; refine (encode_no a n c l w1 (HS.out.seen S1.out) (by omega) HB.out.1).mono ?_; rintro _ w2 ⟨rfl, hs2⟩; have S2 : Hid (Seen w w2) := S1.out.trans hs2
         clear hs2)
      | (go_at_call 10; refine (refFormedT_any a n c l w2 (HS.out.seen S2.out) (by omega)).mono ?_; rintro _ w3 ⟨rfl, hs3⟩; rw [HB.out.1]; have S3 : Hid (Seen w w3) := S2.out.trans hs3
         clear hs3))
    go_ret
    exact ⟨rfl, S3.out⟩
  · have HT : Hid (FormedT l) := of_decide_eq_true (p := FormedT l) HB.out.1
    have hlen : (encT l).length ≤ 4 + 223 * n := by have := outT_len l l.length; rw [HN.out] at this; unfold encT; rw [HN.out]; exact this
    obtain ⟨L, hL⟩ : ∃ L, (encT l).length = L := ⟨_, rfl⟩
    rw [hL] at hlen
    have HL := Lib.hid hL
    clear hL
    obtain ⟨C, hC⟩ : ∃ C, checkT l = C := ⟨_, rfl⟩
    have HCD : Hid (codeT (encT l) = C ∧ (decA (encT l)).2 = l) := by
      have := code_back HT.out HO.out (by have := HN.out; omega)
      rw [hC] at this
      exact this
    have HCK : Hid (∀ w', Seen w w' → Calls Try.prog 12 #[.slice a n c] w' fun e w'' => e = .returned (.int .i64 C) ∧ Seen w' w'') := fun w' h' => by
      rw [← hC]; exact refCheck_any a n c l w' (HS.out.seen h') (by omega)
    clear hC
    cases hC0 : (C == 0)
    · have hne : C ≠ 0 := by intro e; rw [e] at hC0; cases hC0
      have HNE := Lib.hid hne
      clear hne
      go_enter Try.func4, Try.ntmps4
      have A0 := Lib.hid (awakeT_any w)
      go_wp2_with (first
        | (go_at_call 8; refine A0.out.mono ?_; clear A0; rintro _ w1 ⟨rfl, hs1⟩; have S1 : Hid (Seen w w1) := hs1; clear hs1)
        | (go_at_call 13; refine (encode_yes a n c l w1 (HS.out.seen S1.out) (by omega) HT.out).mono ?_; rintro _ w2 ⟨v2, rfl, ho2, hs2⟩
           rw [HL.out] at ho2
           obtain ⟨a3, c3, rfl, hb3, _, hn3⟩ := bs_of_own ho2 HL.out
           have S2 : Hid (Seen w w2) := S1.out.trans hs2
           have R2 := Lib.hid (And.intro ho2 (And.intro hb3 hn3))
           clear hs2 ho2 hb3 hn3)
        | (go_at_call 10; refine (refFormedT_any a n c l w2 (HS.out.seen S2.out) (by omega)).mono ?_; rintro _ w3 ⟨rfl, hs3⟩; rw [HB.out.1]
           have S3 : Hid (Seen w w3) := S2.out.trans hs3
           have S23 : Hid (Seen w2 w3) := hs3
           clear hs3)
        | (go_at_call 14; refine (decode_any a3 L c3 (encT l) w3 (R2.out.2.1.seen S23.out) (outT_ok _ _) R2.out.2.2 (by omega)).mono ?_
           rw [HCD.out.1]
           rintro _ w4 ⟨v4, rfl, hs4, hn4, ho4⟩
           have S4 : Hid (Seen w w4) := S3.out.trans hs4
           have S24 : Hid (Seen w2 w4) := S23.out.trans hs4
           obtain rfl := hn4 HNE.out
           clear hs4 hn4 ho4))
      have hcv : ∀ w', Seen w4 w' → (convert 28 9 (.slice a3 L c3)).run Try.prog w' = .ok (.string (strOfNums (encT l))) w' := fun w' h' => conv_own R2.out.1 HL.out w' (S24.out.trans h')
      have sd : Seen w4 w4.drew := (Seen.refl w4).drew
      refine wp_region_held_drew (S := fun w' => Seen w4 w') (by kernel_rfl) sd (fun _ => ?_)
      refine hTake 0 (some 35) (.int .i64 0) (by kernel_rfl) (by kernel_rfl) (by kernel_rfl) (by kernel_rfl) (by kernel_rfl) (by kernel_rfl) (fun _ _ _ h => h) (fun w' hS => by kernel_rfl) sd ?_
      simp only [Act.put, List.setIfInBounds_toArray, List.set_cons_zero, List.set_cons_succ]
      refine hTake 1 (some 36) (.bool false) (by kernel_rfl) (by kernel_rfl) (by kernel_rfl) (by kernel_rfl) (by kernel_rfl) (by kernel_rfl) (fun _ _ _ h => h) (fun w' hS => by kernel_rfl) sd ?_
      simp only [Act.put, List.setIfInBounds_toArray, List.set_cons_zero, List.set_cons_succ]
      refine hTake 2 (some 37) (.bool false) (by kernel_rfl) (by kernel_rfl) (by kernel_rfl) (by kernel_rfl) (by kernel_rfl) (by kernel_rfl) (fun _ _ _ h => h) (fun w' hS => by kernel_rfl) sd ?_
      simp only [Act.put, List.setIfInBounds_toArray, List.set_cons_zero, List.set_cons_succ]
      refine hTake 3 (some 38) (.slice a3 L c3) (by kernel_rfl) (by kernel_rfl) (by kernel_rfl) (by kernel_rfl) (by kernel_rfl) (by kernel_rfl) (fun _ _ _ h => h) (fun w' hS => by kernel_rfl) sd ?_
      simp only [Act.put, List.setIfInBounds_toArray, List.set_cons_zero, List.set_cons_succ]
      refine hTake 4 (some 39) (.string (strOfNums (encT l))) (by kernel_rfl) (by kernel_rfl) (by kernel_rfl) (by kernel_rfl) (by kernel_rfl) (by kernel_rfl) (fun _ _ _ h => h) (fun w' hS => run_by (convert 28 9 (.slice a3 L c3)) (by kernel_rfl) (hcv _ hS)) sd ?_
      simp only [Act.put, List.setIfInBounds_toArray, List.set_cons_zero, List.set_cons_succ]
      refine hTake 5 (some 40) (.slice a n c) (by kernel_rfl) (by kernel_rfl) (by kernel_rfl) (by kernel_rfl) (by kernel_rfl) (by kernel_rfl) (fun _ _ _ h => h) (fun w' hS => by kernel_rfl) sd ?_
      simp only [Act.put, List.setIfInBounds_toArray, List.set_cons_zero, List.set_cons_succ]
      refine hCall 6 (some 41) 15 #[.slice a n c] (by kernel_rfl) (by kernel_rfl) (by kernel_rfl) (by kernel_rfl) (by kernel_rfl) ?_
      refine (refBytesT_any a n c l _ (HS.out.seen (S4.out.trans sd)) (by omega) HT.out).mono ?_
      rintro _ w8 ⟨⟨v8, rfl, ho8⟩, hs8⟩
      have s8 : Seen w4 w8 := sd.trans hs8
      refine ⟨v8, rfl, s8, ?_⟩
      simp only [Act.put, List.setIfInBounds_toArray, List.set_cons_zero, List.set_cons_succ]
      refine hRun 7 (some 42) (.string (strOfNums (encT l))) (by kernel_rfl) (by kernel_rfl) (by kernel_rfl) (by kernel_rfl) (run_by (convert 28 9 v8) (by kernel_rfl) (conv_own ho8 rfl w8 (Seen.refl w8))) s8 ?_
      simp only [Act.put, List.setIfInBounds_toArray, List.set_cons_zero, List.set_cons_succ]
      refine hTake 8 (some 43) (.bool false) (by kernel_rfl) (by kernel_rfl) (by kernel_rfl) (by kernel_rfl) (by kernel_rfl) (by kernel_rfl) (fun _ _ _ h => h) (fun w' hS => run_by _ (by kernel_rfl) (str_neq (strOfNums (encT l)) (.tmp 39) (.tmp 42) _)) s8 ?_
      simp only [Act.put, List.setIfInBounds_toArray, List.set_cons_zero, List.set_cons_succ]
      refine hTake 9 (some 44) (.bool false) (by kernel_rfl) (by kernel_rfl) (by kernel_rfl) (by kernel_rfl) (by kernel_rfl) (by kernel_rfl) (fun _ _ _ h => h) (fun w' hS => by kernel_rfl) s8 ?_
      simp only [Act.put, List.setIfInBounds_toArray, List.set_cons_zero, List.set_cons_succ]
      refine hTake 10 (some 45) (.bool false) (by kernel_rfl) (by kernel_rfl) (by kernel_rfl) (by kernel_rfl) (by kernel_rfl) (by kernel_rfl) (fun _ _ _ h => h) (fun w' hS => by kernel_rfl) s8 ?_
      simp only [Act.put, List.setIfInBounds_toArray, List.set_cons_zero, List.set_cons_succ]
      refine hTake 11 (some 46) (.int .i64 C) (by kernel_rfl) (by kernel_rfl) (by kernel_rfl) (by kernel_rfl) (by kernel_rfl) (by kernel_rfl) (fun _ _ _ h => h) (fun w' hS => by kernel_rfl) s8 ?_
      simp only [Act.put, List.setIfInBounds_toArray, List.set_cons_zero, List.set_cons_succ]
      refine hTake 12 (some 47) (.slice a n c) (by kernel_rfl) (by kernel_rfl) (by kernel_rfl) (by kernel_rfl) (by kernel_rfl) (by kernel_rfl) (fun _ _ _ h => h) (fun w' hS => by kernel_rfl) s8 ?_
      simp only [Act.put, List.setIfInBounds_toArray, List.set_cons_zero, List.set_cons_succ]
      refine hCall 13 (some 48) 12 #[.slice a n c] (by kernel_rfl) (by kernel_rfl) (by kernel_rfl) (by kernel_rfl) (by kernel_rfl) ?_
      refine (HCK.out w8 (S4.out.trans s8)).mono ?_
      rintro _ w9 ⟨rfl, hs9⟩
      have s9 : Seen w4 w9 := s8.trans hs9
      refine ⟨_, rfl, s9, ?_⟩
      simp only [Act.put, List.setIfInBounds_toArray, List.set_cons_zero, List.set_cons_succ]
      refine hTake 14 (some 49) (.bool false) (by kernel_rfl) (by kernel_rfl) (by kernel_rfl) (by kernel_rfl) (by kernel_rfl) (by kernel_rfl) (fun _ _ _ h => h) (fun w' hS => run_by _ (by kernel_rfl) (num_neq C (.tmp 46) (.tmp 48) _)) s9 ?_
      simp only [Act.put, List.setIfInBounds_toArray, List.set_cons_zero, List.set_cons_succ]
      refine hTake 15 (some 50) (.bool false) (by kernel_rfl) (by kernel_rfl) (by kernel_rfl) (by kernel_rfl) (by kernel_rfl) (by kernel_rfl) (fun _ _ _ h => h) (fun w' hS => by kernel_rfl) s9 ?_
      simp only [Act.put, List.setIfInBounds_toArray, List.set_cons_zero, List.set_cons_succ]
      refine wpAnyH_done (by kernel_rfl) ?_ _
      have S9 := Lib.hid (S4.out.trans s9)
      have s49 := Lib.hid s9
      clear sd hcv s8 s9 hs8 hs9 ho8
      go_wp2_with fail
      go_ret
      exact ⟨rfl, S9.out⟩
    · obtain rfl : C = 0 := by simpa using hC0
      clear hC0
      go_enter Try.func4, Try.ntmps4
      have A0 := Lib.hid (awakeT_any w)
      go_wp2_with (first
        | (go_at_call 8; refine A0.out.mono ?_; clear A0; rintro _ w1 ⟨rfl, hs1⟩; have S1 : Hid (Seen w w1) := hs1; clear hs1)
        | (go_at_call 13; refine (encode_yes a n c l w1 (HS.out.seen S1.out) (by omega) HT.out).mono ?_; rintro _ w2 ⟨v2, rfl, ho2, hs2⟩
           rw [HL.out] at ho2
           obtain ⟨a3, c3, rfl, hb3, _, hn3⟩ := bs_of_own ho2 HL.out
           have S2 : Hid (Seen w w2) := S1.out.trans hs2
           have R2 := Lib.hid (And.intro ho2 (And.intro hb3 hn3))
           clear hs2 ho2 hb3 hn3)
        | (go_at_call 10; refine (refFormedT_any a n c l w2 (HS.out.seen S2.out) (by omega)).mono ?_; rintro _ w3 ⟨rfl, hs3⟩; rw [HB.out.1]
           have S3 : Hid (Seen w w3) := S2.out.trans hs3
           have S23 : Hid (Seen w2 w3) := hs3
           clear hs3)
        | (go_at_call 14; refine (decode_any a3 L c3 (encT l) w3 (R2.out.2.1.seen S23.out) (outT_ok _ _) R2.out.2.2 (by omega)).mono ?_
           rw [HCD.out.1]
           rintro _ w4 ⟨v4, rfl, hs4, hn4, ho4⟩
           have S4 : Hid (Seen w w4) := S3.out.trans hs4
           have S24 : Hid (Seen w2 w4) := S23.out.trans hs4
           rw [HCD.out.2, HN.out] at ho4
           obtain ⟨a5, c5, rfl, hns5, _, _⟩ := ns_of_own (ho4 (by trivial)) HN.out
           have N5 := Lib.hid hns5
           clear hns5
           clear hs4 hn4 ho4))
      have hcv : ∀ w', Seen w4 w' → (convert 28 9 (.slice a3 L c3)).run Try.prog w' = .ok (.string (strOfNums (encT l))) w' := fun w' h' => conv_own R2.out.1 HL.out w' (S24.out.trans h')
      have sd : Seen w4 w4.drew := (Seen.refl w4).drew
      refine wp_region_held_drew (S := fun w' => Seen w4 w') (by kernel_rfl) sd (fun _ => ?_)
      refine hTake 0 (some 35) (.int .i64 0) (by kernel_rfl) (by kernel_rfl) (by kernel_rfl) (by kernel_rfl) (by kernel_rfl) (by kernel_rfl) (fun _ _ _ h => h) (fun w' hS => by kernel_rfl) sd ?_
      simp only [Act.put, List.setIfInBounds_toArray, List.set_cons_zero, List.set_cons_succ]
      refine hTake 1 (some 36) (.bool false) (by kernel_rfl) (by kernel_rfl) (by kernel_rfl) (by kernel_rfl) (by kernel_rfl) (by kernel_rfl) (fun _ _ _ h => h) (fun w' hS => by kernel_rfl) sd ?_
      simp only [Act.put, List.setIfInBounds_toArray, List.set_cons_zero, List.set_cons_succ]
      refine hTake 2 (some 37) (.bool false) (by kernel_rfl) (by kernel_rfl) (by kernel_rfl) (by kernel_rfl) (by kernel_rfl) (by kernel_rfl) (fun _ _ _ h => h) (fun w' hS => by kernel_rfl) sd ?_
      simp only [Act.put, List.setIfInBounds_toArray, List.set_cons_zero, List.set_cons_succ]
      refine hTake 3 (some 38) (.slice a3 L c3) (by kernel_rfl) (by kernel_rfl) (by kernel_rfl) (by kernel_rfl) (by kernel_rfl) (by kernel_rfl) (fun _ _ _ h => h) (fun w' hS => by kernel_rfl) sd ?_
      simp only [Act.put, List.setIfInBounds_toArray, List.set_cons_zero, List.set_cons_succ]
      refine hTake 4 (some 39) (.string (strOfNums (encT l))) (by kernel_rfl) (by kernel_rfl) (by kernel_rfl) (by kernel_rfl) (by kernel_rfl) (by kernel_rfl) (fun _ _ _ h => h) (fun w' hS => run_by (convert 28 9 (.slice a3 L c3)) (by kernel_rfl) (hcv _ hS)) sd ?_
      simp only [Act.put, List.setIfInBounds_toArray, List.set_cons_zero, List.set_cons_succ]
      refine hTake 5 (some 40) (.slice a n c) (by kernel_rfl) (by kernel_rfl) (by kernel_rfl) (by kernel_rfl) (by kernel_rfl) (by kernel_rfl) (fun _ _ _ h => h) (fun w' hS => by kernel_rfl) sd ?_
      simp only [Act.put, List.setIfInBounds_toArray, List.set_cons_zero, List.set_cons_succ]
      refine hCall 6 (some 41) 15 #[.slice a n c] (by kernel_rfl) (by kernel_rfl) (by kernel_rfl) (by kernel_rfl) (by kernel_rfl) ?_
      refine (refBytesT_any a n c l _ (HS.out.seen (S4.out.trans sd)) (by omega) HT.out).mono ?_
      rintro _ w8 ⟨⟨v8, rfl, ho8⟩, hs8⟩
      have s8 : Seen w4 w8 := sd.trans hs8
      refine ⟨v8, rfl, s8, ?_⟩
      simp only [Act.put, List.setIfInBounds_toArray, List.set_cons_zero, List.set_cons_succ]
      refine hRun 7 (some 42) (.string (strOfNums (encT l))) (by kernel_rfl) (by kernel_rfl) (by kernel_rfl) (by kernel_rfl) (run_by (convert 28 9 v8) (by kernel_rfl) (conv_own ho8 rfl w8 (Seen.refl w8))) s8 ?_
      simp only [Act.put, List.setIfInBounds_toArray, List.set_cons_zero, List.set_cons_succ]
      refine hTake 8 (some 43) (.bool false) (by kernel_rfl) (by kernel_rfl) (by kernel_rfl) (by kernel_rfl) (by kernel_rfl) (by kernel_rfl) (fun _ _ _ h => h) (fun w' hS => run_by _ (by kernel_rfl) (str_neq (strOfNums (encT l)) (.tmp 39) (.tmp 42) _)) s8 ?_
      simp only [Act.put, List.setIfInBounds_toArray, List.set_cons_zero, List.set_cons_succ]
      refine hTake 9 (some 44) (.bool false) (by kernel_rfl) (by kernel_rfl) (by kernel_rfl) (by kernel_rfl) (by kernel_rfl) (by kernel_rfl) (fun _ _ _ h => h) (fun w' hS => by kernel_rfl) s8 ?_
      simp only [Act.put, List.setIfInBounds_toArray, List.set_cons_zero, List.set_cons_succ]
      refine hTake 10 (some 45) (.bool false) (by kernel_rfl) (by kernel_rfl) (by kernel_rfl) (by kernel_rfl) (by kernel_rfl) (by kernel_rfl) (fun _ _ _ h => h) (fun w' hS => by kernel_rfl) s8 ?_
      simp only [Act.put, List.setIfInBounds_toArray, List.set_cons_zero, List.set_cons_succ]
      refine hTake 11 (some 46) (.int .i64 0) (by kernel_rfl) (by kernel_rfl) (by kernel_rfl) (by kernel_rfl) (by kernel_rfl) (by kernel_rfl) (fun _ _ _ h => h) (fun w' hS => by kernel_rfl) s8 ?_
      simp only [Act.put, List.setIfInBounds_toArray, List.set_cons_zero, List.set_cons_succ]
      refine hTake 12 (some 47) (.slice a n c) (by kernel_rfl) (by kernel_rfl) (by kernel_rfl) (by kernel_rfl) (by kernel_rfl) (by kernel_rfl) (fun _ _ _ h => h) (fun w' hS => by kernel_rfl) s8 ?_
      simp only [Act.put, List.setIfInBounds_toArray, List.set_cons_zero, List.set_cons_succ]
      refine hCall 13 (some 48) 12 #[.slice a n c] (by kernel_rfl) (by kernel_rfl) (by kernel_rfl) (by kernel_rfl) (by kernel_rfl) ?_
      refine (HCK.out w8 (S4.out.trans s8)).mono ?_
      rintro _ w9 ⟨rfl, hs9⟩
      have s9 : Seen w4 w9 := s8.trans hs9
      refine ⟨_, rfl, s9, ?_⟩
      simp only [Act.put, List.setIfInBounds_toArray, List.set_cons_zero, List.set_cons_succ]
      refine hTake 14 (some 49) (.bool false) (by kernel_rfl) (by kernel_rfl) (by kernel_rfl) (by kernel_rfl) (by kernel_rfl) (by kernel_rfl) (fun _ _ _ h => h) (fun w' hS => run_by _ (by kernel_rfl) (num_neq 0 (.tmp 46) (.tmp 48) _)) s9 ?_
      simp only [Act.put, List.setIfInBounds_toArray, List.set_cons_zero, List.set_cons_succ]
      refine hTake 15 (some 50) (.bool false) (by kernel_rfl) (by kernel_rfl) (by kernel_rfl) (by kernel_rfl) (by kernel_rfl) (by kernel_rfl) (fun _ _ _ h => h) (fun w' hS => by kernel_rfl) s9 ?_
      simp only [Act.put, List.setIfInBounds_toArray, List.set_cons_zero, List.set_cons_succ]
      refine wpAnyH_done (by kernel_rfl) ?_ _
      have S9 := Lib.hid (S4.out.trans s9)
      have s49 := Lib.hid s9
      clear sd hcv s8 s9 hs8 hs9 ho8
      go_wp2_with (first
        | (go_at_call 16; refine (refSame_any a5 a n c5 c l w9 (N5.out.seen s49.out) (HS.out.seen S9.out) (by omega)).mono ?_; rintro _ w10 ⟨rfl, hs10⟩; have S10 : Hid (Seen w w10) := S9.out.trans hs10
           have s410 : Hid (Seen w4 w10) := s49.out.trans hs10
           clear hs10)
        | (go_at_call 17; refine (same_any a5 a n c5 c l w10 (N5.out.seen s410.out) (HS.out.seen S10.out) (by omega)).mono ?_; rintro _ w11 ⟨rfl, hs11⟩; have S11 : Hid (Seen w w11) := S10.out.trans hs11
           clear hs11))
      go_ret
      exact ⟨rfl, S11.out⟩

/-! ### The row's step. -/
set_option maxRecDepth 100000 in
theorem lifted (os : Os) (started : os.Started) (H : Type) (enc : TypeId × Value → H) :
    ReturnsInHanded {} Try.checked os 4 .any (Rows.treeEncodesSpec.pre6 enc Try.prog Try.f4 Rows.treeEncodesRow.domain false) (Rows.treeEncodesSpec.post enc Try.prog Try.f4 false true false false) := by
  refine returnsInHanded_of_change (C := Try.checked) own started (by kernel_rfl) Try.func4
    (ChangeSpec.witness6 (enc := enc) (C := Try.checked) false ⟨#[], #[.slice none 0 0], []⟩ 8 (by kernel_rfl) (by kernel_rfl) (by kernel_rfl) (by kernel_rfl)) ?_
  intro W base args ds gs before hval0 hW hcnd _
  have hval : ∀ (j : Nat) t v, Try.f4.params[j]? = some t → args[j]? = some v → Value.okWide Try.prog W .any base t v := hval0
  have hW' := hW
  obtain ⟨p, q, hA0, hV, rfl, hfz, hnd⟩ := hW
  have hA : DataW.TrodAll enc Try.prog W 0 (fun _ => true) true Try.f4.params.toList args.toList ds p := hA0
  rw [Try.params4] at hA hval
  obtain ⟨v0, vs0, d0, ds0, p0, q0, hargs, rfl, rfl, h0, r0⟩ := trodAll_cons hA
  obtain ⟨rfl, rfl, rfl⟩ := trodAll_nil r0
  obtain rfl : args = #[v0] := by cases args; simp_all
  obtain ⟨rfl, rfl⟩ := trodVars_none hV
  have k0 := h0
  have lt0 : ∀ x ∈ p0, x.block < W.heap.size := by obtain ⟨m, hm⟩ := k0; exact DataW.trod_lt m _ _ _ hm
  obtain ⟨a0, len0, cap0, g0, rfl, o0⟩ := open_nodes (hval 0 22 v0 rfl rfl) h0
  clear hA0 hval0
  refine (walk a0 len0 cap0 g0 W o0).mono fun e W' ⟨he, bel⟩ => ?_
  subst he
  exact ⟨_, rfl, _, _, _, [], _, [], hW', trodAll_mk1 (shut_bool Try.underlying4 _), (trodAll_cons_mk (Below.trod laidOut (by kernel_rfl) (of_decide_eq_true (by kernel_rfl)) k0 bel lt0) trodAll_mk0), rfl, bel.frame _, fun h => by cases h⟩

theorem over : Rows.treeEncodesRow.holds Try.pinned (OpenSpec.ofChange Rows.treeEncodesSpec) :=
  OpenClaim.holds_of_wide 4 Try.f4 rfl rfl rfl rfl rfl rfl rfl ⟨rfl, rfl, rfl, rfl, rfl⟩ rfl rfl rfl rfl rfl (by kernel_rfl) Try.func4 (by kernel_rfl)
    (of_decide_eq_true (by kernel_rfl)) (by unfold Func.isWrapper; first | (rw [if_pos (by decide +kernel)]; kernel_rfl) | (rw [if_neg (by decide +kernel)]; exact ⟨rfl, rfl⟩))
    (fun os started H enc _ => lifted os started H enc)

/-- The statement. -/
theorem proved : Rows.TreeEncodesSaid := over
#print axioms proved
end Go.Proofs.Ythphmhcgnkoigaa.treeEncodes
