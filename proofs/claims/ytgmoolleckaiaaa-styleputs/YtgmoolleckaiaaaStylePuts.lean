/- Proved: for every style s and all bytes more the law StylePuts returns true, and its arguments read afterwards as before; no conditions. -/
import Derived.Test.YtgmoolleckaiaaaRows
import Derived.WalkKit
import Derived.Test.YtgmoolleckaiaaaHandS
import Derived.Test.YtgmoolleckaiaaaRefFormed
import Derived.Test.YtgmoolleckaiaaaPutS
import Derived.Test.YtgmoolleckaiaaaGet
import Derived.Test.YtgmoolleckaiaaaRefBytes
import Derived.ProofKit
import Derived.OpenShut
import Derived.ShutString
import Derived.ChangeOld
import Derived.Below
namespace Go.Proofs.Ytgmoolleckaiaaa.stylePuts
open Go.ChangeShapes Go.WideShapes Go.ChangeAt Go.RowKit
set_option linter.unusedVariables false

theorem own : ownKnob Try.prog.godebug = none := by kernel_rfl
theorem laidOut : laidOutB Try.prog = true := by kernel_rfl


set_option maxRecDepth 100000 in
set_option maxHeartbeats 8000000 in
theorem walk (s : Sty) (ad : Option Addr) (n c : Nat) (l : List Int) (w : World) (os : OkS s) (ol : BS w ad n l ∧ Bytes8 l ∧ n ≤ c ∧ (ad = none → c = 0)) :
    Calls Try.prog 4 #[sv s, .slice ad n c] w fun e w' => e = .returned (.bool true) ∧ Below w.heap.size w w' := by
  obtain ⟨i0, hi, hz0, hz1, hz2⟩ := info_parts info5
  have HF := Lib.hid os.full
  have HO := Lib.hid os
  have HM := Lib.hid (src_of_bs ol.1 ol.2.2.2)
  have HMB := Lib.hid (And.intro ol.1.1 ol.2.1)
  clear os ol
  obtain ⟨W, hW⟩ : ∃ W, W = w.alloc (.cells (stl s).toArray 27) := ⟨_, rfl⟩
  have H0 : Hid (Hs W w.heap.size s) := by rw [hW]; exact hs_new w s
  have S0 : Hid (Seen w W) := by rw [hW]; exact (Seen.refl w).alloc _
  obtain ⟨fb, hfb⟩ : ∃ fb, formedB s = fb := ⟨_, rfl⟩
  have HB := Lib.hid (And.intro hfb trivial)
  clear hfb
  unfold sv
  by_cases hn : 50 < n
  · have hn' : (n : Int) > 50 := by omega
    go_enter Try.func4, Try.ntmps4
    go_wp2_with (first
      | (go_at_call 7; rw [← hW]; clear hW; refine (awake_any W).mono ?_; rintro _ w1 ⟨rfl, b1⟩; have S1 : Hid (Seen W w1) := b1
         clear b1)
      | (go_at_call 7; refine (awake_any w1).mono ?_; rintro _ w2 ⟨rfl, b2⟩; have S2 : Hid (Seen W w2) := S1.out.trans b2
         clear b2))
    go_ret
    exact ⟨rfl, S0.out.trans S2.out⟩
  have hn' : ¬ (n : Int) > 50 := by omega
  have fl : Hid (0 = 0) := rfl
  have fl2 : Hid (0 = 0) := rfl
  cases fb
  · go_enter Try.func4, Try.ntmps4
    go_wp2_with (first
      | (go_at_call 7; rw [← hW]; clear hW; refine (awake_any W).mono ?_; rintro _ w1 ⟨rfl, b1⟩; have S1 : Hid (Seen W w1) := b1
         clear b1)
      | (have gg := S1.out; clear gg; clear fl; refine wpList_loadS rfl (.tmp 2) rfl w.heap.size s rfl HF.out (H0.out.seen (S1.out.alloc _)) ?_)
      | (go_at_call 12; refine (put_no s HF.out HB.out.1 _ _).mono ?_; rintro _ w2 ⟨rfl, hs2⟩
         have O2 : Hid (OS w1.heap.size w1.heap.size (fun k => k = w1.heap.size) [] w2) := (os_new w1 _).seen hs2
         have S2 : Hid (Seen W w2) := (S1.out.alloc _).trans hs2
         clear hs2)
      | (go_at_call 13; refine (bytes_any _ _ _ _ w2 O2.out (by simp)).mono ?_; rintro _ w3 ⟨⟨v3, rfl, ho3⟩, hs3⟩; obtain ⟨a3, c3, rfl, _⟩ := bs_of_own ho3 rfl
         have S3 : Hid (Seen W w3) := S2.out.trans hs3
         clear hs3 ho3)
      | (have gg := S3.out; clear gg; clear fl2; refine wpList_loadS rfl (.tmp 2) rfl w.heap.size s rfl HF.out (H0.out.seen S3.out) ?_)
      | (go_at_call 9; refine (refFormed_any s HF.out w3).mono ?_; rintro _ w4 ⟨rfl, hs4⟩; rw [HB.out.1]
         have S4 : Hid (Seen W w4) := S3.out.trans hs4
         clear hs4))
    go_ret
    exact ⟨rfl, S0.out.trans S4.out⟩
  · have HP : Hid (FormedP s) := of_decide_eq_true (p := FormedP s) HB.out.1
    have hlen := encS_len HF.out
    obtain ⟨L, hL⟩ : ∃ L, (encS s).length = L := ⟨_, rfl⟩
    rw [hL] at hlen
    have HL := Lib.hid hL
    clear hL
    go_enter Try.func4, Try.ntmps4
    go_wp2_with (first
      | (go_at_call 7; rw [← hW]; clear hW; refine (awake_any W).mono ?_; rintro _ w1 ⟨rfl, b1⟩; have S1 : Hid (Seen W w1) := b1
         clear b1)
      | (have gg := S1.out; clear gg; clear fl; refine wpList_loadS rfl (.tmp 2) rfl w.heap.size s rfl HF.out (H0.out.seen (S1.out.alloc _)) ?_)
      | (go_at_call 12; refine (put_yes w1.heap.size w1.heap.size (fun k => k = w1.heap.size) [] s HF.out HP.out _ (os_new w1 _) (by simp) (by simp)).mono ?_; rintro _ w2 ⟨rfl, T2, m2, o2⟩
         rw [List.nil_append] at o2
         have O2 := Lib.hid o2
         have S2 : Hid (Seen W w2) := (S1.out.alloc _).moves m2 (fun k hk => by rw [hk]; exact S1.out.size)
         clear m2 o2)
      | (go_at_call 13; refine (bytes_any _ _ _ _ w2 O2.out (by rw [HL.out]; omega)).mono ?_; rintro _ w3 ⟨⟨v3, rfl, ho3⟩, hs3⟩
         rw [HL.out] at ho3
         obtain ⟨a3, c3, rfl, hb3, _, hn3⟩ := bs_of_own ho3 HL.out
         have S3 : Hid (Seen W w3) := S2.out.trans hs3
         have R3 := Lib.hid ho3
         have B3 := Lib.hid (src_of_bs hb3 hn3)
         clear hs3 ho3 hb3 hn3)
      | (have gg := S3.out; clear gg; clear fl2; refine wpList_loadS rfl (.tmp 2) rfl w.heap.size s rfl HF.out (H0.out.seen S3.out) ?_)
      | (go_at_call 9; refine (refFormed_any s HF.out w3).mono ?_; rintro _ w4 ⟨rfl, hs4⟩; rw [HB.out.1]
         have S4 : Hid (Seen W w4) := S3.out.trans hs4
         have s34 : Hid (Seen w3 w4) := hs4
         clear hs4)
      | (at_builtin; refine wpList_append_src _ rfl (.tmp 25) (.tmp 26) 30 rfl 5 i0 (.int .u8 0) 1 1 Try.underlying30 hi hz0 hz1 hz2 rfl (by decide) w4.heap.size (.slice (some ⟨w4.heap.size, 0, none⟩) 0 0) 0 [] rfl (World.ownsRow_made w4 #[] 0 (Nat.le_refl _) (Nat.zero_le _) rfl) (.slice a3 L c3) L (bv (encS s)) rfl (src_seen B3.out (s34.out.alloc _)) (bv_one _) (by unfold maxLen; omega) (by omega) ((Seen.refl w4).alloc _).size ?_
         intro v5 w5 ho5 hg5 hat5
         have S5 : Hid (Seen w4 w5) := Below.grown ((Seen.refl w4).alloc _) hg5 ((Seen.refl w4).alloc _).size (fun j hj => by simp [Value.ownBlock] at hj; omega)
         have O5 : Hid (w5.ownsRow w4.heap.size 5 1 v5 L (bv (encS s))) := by unfold Hid; simpa using ho5
         clear ho5 hg5 hat5)
      | (at_builtin; refine wpList_append_src _ rfl (.tmp 27) (.tmp 28) 30 rfl 5 i0 (.int .u8 0) 1 1 Try.underlying30 hi hz0 hz1 hz2 rfl (by decide) w4.heap.size v5 L (bv (encS s)) rfl O5.out (.slice ad n c) n (bv l) rfl (src_seen HM.out (S0.out.trans (S4.out.trans S5.out))) (bv_one _) (by unfold maxLen; omega) (by omega) S5.out.size ?_
         intro v6 w6 ho6 hg6 hat6
         have S6 : Hid (Seen w4 w6) := Below.grown S5.out hg6 S5.out.size (fun j hj => (O5.out.lt j hj).1)
         have O6 : Hid (w6.ownsRow w4.heap.size 5 1 v6 (L + n) (bv (encS s ++ l))) := by unfold Hid; rw [bv_append]; exact ho6
         obtain ⟨a6, c6, rfl, hb6, hc6, hn6⟩ := bs_of_own O6.out (by rw [List.length_append, HL.out, HMB.out.1])
         have B6 := Lib.hid (And.intro hb6 hn6)
         clear ho6 hg6 hat6 hb6 hn6)
      | (go_at_call 14; refine (newIn_any a6 (L + n) c6 (encS s ++ l) w6 B6.out.1 ((encS_ok s).append HMB.out.2) B6.out.2 (by omega)).mono ?_; rintro _ w7 ⟨B, K, rfl, hi7, hk7, hs7⟩
         have I7 : Hid (IT K B ⟨encS s ++ l, false⟩ w7) := hi7
         have S7 : Hid (Seen w4 w7) := S6.out.trans hs7
         have HB7 : Hid (w4.heap.size ≤ B) := Nat.le_trans S6.out.size (hk7 B hi7.1)
         clear hi7 hk7 hs7))
    have sw7 : Seen w4 w7 := S7.out
    have hld : ∀ w', Seen w4 w' → (Instr.loadAt 27 (.pointer (some ⟨w.heap.size, 0, none⟩))).run Try.prog w' = .ok (sv s) w' := fun w' h' => run_loadAtS (H0.out.seen (S4.out.trans h')) HF.out
    have hcv : ∀ w', Seen w4 w' → (convert 30 9 (.slice a3 L c3)).run Try.prog w' = .ok (.string (strOfNums (encS s))) w' := fun w' h' => conv_own R3.out HL.out w' (s34.out.trans h')
    have HGV : Hid (getV ⟨encS s ++ l, false⟩ = s ∧ getE ⟨encS s ++ l, false⟩ = ⟨l, false⟩) := (get_back HO.out HP.out l).2
    have sd : Seen w4 w7.drew := sw7.drew
    clear HM B3 R3 O2 O5 O6 B6 S1 S2 S3 S5 S6 S7
    refine wp_region_held_drew (S := fun w' => Seen w4 w') (by kernel_rfl) sd (fun _ => ?_)
    refine hTake 0 (some 31) (.slice a3 L c3) (by kernel_rfl) (by kernel_rfl) (by kernel_rfl) (by kernel_rfl) (by kernel_rfl) (by kernel_rfl) (fun _ _ _ h => h) (fun w' hS => by kernel_rfl) sd ?_
    simp only [Act.put, List.setIfInBounds_toArray, List.set_cons_zero, List.set_cons_succ]
    refine hTake 2 (some 33) (sv s) (by kernel_rfl) (by kernel_rfl) (by kernel_rfl) (by kernel_rfl) (by kernel_rfl) (by kernel_rfl) (fun _ _ _ h => h) (fun w' hS => run_by (Instr.loadAt 27 (.pointer (some ⟨w.heap.size, 0, none⟩))) (by kernel_rfl) (hld _ hS)) sd ?_
    simp only [Act.put, List.setIfInBounds_toArray, List.set_cons_zero, List.set_cons_succ]
    refine hTake 1 (some 32) (.string (strOfNums (encS s))) (by kernel_rfl) (by kernel_rfl) (by kernel_rfl) (by kernel_rfl) (by kernel_rfl) (by kernel_rfl) (fun _ _ _ h => h) (fun w' hS => run_by (convert 30 9 (.slice a3 L c3)) (by kernel_rfl) (hcv _ hS)) sd ?_
    simp only [Act.put, List.setIfInBounds_toArray, List.set_cons_zero, List.set_cons_succ]
    refine hCall 3 (some 34) 15 #[sv s] (by kernel_rfl) (by kernel_rfl) (by kernel_rfl) (by kernel_rfl) (by kernel_rfl) ?_
    refine (refBytes_any s HF.out ⟨HP.out.2.2.2.2.1, HP.out.2.2.2.2.2.1⟩ _).mono ?_
    rintro _ w8 ⟨⟨v8, rfl, ho8⟩, hs8⟩
    have s8 : Seen w4 w8 := sd.trans hs8
    have I8 := I7.out.seen ((Seen.refl w7).drew.trans hs8)
    refine ⟨v8, rfl, s8, ?_⟩
    simp only [Act.put, List.setIfInBounds_toArray, List.set_cons_zero, List.set_cons_succ]
    refine hRun 4 (some 35) (.string (strOfNums (encS s))) (by kernel_rfl) (by kernel_rfl) (by kernel_rfl) (by kernel_rfl) (run_by (convert 30 9 v8) (by kernel_rfl) (conv_own ho8 rfl w8 (Seen.refl w8))) s8 ?_
    simp only [Act.put, List.setIfInBounds_toArray, List.set_cons_zero, List.set_cons_succ]
    refine hTake 5 (some 36) (.bool true) (by kernel_rfl) (by kernel_rfl) (by kernel_rfl) (by kernel_rfl) (by kernel_rfl) (by kernel_rfl) (fun _ _ _ h => h) (fun w' hS => run_by _ (by kernel_rfl) (str_eql (strOfNums (encS s)) (.tmp 32) (.tmp 35) _)) s8 ?_
    simp only [Act.put, List.setIfInBounds_toArray, List.set_cons_zero, List.set_cons_succ]
    refine hTake 6 (some 37) (.bool true) (by kernel_rfl) (by kernel_rfl) (by kernel_rfl) (by kernel_rfl) (by kernel_rfl) (by kernel_rfl) (fun _ _ _ h => h) (fun w' hS => by kernel_rfl) s8 ?_
    simp only [Act.put, List.setIfInBounds_toArray, List.set_cons_zero, List.set_cons_succ]
    refine hTake 7 (some 38) (.pointer (some ⟨B, 0, none⟩)) (by kernel_rfl) (by kernel_rfl) (by kernel_rfl) (by kernel_rfl) (by kernel_rfl) (by kernel_rfl) (fun _ _ _ h => h) (fun w' hS => by kernel_rfl) s8 ?_
    simp only [Act.put, List.setIfInBounds_toArray, List.set_cons_zero, List.set_cons_succ]
    refine hTake 9 (some 40) (sv s) (by kernel_rfl) (by kernel_rfl) (by kernel_rfl) (by kernel_rfl) (by kernel_rfl) (by kernel_rfl) (fun _ _ _ h => h) (fun w' hS => run_by (Instr.loadAt 27 (.pointer (some ⟨w.heap.size, 0, none⟩))) (by kernel_rfl) (hld _ hS)) s8 ?_
    simp only [Act.put, List.setIfInBounds_toArray, List.set_cons_zero, List.set_cons_succ]
    refine hCall 8 (some 39) 16 #[.pointer (some ⟨B, 0, none⟩)] (by kernel_rfl) (by kernel_rfl) (by kernel_rfl) (by kernel_rfl) (by kernel_rfl) ?_
    refine (get_any I8).mono ?_
    rintro _ w9 ⟨rfl, ht9, hi9⟩
    rw [HGV.out.2] at hi9
    have s9 : Seen w4 w9 := s8.turns ht9 HB7.out
    refine ⟨_, rfl, s9, ?_⟩
    rw [HGV.out.1]
    simp only [Act.put, List.setIfInBounds_toArray, List.set_cons_zero, List.set_cons_succ]
    refine hTake 10 (some 41) (.bool true) (by kernel_rfl) (by kernel_rfl) (by kernel_rfl) (by kernel_rfl) (by kernel_rfl) (by kernel_rfl) (fun _ _ _ h => h) (fun w' hS => run_by _ (by kernel_rfl) (sty_eql s HF.out (.tmp 39) (.tmp 40) _)) s9 ?_
    simp only [Act.put, List.setIfInBounds_toArray, List.set_cons_zero, List.set_cons_succ]
    refine hTake 11 (some 42) (.bool true) (by kernel_rfl) (by kernel_rfl) (by kernel_rfl) (by kernel_rfl) (by kernel_rfl) (by kernel_rfl) (fun _ _ _ h => h) (fun w' hS => by kernel_rfl) s9 ?_
    simp only [Act.put, List.setIfInBounds_toArray, List.set_cons_zero, List.set_cons_succ]
    refine hTake 12 (some 43) (.bool true) (by kernel_rfl) (by kernel_rfl) (by kernel_rfl) (by kernel_rfl) (by kernel_rfl) (by kernel_rfl) (fun _ _ _ h => h) (fun w' hS => by kernel_rfl) s9 ?_
    simp only [Act.put, List.setIfInBounds_toArray, List.set_cons_zero, List.set_cons_succ]
    refine hTake 13 (some 44) (.pointer (some ⟨B, 0, none⟩)) (by kernel_rfl) (by kernel_rfl) (by kernel_rfl) (by kernel_rfl) (by kernel_rfl) (by kernel_rfl) (fun _ _ _ h => h) (fun w' hS => by kernel_rfl) s9 ?_
    simp only [Act.put, List.setIfInBounds_toArray, List.set_cons_zero, List.set_cons_succ]
    refine hCall 14 (some 45) 17 #[.pointer (some ⟨B, 0, none⟩)] (by kernel_rfl) (by kernel_rfl) (by kernel_rfl) (by kernel_rfl) (by kernel_rfl) ?_
    refine (bad_any hi9).mono ?_
    rintro _ w10 ⟨rfl, rfl⟩
    refine ⟨_, rfl, s9, ?_⟩
    simp only [Act.put, List.setIfInBounds_toArray, List.set_cons_zero, List.set_cons_succ]
    refine hTake 15 (some 46) (.bool true) (by kernel_rfl) (by kernel_rfl) (by kernel_rfl) (by kernel_rfl) (by kernel_rfl) (by kernel_rfl) (fun _ _ _ h => h) (fun w' hS => by kernel_rfl) s9 ?_
    simp only [Act.put, List.setIfInBounds_toArray, List.set_cons_zero, List.set_cons_succ]
    refine hTake 16 (some 47) (.bool true) (by kernel_rfl) (by kernel_rfl) (by kernel_rfl) (by kernel_rfl) (by kernel_rfl) (by kernel_rfl) (fun _ _ _ h => h) (fun w' hS => by kernel_rfl) s9 ?_
    simp only [Act.put, List.setIfInBounds_toArray, List.set_cons_zero, List.set_cons_succ]
    refine hTake 17 (some 48) (.bool true) (by kernel_rfl) (by kernel_rfl) (by kernel_rfl) (by kernel_rfl) (by kernel_rfl) (by kernel_rfl) (fun _ _ _ h => h) (fun w' hS => by kernel_rfl) s9 ?_
    simp only [Act.put, List.setIfInBounds_toArray, List.set_cons_zero, List.set_cons_succ]
    refine hTake 18 (some 49) (.pointer (some ⟨B, 0, none⟩)) (by kernel_rfl) (by kernel_rfl) (by kernel_rfl) (by kernel_rfl) (by kernel_rfl) (by kernel_rfl) (fun _ _ _ h => h) (fun w' hS => by kernel_rfl) s9 ?_
    simp only [Act.put, List.setIfInBounds_toArray, List.set_cons_zero, List.set_cons_succ]
    refine hTake 20 (some 51) (.slice ad n c) (by kernel_rfl) (by kernel_rfl) (by kernel_rfl) (by kernel_rfl) (by kernel_rfl) (by kernel_rfl) (fun _ _ _ h => h) (fun w' hS => by kernel_rfl) s9 ?_
    simp only [Act.put, List.setIfInBounds_toArray, List.set_cons_zero, List.set_cons_succ]
    refine hTake 21 (some 52) (.int .i64 n) (by kernel_rfl) (by kernel_rfl) (by kernel_rfl) (by kernel_rfl) (by kernel_rfl) (by kernel_rfl) (fun _ _ _ h => h) (fun w' hS => by kernel_rfl) s9 ?_
    simp only [Act.put, List.setIfInBounds_toArray, List.set_cons_zero, List.set_cons_succ]
    refine hCall 19 (some 50) 18 #[.pointer (some ⟨B, 0, none⟩)] (by kernel_rfl) (by kernel_rfl) (by kernel_rfl) (by kernel_rfl) (by kernel_rfl) ?_
    refine (left_any hi9).mono ?_
    rintro _ w11 ⟨rfl, rfl⟩
    refine ⟨_, rfl, s9, ?_⟩
    rw [HMB.out.1]
    simp only [Act.put, List.setIfInBounds_toArray, List.set_cons_zero, List.set_cons_succ]
    refine hTake 22 (some 53) (.bool true) (by kernel_rfl) (by kernel_rfl) (by kernel_rfl) (by kernel_rfl) (by kernel_rfl) (by kernel_rfl) (fun _ _ _ h => h) (fun w' hS => run_by _ (by kernel_rfl) (int_eql n (.tmp 50) (.tmp 52) _)) s9 ?_
    simp only [Act.put, List.setIfInBounds_toArray, List.set_cons_zero, List.set_cons_succ]
    refine hTake 23 (some 54) (.bool true) (by kernel_rfl) (by kernel_rfl) (by kernel_rfl) (by kernel_rfl) (by kernel_rfl) (by kernel_rfl) (fun _ _ _ h => h) (fun w' hS => by kernel_rfl) s9 ?_
    simp only [Act.put, List.setIfInBounds_toArray, List.set_cons_zero, List.set_cons_succ]
    refine hTake 24 (some 4) (.bool true) (by kernel_rfl) (by kernel_rfl) (by kernel_rfl) (by kernel_rfl) (by kernel_rfl) (by kernel_rfl) (fun _ _ _ h => h) (fun w' hS => by kernel_rfl) s9 ?_
    simp only [Act.put, List.setIfInBounds_toArray, List.set_cons_zero, List.set_cons_succ]
    refine wpAnyH_done (by kernel_rfl) ?_ _
    go_wp2_with fail
    go_ret
    exact ⟨rfl, S0.out.trans (S4.out.trans s9)⟩
/-! ### The row's step. -/
set_option maxRecDepth 100000 in
theorem lifted (os : Os) (started : os.Started) (H : Type) (enc : TypeId × Value → H) :
    ReturnsInHanded {} Try.checked os 4 .any (Rows.stylePutsSpec.pre6 enc Try.prog Try.f4 Rows.stylePutsRow.domain false) (Rows.stylePutsSpec.post enc Try.prog Try.f4 false true false false) := by
  refine returnsInHanded_of_change (C := Try.checked) own started (by kernel_rfl) Try.func4
    (ChangeSpec.witness6 (enc := enc) (C := Try.checked) false ⟨#[], #[.agg #[.bool false, .int .i64 0, .int .i64 0, .int .i64 0, .int .i64 0, .int .i64 0, .int .i64 0, .int .i64 0, .int .i64 0, .int .i64 0, .int .i64 0, .int .i64 0, .int .i64 0, .int .i64 0, .int .i64 0, .int .i64 0, .int .i64 0, .int .i64 0, .int .i64 0, .int .i64 0, .int .i64 0, .int .i64 0, .int .i64 0, .int .i64 0, .int .i64 0, .int .i64 0, .int .i64 0, .int .i64 0, .int .i64 0, .int .i64 0, .int .i64 0, .int .i64 0, .int .i64 0, .int .i64 0, .int .i64 0, .int .i64 0, .int .i64 0, .int .i64 0, .int .i64 0, .int .i64 0, .int .i64 0, .int .i64 0, .bool false, .bool false, .int .i64 0, .bool false, .int .i64 0, .int .i64 0], .slice none 0 0], []⟩ 8 (by kernel_rfl) (by kernel_rfl) (by kernel_rfl) (by kernel_rfl)) ?_
  intro W base args ds gs before hval0 hW hcnd _
  have hval : ∀ (j : Nat) t v, Try.f4.params[j]? = some t → args[j]? = some v → Value.okWide Try.prog W .any base t v := hval0
  have hW' := hW
  obtain ⟨p, q, hA0, hV, rfl, hfz, hnd⟩ := hW
  have hA : DataW.TrodAll enc Try.prog W 0 (fun _ => true) true Try.f4.params.toList args.toList ds p := hA0
  rw [Try.params4] at hA hval
  obtain ⟨v0, vs0, d0, ds0, p0, q0, hargs, rfl, rfl, h0, r0⟩ := trodAll_cons hA
  obtain ⟨v1, vs1, d1, ds1, p1, q1, rfl, rfl, rfl, h1, r1⟩ := trodAll_cons r0
  obtain ⟨rfl, rfl, rfl⟩ := trodAll_nil r1
  obtain rfl : args = #[v0, v1] := by cases args; simp_all
  obtain ⟨rfl, rfl⟩ := trodVars_none hV
  have k0 := h0
  have lt0 : ∀ x ∈ p0, x.block < W.heap.size := by obtain ⟨m, hm⟩ := k0; exact DataW.trod_lt m _ _ _ hm
  obtain ⟨g0, rfl, o0⟩ := open_style (hval 0 27 v0 rfl rfl) h0
  have k1 := h1
  have lt1 : ∀ x ∈ p1, x.block < W.heap.size := by obtain ⟨m, hm⟩ := k1; exact DataW.trod_lt m _ _ _ hm
  obtain ⟨a1, len1, cap1, g1, rfl, o1⟩ := open_bytes (hval 1 30 v1 rfl rfl) h1
  clear hA0 hval0
  refine (walk g0 a1 len1 cap1 g1 W o0 o1).mono fun e W' ⟨he, bel⟩ => ?_
  subst he
  exact ⟨_, rfl, _, _, _, [], _, [], hW', trodAll_mk1 (shut_bool Try.underlying4 _), (trodAll_cons_mk (Below.trod laidOut (by kernel_rfl) (of_decide_eq_true (by kernel_rfl)) k0 bel lt0) (trodAll_cons_mk (Below.trod laidOut (by kernel_rfl) (of_decide_eq_true (by kernel_rfl)) k1 bel lt1) trodAll_mk0)), rfl, bel.frame _, fun h => by cases h⟩

theorem over : Rows.stylePutsRow.holds Try.pinned (OpenSpec.ofChange Rows.stylePutsSpec) :=
  OpenClaim.holds_of_wide 4 Try.f4 rfl rfl rfl rfl rfl rfl rfl ⟨rfl, rfl, rfl, rfl, rfl⟩ rfl rfl rfl rfl rfl (by kernel_rfl) Try.func4 (by kernel_rfl)
    (of_decide_eq_true (by kernel_rfl)) (by unfold Func.isWrapper; first | (rw [if_pos (by decide +kernel)]; kernel_rfl) | (rw [if_neg (by decide +kernel)]; exact ⟨rfl, rfl⟩))
    (fun os started H enc _ => lifted os started H enc)

/-- The statement. -/
theorem proved : Rows.StylePutsSaid := over
#print axioms proved
end Go.Proofs.Ytgmoolleckaiaaa.stylePuts
