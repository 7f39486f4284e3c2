/- Contract of the reference's From; no conditions beyond those written in each theorem. -/
import Derived.Test.YthphmhcgnkoigaaFromS
namespace Go.Proofs.Ythphmhcgnkoigaa
open Go.ChangeShapes Go.WideShapes Go.ChangeAt Go.RowKit
set_option maxRecDepth 100000
set_option maxRecDepth 100000 in
set_option maxHeartbeats 32000000 in
theorem refFrom_any {w : World} {a : Option Addr} {N c : Nat} {t : St} (h : RV w a N c t) : Calls Try.prog 37 #[.agg #[.slice a N c, .bool t.bad]] w fun e w' =>
    ∃ a' N' c', e = .returned (.tuple #[sv (getV t), .agg #[.slice a' N' c', .bool (getE t).bad]]) ∧ Seen w w' ∧ (∀ W, RV W a N c t → RV W a' N' c' (getE t)) := by
  have hf01 := tk1_lt h.ok
  obtain ⟨W, hW⟩ : ∃ W, W = ((w.alloc (.cells #[.slice a N c, .bool t.bad] 67)).alloc (.cells (stl zeroS).toArray 47)).alloc (.cells #[.slice none 0 0, .bool false] 67) := ⟨_, rfl⟩
  have HS := Lib.hid (from_start w a N c t.bad hW)
  have H0 := Lib.hid h
  have HW := Lib.hid hW
  obtain ⟨f, hf⟩ : ∃ f, tkV 1 t.l = f := ⟨_, rfl⟩
  rw [hf] at hf01
  obtain ⟨hf0, hf1⟩ := hf01
  have HFf := Lib.hid hf
  clear h hW hf
  go_enter Try.func37, Try.ntmps37
  go_wp2_with (first
    | (go_at_call 36; rw [zero_lit, ← HW.out]; refine ((H0.out.seen HS.out.1).take 1 (by omega) (by omega)).mono ?_; rintro _ w1 ⟨a1, N1, c1, rfl, hs1, hr1⟩; rw [HFf.out]
       obtain ⟨x0, x1, xf, _⟩ := cells2 ((hs1.block _ (heap_lt HS.out.2.1)).trans HS.out.2.1)
       have S1 := Lib.hid hs1
       have R1 := Lib.hid hr1
       clear hs1 hr1 HW)
    | (have gg := R1.out; clear gg; rw [zero_lit]; refine wpList_storeS rfl (.tmp 5) (.tmp 31) rfl w1.heap.size zeroS (mkS f [] [] 0 0 0) rfl rfl (mkS_full (by simp) (by simp)) zero_full (FR.start HS.out S1.out R1.out).sty ?_
       intro w2 hs2 ht2
       have G2 : Hid (FR w a N c t w1.heap.size (lnsS 0 (adv 1 t)) a1 N1 c1 (mkS f (lnsV 0 (adv 1 t)) [] 0 0 0) w2) := (FR.start HS.out S1.out R1.out).store hs2 ht2
       clear x0 x1 xf
       obtain ⟨x0, x1, xf, _⟩ := cells2 G2.out.blkA
       clear hs2 ht2 S1 R1 HS)
    | (go_at_call 54; have gg := G2.out; clear gg; refine (refFour_any (show RV _ a1 N1 c1 (adv 1 t) from G2.out.at H0.out)).mono ?_; rintro _ w3 ⟨a3, N3, c3, rfl, hs, hr⟩
       have G3 : Hid (FR w a N c t w1.heap.size (lnsS 0 (adv 1 t)) a1 N1 c1 (mkS f (lnsV 0 (adv 1 t)) [] 0 0 0) w3) := G2.out.next hs
       have R3 : Hid (∀ V, RV V a1 N1 c1 (lnsS 0 (adv 1 t)) → RV V a3 N3 c3 (lnsS 4 (adv 1 t))) := hr
       clear hs hr x0 x1 xf G2)
    | (have gg := G3.out; clear gg; refine wpList_storeLens rfl 44 (.tmp 37) (.tmp 35) rfl w1.heap.size f (lnsV 0 (adv 1 t)) [] 0 0 0 (lnsV 4 (adv 1 t)) 2 4 rfl rfl info24s (lnsV_length _ _) (by rw [lnsV_length]) (by rw [lnsV_length]; omega) (by simp) G3.out.sty ?_
       intro w4 hs ht
       have G4 : Hid (FR w a N c t w1.heap.size (lnsS 0 (adv 1 t)) a1 N1 c1 (mkS f (lnsV 4 (adv 1 t)) [] 0 0 0) w4) := G3.out.store hs ht
       obtain ⟨x0, x1, xf, _⟩ := cells2 G4.out.blkA
       clear hs ht G3)
    | (go_at_call 55; have gg := G4.out; clear gg; refine (refLength_any ((G4.out.put R3.out).at H0.out)).mono ?_; rintro _ w5 ⟨a5, N5, c5, rfl, hs, hr⟩
       have e : lnS (lnsS 4 (adv 1 t)) = lnsS 5 (adv 1 t) := rfl
       rw [e]; rw [e] at hr
       clear e
       have G5 : Hid (FR w a N c t w1.heap.size (lnsS 4 (adv 1 t)) a3 N3 c3 (mkS f (lnsV 4 (adv 1 t)) [] 0 0 0) w5) := (G4.out.put R3.out).next hs
       have R5 : Hid (∀ V, RV V a3 N3 c3 (lnsS 4 (adv 1 t)) → RV V a5 N5 c5 (lnsS 5 (adv 1 t))) := hr
       clear hs hr x0 x1 xf G4 R3)
    | (have gg := G5.out; clear gg; refine wpList_storeLen1 rfl (.tmp 43) (.tmp 41) rfl w1.heap.size f (lnsV 4 (adv 1 t)) [] 0 0 0 (lnV (lnsS 4 (adv 1 t))) 10 rfl rfl (by rw [lnsV_length]) (by rw [lnsV_length]; omega) (by simp) G5.out.sty ?_
       intro w6 hs ht
       rw [lnsV_succ] at hs
       have G6 : Hid (FR w a N c t w1.heap.size (lnsS 4 (adv 1 t)) a3 N3 c3 (mkS f (lnsV 5 (adv 1 t)) [] 0 0 0) w6) := G5.out.store hs ht
       obtain ⟨x0, x1, xf, _⟩ := cells2 G6.out.blkA
       clear hs ht G5)
    | (go_at_call 55; have gg := G6.out; clear gg; refine (refLength_any ((G6.out.put R5.out).at H0.out)).mono ?_; rintro _ w7 ⟨a7, N7, c7, rfl, hs, hr⟩
       have e : lnS (lnsS 5 (adv 1 t)) = lnsS 6 (adv 1 t) := rfl
       rw [e]; rw [e] at hr
       clear e
       have G7 : Hid (FR w a N c t w1.heap.size (lnsS 5 (adv 1 t)) a5 N5 c5 (mkS f (lnsV 5 (adv 1 t)) [] 0 0 0) w7) := (G6.out.put R5.out).next hs
       have R7 : Hid (∀ V, RV V a5 N5 c5 (lnsS 5 (adv 1 t)) → RV V a7 N7 c7 (lnsS 6 (adv 1 t))) := hr
       clear hs hr x0 x1 xf G6 R5)
    | (have gg := G7.out; clear gg; refine wpList_storeLen1 rfl (.tmp 49) (.tmp 47) rfl w1.heap.size f (lnsV 5 (adv 1 t)) [] 0 0 0 (lnV (lnsS 5 (adv 1 t))) 12 rfl rfl (by rw [lnsV_length]) (by rw [lnsV_length]; omega) (by simp) G7.out.sty ?_
       intro w8 hs ht
       rw [lnsV_succ] at hs
       have G8 : Hid (FR w a N c t w1.heap.size (lnsS 5 (adv 1 t)) a5 N5 c5 (mkS f (lnsV 6 (adv 1 t)) [] 0 0 0) w8) := G7.out.store hs ht
       obtain ⟨x0, x1, xf, _⟩ := cells2 G8.out.blkA
       clear hs ht G7)
    | (go_at_call 55; have gg := G8.out; clear gg; refine (refLength_any ((G8.out.put R7.out).at H0.out)).mono ?_; rintro _ w9 ⟨a9, N9, c9, rfl, hs, hr⟩
       have e : lnS (lnsS 6 (adv 1 t)) = lnsS 7 (adv 1 t) := rfl
       rw [e]; rw [e] at hr
       clear e
       have G9 : Hid (FR w a N c t w1.heap.size (lnsS 6 (adv 1 t)) a7 N7 c7 (mkS f (lnsV 6 (adv 1 t)) [] 0 0 0) w9) := (G8.out.put R7.out).next hs
       have R9 : Hid (∀ V, RV V a7 N7 c7 (lnsS 6 (adv 1 t)) → RV V a9 N9 c9 (lnsS 7 (adv 1 t))) := hr
       clear hs hr x0 x1 xf G8 R7)
    | (have gg := G9.out; clear gg; refine wpList_storeLen1 rfl (.tmp 55) (.tmp 53) rfl w1.heap.size f (lnsV 6 (adv 1 t)) [] 0 0 0 (lnV (lnsS 6 (adv 1 t))) 14 rfl rfl (by rw [lnsV_length]) (by rw [lnsV_length]; omega) (by simp) G9.out.sty ?_
       intro w10 hs ht
       rw [lnsV_succ] at hs
       have G10 : Hid (FR w a N c t w1.heap.size (lnsS 6 (adv 1 t)) a7 N7 c7 (mkS f (lnsV 7 (adv 1 t)) [] 0 0 0) w10) := G9.out.store hs ht
       obtain ⟨x0, x1, xf, _⟩ := cells2 G10.out.blkA
       clear hs ht G9)
    | (go_at_call 55; have gg := G10.out; clear gg; refine (refLength_any ((G10.out.put R9.out).at H0.out)).mono ?_; rintro _ w11 ⟨a11, N11, c11, rfl, hs, hr⟩
       have e : lnS (lnsS 7 (adv 1 t)) = lnsS 8 (adv 1 t) := rfl
       rw [e]; rw [e] at hr
       clear e
       have G11 : Hid (FR w a N c t w1.heap.size (lnsS 7 (adv 1 t)) a9 N9 c9 (mkS f (lnsV 7 (adv 1 t)) [] 0 0 0) w11) := (G10.out.put R9.out).next hs
       have R11 : Hid (∀ V, RV V a9 N9 c9 (lnsS 7 (adv 1 t)) → RV V a11 N11 c11 (lnsS 8 (adv 1 t))) := hr
       clear hs hr x0 x1 xf G10 R9)
    | (have gg := G11.out; clear gg; refine wpList_storeLen1 rfl (.tmp 61) (.tmp 59) rfl w1.heap.size f (lnsV 7 (adv 1 t)) [] 0 0 0 (lnV (lnsS 7 (adv 1 t))) 16 rfl rfl (by rw [lnsV_length]) (by rw [lnsV_length]; omega) (by simp) G11.out.sty ?_
       intro w12 hs ht
       rw [lnsV_succ] at hs
       have G12 : Hid (FR w a N c t w1.heap.size (lnsS 7 (adv 1 t)) a9 N9 c9 (mkS f (lnsV 8 (adv 1 t)) [] 0 0 0) w12) := G11.out.store hs ht
       obtain ⟨x0, x1, xf, _⟩ := cells2 G12.out.blkA
       clear hs ht G11)
    | (go_at_call 55; have gg := G12.out; clear gg; refine (refLength_any ((G12.out.put R11.out).at H0.out)).mono ?_; rintro _ w13 ⟨a13, N13, c13, rfl, hs, hr⟩
       have e : lnS (lnsS 8 (adv 1 t)) = lnsS 9 (adv 1 t) := rfl
       rw [e]; rw [e] at hr
       clear e
       have G13 : Hid (FR w a N c t w1.heap.size (lnsS 8 (adv 1 t)) a11 N11 c11 (mkS f (lnsV 8 (adv 1 t)) [] 0 0 0) w13) := (G12.out.put R11.out).next hs
       have R13 : Hid (∀ V, RV V a11 N11 c11 (lnsS 8 (adv 1 t)) → RV V a13 N13 c13 (lnsS 9 (adv 1 t))) := hr
       clear hs hr x0 x1 xf G12 R11)
    | (have gg := G13.out; clear gg; refine wpList_storeLen1 rfl (.tmp 67) (.tmp 65) rfl w1.heap.size f (lnsV 8 (adv 1 t)) [] 0 0 0 (lnV (lnsS 8 (adv 1 t))) 18 rfl rfl (by rw [lnsV_length]) (by rw [lnsV_length]; omega) (by simp) G13.out.sty ?_
       intro w14 hs ht
       rw [lnsV_succ] at hs
       have G14 : Hid (FR w a N c t w1.heap.size (lnsS 8 (adv 1 t)) a11 N11 c11 (mkS f (lnsV 9 (adv 1 t)) [] 0 0 0) w14) := G13.out.store hs ht
       obtain ⟨x0, x1, xf, _⟩ := cells2 G14.out.blkA
       clear hs ht G13)
    | (go_at_call 55; have gg := G14.out; clear gg; refine (refLength_any ((G14.out.put R13.out).at H0.out)).mono ?_; rintro _ w15 ⟨a15, N15, c15, rfl, hs, hr⟩
       have e : lnS (lnsS 9 (adv 1 t)) = lnsS 10 (adv 1 t) := rfl
       rw [e]; rw [e] at hr
       clear e
       have G15 : Hid (FR w a N c t w1.heap.size (lnsS 9 (adv 1 t)) a13 N13 c13 (mkS f (lnsV 9 (adv 1 t)) [] 0 0 0) w15) := (G14.out.put R13.out).next hs
       have R15 : Hid (∀ V, RV V a13 N13 c13 (lnsS 9 (adv 1 t)) → RV V a15 N15 c15 (lnsS 10 (adv 1 t))) := hr
       clear hs hr x0 x1 xf G14 R13)
    | (have gg := G15.out; clear gg; refine wpList_storeLen1 rfl (.tmp 73) (.tmp 71) rfl w1.heap.size f (lnsV 9 (adv 1 t)) [] 0 0 0 (lnV (lnsS 9 (adv 1 t))) 20 rfl rfl (by rw [lnsV_length]) (by rw [lnsV_length]; omega) (by simp) G15.out.sty ?_
       intro w16 hs ht
       rw [lnsV_succ] at hs
       have G16 : Hid (FR w a N c t w1.heap.size (lnsS 9 (adv 1 t)) a13 N13 c13 (mkS f (lnsV 10 (adv 1 t)) [] 0 0 0) w16) := G15.out.store hs ht
       obtain ⟨x0, x1, xf, _⟩ := cells2 G16.out.blkA
       clear hs ht G15)
    | (go_at_call 54; have gg := G16.out; clear gg; refine (refFour_any ((G16.out.put R15.out).at H0.out)).mono ?_; rintro _ w17 ⟨a17, N17, c17, rfl, hs, hr⟩
       have e : lnsS 4 (lnsS 10 (adv 1 t)) = lnsS 14 (adv 1 t) := (lnsS_add 10 4 _).symm
       rw [e]; rw [e] at hr
       clear e
       have G17 : Hid (FR w a N c t w1.heap.size (lnsS 10 (adv 1 t)) a15 N15 c15 (mkS f (lnsV 10 (adv 1 t)) [] 0 0 0) w17) := (G16.out.put R15.out).next hs
       have R17 : Hid (∀ V, RV V a15 N15 c15 (lnsS 10 (adv 1 t)) → RV V a17 N17 c17 (lnsS 14 (adv 1 t))) := hr
       clear hs hr x0 x1 xf G16 R15)
    | (have gg := G17.out; clear gg; refine wpList_storeLens rfl 44 (.tmp 79) (.tmp 77) rfl w1.heap.size f (lnsV 10 (adv 1 t)) [] 0 0 0 (lnsV 4 (lnsS 10 (adv 1 t))) 22 4 rfl rfl info24s (lnsV_length _ _) (by rw [lnsV_length]) (by rw [lnsV_length]; omega) (by simp) G17.out.sty ?_
       intro w18 hs ht
       have e : lnsV 10 (adv 1 t) ++ lnsV 4 (lnsS 10 (adv 1 t)) = lnsV 14 (adv 1 t) := (lnsV_add 10 4 _).symm
       rw [e] at hs
       clear e
       have G18 : Hid (FR w a N c t w1.heap.size (lnsS 10 (adv 1 t)) a15 N15 c15 (mkS f (lnsV 14 (adv 1 t)) [] 0 0 0) w18) := G17.out.store hs ht
       obtain ⟨x0, x1, xf, _⟩ := cells2 G18.out.blkA
       clear hs ht G17)
    | (go_at_call 54; have gg := G18.out; clear gg; refine (refFour_any ((G18.out.put R17.out).at H0.out)).mono ?_; rintro _ w19 ⟨a19, N19, c19, rfl, hs, hr⟩
       have e : lnsS 4 (lnsS 14 (adv 1 t)) = lnsS 18 (adv 1 t) := (lnsS_add 14 4 _).symm
       rw [e]; rw [e] at hr
       clear e
       have G19 : Hid (FR w a N c t w1.heap.size (lnsS 14 (adv 1 t)) a17 N17 c17 (mkS f (lnsV 14 (adv 1 t)) [] 0 0 0) w19) := (G18.out.put R17.out).next hs
       have R19 : Hid (∀ V, RV V a17 N17 c17 (lnsS 14 (adv 1 t)) → RV V a19 N19 c19 (lnsS 18 (adv 1 t))) := hr
       clear hs hr x0 x1 xf G18 R17)
    | (have gg := G19.out; clear gg; refine wpList_storeLens rfl 44 (.tmp 85) (.tmp 83) rfl w1.heap.size f (lnsV 14 (adv 1 t)) [] 0 0 0 (lnsV 4 (lnsS 14 (adv 1 t))) 30 4 rfl rfl info24s (lnsV_length _ _) (by rw [lnsV_length]) (by rw [lnsV_length]; omega) (by simp) G19.out.sty ?_
       intro w20 hs ht
       have e : lnsV 14 (adv 1 t) ++ lnsV 4 (lnsS 14 (adv 1 t)) = lnsV 18 (adv 1 t) := (lnsV_add 14 4 _).symm
       rw [e] at hs
       clear e
       have G20 : Hid (FR w a N c t w1.heap.size (lnsS 14 (adv 1 t)) a17 N17 c17 (mkS f (lnsV 18 (adv 1 t)) [] 0 0 0) w20) := G19.out.store hs ht
       obtain ⟨x0, x1, xf, _⟩ := cells2 G20.out.blkA
       clear hs ht G19))
  have GZ := Lib.hid (G20.out.put R19.out)
  obtain ⟨wz, hwz⟩ : ∃ wz, wz = ((w20.setCell ⟨w.heap.size, 0, none⟩ (.slice a19 N19 c19)).setCell ⟨w.heap.size, 1, none⟩ (.bool (lnsS 18 (adv 1 t)).bad)) := ⟨_, rfl⟩
  rw [← hwz] at GZ
  rw [← hwz]
  clear hwz x0 x1 xf G20 R19
  obtain ⟨Y, hY⟩ : ∃ Y, w1.heap.size = Y := ⟨_, rfl⟩
  obtain ⟨D, hD⟩ : ∃ D, lnsV 18 (adv 1 t) = D := ⟨_, rfl⟩
  obtain ⟨tl, htl⟩ : ∃ tl, lnsS 18 (adv 1 t) = tl := ⟨_, rfl⟩
  have hDl : D.length = 18 := by rw [← hD, lnsV_length]
  have HDl := Lib.hid hDl
  rw [hY, hD, htl] at GZ
  rw [hY]
  have HD := Lib.hid hD
  have HTL : Hid (rL t = tl) := htl
  have hYA : ¬ Y = w.heap.size := by have := GZ.out.high; omega
  have hAY : ¬ w.heap.size = Y := by have := GZ.out.high; omega
  clear hY hD htl hDl
  go_loopw [86] (fun i wr => ∃ k : Nat, k ≤ 4 ∧ i = .int .i64 k ∧ ∃ a' N' c', FR w a N c t Y (nmsS k tl) a' N' c' (mkS f D (nmsV k tl) 0 0 0) wr) (fun i _ => 4 - (intOf i).toNat)
  case atStart => exact ⟨0, Nat.zero_le _, rfl, _, _, _, GZ.out⟩
  case round =>
    obtain ⟨k, hk, rfl, ak, Nk, ck, hg⟩ := hrel
    have G := Lib.hid hg
    clear hg GZ
    obtain ⟨x0, x1, xf, _⟩ := cells2 G.out.blkA
    by_cases hlt : k < 4
    · have hk' : (k : Int) < 4 := by omega
      go_wp2_with (go_at_call 56; refine (refEight_any (G.out.at H0.out)).mono ?_; rintro _ v5 ⟨a5, N5, c5, rfl, hs5, hr5⟩
                   rw [nmsS_succ]; rw [nmsS_succ] at hr5
                   have G5 := Lib.hid (G.out.next hs5)
                   have R5 := Lib.hid hr5
                   have cb := G5.out.sty.bord (mkS_full (by rw [HDl.out]; omega) (by rw [nmsV_length]; omega)) hlt
                   have cf := G5.out.sty.free (38 + k)
                   clear x0 x1 xf
                   obtain ⟨x0, x1, xf, _⟩ := cells2 G5.out.blkA
                   clear hs5 hr5 G)
      have e := mkS_bord f D (nmsV k tl) 0 0 0 (n8 (nmsS k tl)) (by rw [HDl.out]; omega) (by rw [nmsV_length]; exact hlt)
      rw [nmsV_length, nmsV_succ] at e
      exact ⟨⟨k + 1, hlt, by go_num, a5, N5, c5, (G5.out.set _ _ e).put R5.out⟩, by simp [intOf]; omega⟩
    · have hk' : ¬ (k : Int) < 4 := by omega
      obtain rfl : k = 4 := by omega
      obtain ⟨Bo, hBo⟩ : ∃ Bo, nmsV 4 tl = Bo := ⟨_, rfl⟩
      obtain ⟨tb, htb⟩ : ∃ tb, nmsS 4 tl = tb := ⟨_, rfl⟩
      have HBl : Hid (Bo.length = 4) := by unfold Hid; rw [← hBo, nmsV_length]
      rw [hBo, htb] at G
      rw [htb] at x1
      have HBo := Lib.hid hBo
      have HTB : Hid (rB t = tb) := by unfold Hid; rw [rB, HTL.out]; exact htb
      clear hBo htb
      have FUL : Hid (∀ z b l, Full (mkS f D Bo z b l)) := fun z b l => mkS_full (by rw [HDl.out]; omega) (by rw [HBl.out]; omega)
      have c43 : wr.cell? ⟨Y, 43, none⟩ = some (.bool (f / 16 % 2 == 1)) := (G.out.sty.tail (FUL.out _ _ _)).2.1
      have HHas : Hid (rHas t = (f / 16 % 2 == 1) ∧ True) := ⟨by unfold rHas rF; rw [HFf.out], trivial⟩
      go_upto_if 99 with fail
      go_cut [4] (fun v wx => v = .int .u64 f ∧ ∃ a' N' c', FR w a N c t Y (rZS t) a' N' c' (mkS f D Bo (rZ t) 0 0) wx)
      case first =>
        cases hz : (f / 16 % 2 == 1)
        · rw [hz] at c43
          have hr : Hid (rZS t = tb ∧ rZ t = 0) := by unfold Hid rZS rZ; rw [HHas.out.1, hz, HTB.out]; exact ⟨rfl, rfl⟩
          go_wp2_with fail
          go_meet
          rw [hr.out.1, hr.out.2]
          exact ⟨rfl, _, _, _, G.out⟩
        · rw [hz] at c43
          have hr : Hid (rZS t = adv 8 tb ∧ rZ t = n8 tb) := by unfold Hid rZS rZ; rw [HHas.out.1, hz, HTB.out]; exact ⟨rfl, rfl⟩
          go_wp2_with (go_at_call 56; refine (refEight_any (G.out.at H0.out)).mono ?_; rintro _ v5 ⟨a5, N5, c5, rfl, hs5, hr5⟩
                       have G5 := Lib.hid (G.out.next hs5)
                       have R5 := Lib.hid hr5
                       have cb := (G5.out.sty.tail (FUL.out _ _ _)).2.2.1
                       have cf := G5.out.sty.free 44
                       clear x0 x1 xf
                       obtain ⟨x0, x1, xf, _⟩ := cells2 G5.out.blkA
                       clear hs5 hr5)
          go_meet
          rw [hr.out.1, hr.out.2]
          exact ⟨rfl, a5, N5, c5, (G5.out.set _ _ (mkS_z f D Bo 0 0 0 (n8 tb) (by rw [HDl.out]; omega) (by rw [HBl.out]; omega))).put R5.out⟩
      case rest =>
        obtain ⟨rfl, a6, N6, c6, hg⟩ := hcut
        have G6 := Lib.hid hg
        clear hg G c43 x0 x1 xf
        obtain ⟨tz, htz⟩ : ∃ tz, rZS t = tz := ⟨_, rfl⟩
        obtain ⟨z, hz⟩ : ∃ z, rZ t = z := ⟨_, rfl⟩
        have HTZ := Lib.hid htz
        have HZZ := Lib.hid hz
        rw [htz, hz] at G6
        clear htz hz
        obtain ⟨x0, x1, xf, _⟩ := cells2 G6.out.blkA
        have lD : Hid (D.length ≤ 18 ∧ Bo.length ≤ 4) := by unfold Hid; rw [HDl.out, HBl.out]; omega
        obtain ⟨SR, hSR⟩ : ∃ SR, SR = mkS f D Bo z (n8 tz) (n8 (adv 8 tz)) := ⟨_, rfl⟩
        have HSR : Hid (rawS t = SR) := by unfold Hid rawS; rw [hSR, HTZ.out, HZZ.out, HTL.out, rF, HFf.out, HD.out, HBo.out]
        have HTE : Hid (rawE t = adv 8 (adv 8 tz)) := by unfold Hid rawE; rw [HTZ.out]
        have FSR : Hid (Full SR) := by rw [hSR]; exact FUL.out _ _ _
        have HOK : Hid (getOk t = (!(adv 8 (adv 8 tz)).bad && (!decide (63 < f) && formedB SR))) := by unfold Hid getOk; rw [HTE.out, HSR.out, rF, HFf.out]
        obtain ⟨TE, hTE⟩ : ∃ TE, adv 8 (adv 8 tz) = TE := ⟨_, rfl⟩
        rw [hTE] at HTE HOK
        obtain ⟨bE, hbE⟩ : ∃ bE, TE.bad = bE := ⟨_, rfl⟩
        rw [hbE] at HOK
        have HbE := Lib.hid hbE
        have hhTE := Lib.hid hTE
        have hhSR := Lib.hid hSR
        clear hbE hTE hSR HD HBo HTL HTB HFf HHas HTZ HZZ
        go_upto_region 21 with (first
          | (go_at_call 56; have gg := G6.out; clear gg; refine (refEight_any (G6.out.at H0.out)).mono ?_; rintro _ v5 ⟨a7, N7, c7, rfl, hs5, hr5⟩
             have G7 := Lib.hid (G6.out.next hs5)
             have cb := (G7.out.sty.tail (FUL.out _ _ _)).2.2.2.2.1
             have cf := G7.out.sty.free 46
             have G8 := Lib.hid ((G7.out.set _ _ (mkS_back f D Bo z 0 0 (n8 tz) lD.out.1 lD.out.2)).put hr5)
             clear x0 x1 xf
             obtain ⟨x0, x1, xf, _⟩ := cells2 G7.out.blkA
             clear hs5 hr5 G6)
          | (go_at_call 56; have gg := G8.out; clear gg; refine (refEight_any (G8.out.at H0.out)).mono ?_; rintro _ v6 ⟨a8, N8, c8, rfl, hs6, hr6⟩
             rw [hhTE.out]; rw [hhTE.out] at hr6
             have G9 := Lib.hid (G8.out.next hs6)
             have cb2 := (G9.out.sty.tail (FUL.out _ _ _)).2.2.2.2.2
             have cf2 := G9.out.sty.free 47
             have G10 : Hid (FR w a N c t Y TE a8 N8 c8 SR (((v6.setCell ⟨Y, 47, none⟩ (.int .i64 (n8 (adv 8 tz)))).setCell ⟨w.heap.size, 0, none⟩ (.slice a8 N8 c8)).setCell ⟨w.heap.size, 1, none⟩ (.bool TE.bad))) := by
               rw [hhSR.out]
               exact (G9.out.set _ _ (mkS_line f D Bo z (n8 tz) 0 (n8 (adv 8 tz)) lD.out.1 lD.out.2)).put hr6
             clear x0 x1 xf
             obtain ⟨x0, x1, xf, _⟩ := cells2 G9.out.blkA
             clear hs6 hr6 G8 cb cf))
        obtain ⟨w7, hw7⟩ : ∃ w7, w7 = ((v6.setCell ⟨Y, 47, none⟩ (.int .i64 (n8 (adv 8 tz)))).setCell ⟨w.heap.size, 0, none⟩ (.slice a8 N8 c8)).setCell ⟨w.heap.size, 1, none⟩ (.bool TE.bad) := ⟨_, rfl⟩
        rw [← hw7] at G10
        rw [← hw7]
        clear hw7 G9 cb2 cf2 x0 x1 xf
        try clear G7
        obtain ⟨x0, x1, xf, _⟩ := cells2 G10.out.blkA
        rw [HbE.out] at x1
        obtain ⟨fm, hfm0⟩ : ∃ fm, formedB SR = fm := ⟨_, rfl⟩
        obtain ⟨ok, hok0⟩ : ∃ ok, getOk t = ok := ⟨_, rfl⟩
        rw [hfm0, hok0] at HOK
        have HFM := Lib.hid (And.intro hfm0 trivial)
        have HGO := Lib.hid (And.intro hok0 trivial)
        clear hfm0 hok0
        go_cut [128] (fun v wx => v = .bool (!ok) ∧ FR w a N c t Y TE a8 N8 c8 SR wx)
        case first =>
          cases hb : bE
          · rw [hb] at x1
            by_cases h63 : f > 63
            · go_wp2_with fail
              go_meet
              exact ⟨by rw [HOK.out, hb, decide_eq_true h63]; rfl, G10.out⟩
            · cases hfm : fm
              all_goals
                rw [hfm] at HFM
                have fl : Hid (0 = 0) := rfl
                go_wp2_with (first
                  | (clear fl; refine wpList_loadSg ?_ (.tmp 5) rfl Y SR rfl FSR.out G10.out.sty ?_; focus (go_simp; done))
                  | (go_at_call 26; refine (refFormed_any SR FSR.out _).mono ?_; rintro _ w9 ⟨rfl, hs9⟩; rw [HFM.out.1]
                     have G12 := Lib.hid (G10.out.next hs9)
                     clear hs9))
                go_meet
                exact ⟨by rw [HOK.out, hb, hfm, decide_eq_false (by omega)]; rfl, G12.out⟩
          · rw [hb] at x1
            go_wp2_with fail
            go_meet
            exact ⟨by rw [HOK.out, hb]; rfl, G10.out⟩
        case rest =>
          obtain ⟨rfl, hg⟩ := hcut
          have G12 := Lib.hid hg
          clear hg G10 x0 x1 xf
          have hg := G12.out.high
          cases hok : ok
          · have HNo : Hid (getV t = zeroS ∧ getE t = ⟨[], true⟩) := by
              unfold Hid getV getE
              rw [HGO.out.1, hok]
              exact ⟨rfl, rfl⟩
            clear HGO HFM HOK HbE hhTE hhSR HSR HTE lD FUL HDl HBl hf0 hf1
            have fl2 : Hid (0 = 0) := rfl
            go_wp2_with (first
              | (clear fl2; rw [zero_lit]; refine wpList_storeS rfl (.tmp 2) (.tmp 129) rfl (w.heap.size + 1) zeroS zeroS rfl rfl zero_full zero_full G12.out.res ?_
                 intro w10 hs10 ht10
                 have R10 := Lib.hid (And.intro hs10 ht10)
                 have kC : w10.heap[w.heap.size + 1 + 1]? = some (.cells #[.slice none 0 0, .bool false] 67) := (ht10.block _ (heap_lt G12.out.blkC) (by omega)).trans G12.out.blkC
                 have KC := Lib.hid kC
                 obtain ⟨x0, x1, xf, _⟩ := cells2 kC
                 clear hs10 ht10 kC))
            have e2 : ((w10.setCell ⟨w.heap.size + 1 + 1, 0, none⟩ (.slice none 0 0)).setCell ⟨w.heap.size + 1 + 1, 1, none⟩ (.bool true)).heap[w.heap.size + 1 + 1]? = some (.cells #[.slice none 0 0, .bool true] 67) := set2 KC.out
            have e1a : (w10.setCell ⟨w.heap.size + 1 + 1, 0, none⟩ (.slice none 0 0)).heap[w.heap.size + 1]? = some (.cells (stl zeroS).toArray 47) := hso R10.out.1 (by omega)
            have e1 : Hs ((w10.setCell ⟨w.heap.size + 1 + 1, 0, none⟩ (.slice none 0 0)).setCell ⟨w.heap.size + 1 + 1, 1, none⟩ (.bool true)) (w.heap.size + 1) zeroS := hso e1a (by omega)
            rw [HNo.out.1, HNo.out.2]
            refine bodyPost_ret (results_cells Try.results37 rfl rfl (run_loadS e1 zero_full) (run_loadI e2)) rfl ?_
            exact ⟨none, 0, 0, rfl, ((G12.out.seen.turns R10.out.2 (by omega)).set (by omega) _ _).set (by omega) _ _, fun V _ => ⟨BS.nil V none, Bytes8.nil, Nat.le_refl _, fun _ => rfl⟩⟩
          · have HNo : Hid (getV t = SR ∧ getE t = TE) := by
              unfold Hid getV getE
              rw [HGO.out.1, hok, HSR.out, HTE.out]
              exact ⟨rfl, rfl⟩
            clear HGO HFM HOK HbE hhTE hhSR HSR HTE lD FUL HDl HBl hf0 hf1
            go_wp2_with fail
            have hS0 : Hs wc.drew Y SR ∧ wc.drew.heap[w.heap.size]? = some (.cells #[.slice a8 N8 c8, .bool TE.bad] 67) := ⟨G12.out.sty, G12.out.blkA⟩
            refine wp_region_held_drew (S := fun w' => Hs w' Y SR ∧ w'.heap[w.heap.size]? = some (.cells #[.slice a8 N8 c8, .bool TE.bad] 67)) (by kernel_rfl) hS0 (fun _ => ?_)
            refine hTake 0 (some 131) (sv SR) (by kernel_rfl) (by kernel_rfl) (by kernel_rfl) (by kernel_rfl) (by kernel_rfl) (by kernel_rfl) (fun _ _ _ h => h) (fun w' hS => run_by (Instr.loadAt 47 (.pointer (some ⟨Y, 0, none⟩))) (by kernel_rfl) (run_loadAtS hS.1 FSR.out)) hS0 ?_
            simp only [Act.put, List.setIfInBounds_toArray, List.set_cons_zero, List.set_cons_succ]
            refine hTake 1 (some 132) (.agg #[.slice a8 N8 c8, .bool TE.bad]) (by kernel_rfl) (by kernel_rfl) (by kernel_rfl) (by kernel_rfl) (by kernel_rfl) (by kernel_rfl) (fun _ _ _ h => h) (fun w' hS => run_by (Instr.loadAt 67 (.pointer (some ⟨w.heap.size, 0, none⟩))) (by kernel_rfl) (run_loadAt_by (run_loadI hS.2))) hS0 ?_
            simp only [Act.put, List.setIfInBounds_toArray, List.set_cons_zero, List.set_cons_succ]
            have kX : wc.drew.heap[w.heap.size + 1]? = some (.cells (stl zeroS).toArray 47) := G12.out.res
            have kC : wc.drew.heap[w.heap.size + 1 + 1]? = some (.cells #[.slice none 0 0, .bool false] 67) := G12.out.blkC
            have e1 := run_storeC (ty := 47) (o := 0) (vs := stl SR) kX (by rw [FSR.out.len, zero_full.len]; omega) (by rw [FSR.out.len]; exact info27) (stl_one _)
            have t1 := turns_sets wc.drew (w.heap.size + 1) 0 (stl SR)
            have hB1 := block_sets kX 0 (stl SR) (setsL_mid [] (stl zeroS) [] (stl SR) (by rw [FSR.out.len, zero_full.len]))
            rw [List.nil_append, List.append_nil] at hB1
            obtain ⟨V, hV⟩ : ∃ V, V = wc.drew.setCells (w.heap.size + 1) 0 (stl SR) := ⟨_, rfl⟩
            rw [← hV] at e1 t1 hB1
            have q1 : Hs V Y SR := hS0.1.keeps (t1.block _ hS0.1.lt (by omega))
            have q2 : V.heap[w.heap.size]? = some (.cells #[.slice a8 N8 c8, .bool TE.bad] 67) := (t1.block _ (heap_lt hS0.2) (by omega)).trans hS0.2
            have q3 : V.heap[w.heap.size + 1 + 1]? = some (.cells #[.slice none 0 0, .bool false] 67) := (t1.block _ (heap_lt kC) (by omega)).trans kC
            refine hSkip 2 none (by kernel_rfl) (by kernel_rfl) (by kernel_rfl) (by kernel_rfl) (run_skip_by (Instr.storeAt 47 (.pointer (some ⟨w.heap.size + 1, 0, none⟩)) (sv SR)) (by kernel_rfl) e1) ⟨q1, q2⟩ ?_
            have e2 := run_storeC (ty := 67) (o := 0) (vs := [.slice a8 N8 c8, .bool TE.bad]) (cs := [.slice none 0 0, .bool false]) q3 (by simp) (by kernel_rfl) (by simp [Value.oneCell'])
            have t2 := turns_sets V (w.heap.size + 1 + 1) 0 [.slice a8 N8 c8, .bool TE.bad]
            have hC2 := block_sets (cs := [.slice none 0 0, .bool false]) q3 0 [.slice a8 N8 c8, .bool TE.bad] rfl
            obtain ⟨V2, hV2⟩ : ∃ V2, V2 = V.setCells (w.heap.size + 1 + 1) 0 [.slice a8 N8 c8, .bool TE.bad] := ⟨_, rfl⟩
            rw [← hV2] at e2 t2 hC2
            refine hSkip 3 none (by kernel_rfl) (by kernel_rfl) (by kernel_rfl) (by kernel_rfl) (run_skip_by (Instr.storeAt 67 (.pointer (some ⟨w.heap.size + 1 + 1, 0, none⟩)) (.agg #[.slice a8 N8 c8, .bool TE.bad])) (by kernel_rfl) e2) ⟨q1.keeps (t2.block _ q1.lt (by omega)), (t2.block _ (heap_lt q2) (by omega)).trans q2⟩ ?_
            refine wpAnyH_done (by kernel_rfl) ?_ _
            have hB2 : Hs V2 (w.heap.size + 1) SR := (t2.block _ (heap_lt hB1) (by omega)).trans hB1
            have SV : Seen w V2 := ((G12.out.seen.drew).turns t1 (by omega)).turns t2 (by omega)
            clear hV hV2
            go_wp2_with fail
            rw [HNo.out.1, HNo.out.2]
            refine bodyPost_ret (results_cells Try.results37 rfl rfl (run_loadS hB2 FSR.out) (run_loadI hC2)) rfl ?_
            exact ⟨a8, N8, c8, rfl, SV, G12.out.rv⟩
end Go.Proofs.Ythphmhcgnkoigaa
