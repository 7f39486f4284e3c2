/- Contract of Get; no conditions beyond those written in each theorem. -/
import Derived.Test.YthphmhcgnkoigaaGetS
import Derived.Deep.DeepCutAuto
namespace Go.Proofs.Ythphmhcgnkoigaa
open Go.ChangeShapes Go.WideShapes Go.ChangeAt Go.RowKit
set_option maxRecDepth 100000
set_option maxRecDepth 100000 in
set_option maxHeartbeats 16000000 in
theorem get_any {K : Nat → Prop} {B : Nat} {t : St} {w : World} (h : IT K B t w) : Calls Try.prog 53 #[.pointer (some ⟨B, 0, none⟩)] w fun e w' =>
    e = .returned (sv (getV t)) ∧ Turns B w w' ∧ IT K B (getE t) w' := by
  have hBlt := h.lt
  have HK : Hid (∀ k, K k → k < w.heap.size) := h.2.1
  have hf01 := tk1_lt h.ok
  obtain ⟨W, hW⟩ : ∃ W, W = w.alloc (.cells (stl zeroS).toArray 47) := ⟨_, rfl⟩
  have HZ : Hid (Hs W w.heap.size zeroS) := by rw [hW]; exact hs_new w zeroS
  have SW : Hid (Seen w W) := by rw [hW]; exact (Seen.refl w).alloc _
  have H0 : Hid (IT K B t W) := h.seen SW.out
  have HW := Lib.hid hW
  obtain ⟨f, hf⟩ : ∃ f, tkV 1 t.l = f := ⟨_, rfl⟩
  rw [hf] at hf01
  obtain ⟨hf0, hf1⟩ := hf01
  have HFf := Lib.hid hf
  clear h hW hf
  go_enter Try.func53, Try.ntmps53
  go_wp2_with (first
    | (go_at_call 63; rw [zero_lit, ← HW.out]; refine H0.out.byte.mono ?_; rintro _ w1 ⟨rfl, ht1, hi1⟩; rw [HFf.out]
       have T1 : Hid (Turns B w w1) := ((Turns.refl B w).next SW.out).trans ht1
       have I1 := Lib.hid hi1
       have X1 : Hid (Hs w1 w.heap.size zeroS) := HZ.out.keeps (ht1.block _ HZ.out.lt (by omega))
       clear ht1 hi1 HW HZ H0 SW)
    | (go_at_call 64; refine (first_any f hf0 hf1 w1).mono ?_; rintro _ w2 ⟨rfl, hs2⟩
       have S2 : Hid (Seen w1 w2) := hs2
       clear hs2)
    | (have gg := X1.out; clear gg; rw [zero_lit]; refine wpList_storeS rfl _ _ rfl w2.heap.size zeroS (mkS f [] [] 0 0 0) rfl rfl (mkS_full (by simp) (by simp)) zero_full (hs_new w2 zeroS) ?_
       intro w3 hs3 ht3
       have HA : Hid (Apart w K B w2.heap.size) := ⟨HK.out, hBlt, Nat.lt_of_lt_of_le X1.out.lt S2.out.size⟩
       have sA : Seen w1 (w2.alloc (.cells (stl zeroS).toArray 47)) := S2.out.alloc _
       have G0 : GI w K B w2.heap.size (adv 1 t) zeroS (w2.alloc (.cells (stl zeroS).toArray 47)) := ⟨T1.out.next sA, I1.out.seen sA, X1.out.seen sA, hs_new w2 zeroS⟩
       have G3 : Hid (GI w K B w2.heap.size (lnsS 0 (adv 1 t)) (mkS f (lnsV 0 (adv 1 t)) [] 0 0 0) w3) := G0.store HA.out hs3 ht3
       clear hs3 ht3 sA G0 T1 I1 X1 S2)
    | (go_at_call 65; refine (getLens_any G3.out.self).mono ?_; rintro _ w4 ⟨rfl, ht, hi⟩
       have G4 : Hid (GI w K B w2.heap.size (lnsS 4 (adv 1 t)) (mkS f (lnsV 0 (adv 1 t)) [] 0 0 0) w4) := G3.out.call HA.out ht hi
       clear ht hi G3)
    | (have gg := G4.out; clear gg; refine wpList_storeLens rfl 44 _ _ rfl w2.heap.size f (lnsV 0 (adv 1 t)) [] 0 0 0 (lnsV 4 (adv 1 t)) 2 4 rfl rfl info24s (lnsV_length _ _) (by rw [lnsV_length]) (by rw [lnsV_length]; omega) (by simp) G4.out.sty ?_
       intro w5 hs ht
       have G5 : Hid (GI w K B w2.heap.size (lnsS 4 (adv 1 t)) (mkS f (lnsV 4 (adv 1 t)) [] 0 0 0) w5) := G4.out.store HA.out hs ht
       clear hs ht G4)
    | (go_at_call 66; refine (getLen_any G5.out.self).mono ?_; rintro _ w6 ⟨rfl, ht, hi⟩
       rw [lnsS_succ] at hi
       have G6 : Hid (GI w K B w2.heap.size (lnsS 5 (adv 1 t)) (mkS f (lnsV 4 (adv 1 t)) [] 0 0 0) w6) := G5.out.call HA.out ht hi
       clear ht hi G5)
    | (go_at_call 66; refine (getLen_any G6.out.self).mono ?_; rintro _ w7 ⟨rfl, ht, hi⟩
       rw [lnsS_succ] at hi
       have G7 : Hid (GI w K B w2.heap.size (lnsS 6 (adv 1 t)) (mkS f (lnsV 4 (adv 1 t)) [] 0 0 0) w7) := G6.out.call HA.out ht hi
       clear ht hi G6)
    | (have gg := G7.out; clear gg; refine wpList_storeLen1 rfl _ _ rfl w2.heap.size f (lnsV 4 (adv 1 t)) [] 0 0 0 (lnV (lnsS 4 (adv 1 t))) 10 rfl rfl (by rw [lnsV_length]) (by rw [lnsV_length]; omega) (by simp) G7.out.sty ?_
       intro w8 hs ht
       rw [lnsV_succ] at hs
       have G8 : Hid (GI w K B w2.heap.size (lnsS 6 (adv 1 t)) (mkS f (lnsV 5 (adv 1 t)) [] 0 0 0) w8) := G7.out.store HA.out hs ht
       clear hs ht G7)
    | (have gg := G8.out; clear gg; refine wpList_storeLen1 rfl _ _ rfl w2.heap.size f (lnsV 5 (adv 1 t)) [] 0 0 0 (lnV (lnsS 5 (adv 1 t))) 12 rfl rfl (by rw [lnsV_length]) (by rw [lnsV_length]; omega) (by simp) G8.out.sty ?_
       intro w9 hs ht
       rw [lnsV_succ] at hs
       have G9 : Hid (GI w K B w2.heap.size (lnsS 6 (adv 1 t)) (mkS f (lnsV 6 (adv 1 t)) [] 0 0 0) w9) := G8.out.store HA.out hs ht
       clear hs ht G8)
    | (go_at_call 66; refine (getLen_any G9.out.self).mono ?_; rintro _ w10 ⟨rfl, ht, hi⟩
       rw [lnsS_succ] at hi
       have G10 : Hid (GI w K B w2.heap.size (lnsS 7 (adv 1 t)) (mkS f (lnsV 6 (adv 1 t)) [] 0 0 0) w10) := G9.out.call HA.out ht hi
       clear ht hi G9)
    | (go_at_call 66; refine (getLen_any G10.out.self).mono ?_; rintro _ w11 ⟨rfl, ht, hi⟩
       rw [lnsS_succ] at hi
       have G11 : Hid (GI w K B w2.heap.size (lnsS 8 (adv 1 t)) (mkS f (lnsV 6 (adv 1 t)) [] 0 0 0) w11) := G10.out.call HA.out ht hi
       clear ht hi G10)
    | (have gg := G11.out; clear gg; refine wpList_storeLen1 rfl _ _ rfl w2.heap.size f (lnsV 6 (adv 1 t)) [] 0 0 0 (lnV (lnsS 6 (adv 1 t))) 14 rfl rfl (by rw [lnsV_length]) (by rw [lnsV_length]; omega) (by simp) G11.out.sty ?_
       intro w12 hs ht
       rw [lnsV_succ] at hs
       have G12 : Hid (GI w K B w2.heap.size (lnsS 8 (adv 1 t)) (mkS f (lnsV 7 (adv 1 t)) [] 0 0 0) w12) := G11.out.store HA.out hs ht
       clear hs ht G11)
    | (have gg := G12.out; clear gg; refine wpList_storeLen1 rfl _ _ rfl w2.heap.size f (lnsV 7 (adv 1 t)) [] 0 0 0 (lnV (lnsS 7 (adv 1 t))) 16 rfl rfl (by rw [lnsV_length]) (by rw [lnsV_length]; omega) (by simp) G12.out.sty ?_
       intro w13 hs ht
       rw [lnsV_succ] at hs
       have G13 : Hid (GI w K B w2.heap.size (lnsS 8 (adv 1 t)) (mkS f (lnsV 8 (adv 1 t)) [] 0 0 0) w13) := G12.out.store HA.out hs ht
       clear hs ht G12)
    | (go_at_call 66; refine (getLen_any G13.out.self).mono ?_; rintro _ w14 ⟨rfl, ht, hi⟩
       rw [lnsS_succ] at hi
       have G14 : Hid (GI w K B w2.heap.size (lnsS 9 (adv 1 t)) (mkS f (lnsV 8 (adv 1 t)) [] 0 0 0) w14) := G13.out.call HA.out ht hi
       clear ht hi G13)
    | (go_at_call 66; refine (getLen_any G14.out.self).mono ?_; rintro _ w15 ⟨rfl, ht, hi⟩
       rw [lnsS_succ] at hi
       have G15 : Hid (GI w K B w2.heap.size (lnsS 10 (adv 1 t)) (mkS f (lnsV 8 (adv 1 t)) [] 0 0 0) w15) := G14.out.call HA.out ht hi
       clear ht hi G14)
    | (have gg := G15.out; clear gg; refine wpList_storeLen1 rfl _ _ rfl w2.heap.size f (lnsV 8 (adv 1 t)) [] 0 0 0 (lnV (lnsS 8 (adv 1 t))) 18 rfl rfl (by rw [lnsV_length]) (by rw [lnsV_length]; omega) (by simp) G15.out.sty ?_
       intro w16 hs ht
       rw [lnsV_succ] at hs
       have G16 : Hid (GI w K B w2.heap.size (lnsS 10 (adv 1 t)) (mkS f (lnsV 9 (adv 1 t)) [] 0 0 0) w16) := G15.out.store HA.out hs ht
       clear hs ht G15)
    | (have gg := G16.out; clear gg; refine wpList_storeLen1 rfl _ _ rfl w2.heap.size f (lnsV 9 (adv 1 t)) [] 0 0 0 (lnV (lnsS 9 (adv 1 t))) 20 rfl rfl (by rw [lnsV_length]) (by rw [lnsV_length]; omega) (by simp) G16.out.sty ?_
       intro w17 hs ht
       rw [lnsV_succ] at hs
       have G17 : Hid (GI w K B w2.heap.size (lnsS 10 (adv 1 t)) (mkS f (lnsV 10 (adv 1 t)) [] 0 0 0) w17) := G16.out.store HA.out hs ht
       clear hs ht G16)
    | (go_at_call 65; refine (getLens_any G17.out.self).mono ?_; rintro _ w18 ⟨rfl, ht, hi⟩
       have G18 : Hid (GI w K B w2.heap.size (lnsS 14 (adv 1 t)) (mkS f (lnsV 10 (adv 1 t)) [] 0 0 0) w18) := G17.out.call HA.out ht (by rw [show 14 = 10 + 4 from rfl, lnsS_add]; exact hi)
       clear ht hi G17)
    | (have gg := G18.out; clear gg; refine wpList_storeLens rfl 44 _ _ rfl w2.heap.size f (lnsV 10 (adv 1 t)) [] 0 0 0 (lnsV 4 (lnsS 10 (adv 1 t))) 22 4 rfl rfl info24s (lnsV_length _ _) (by rw [lnsV_length]) (by rw [lnsV_length]; omega) (by simp) G18.out.sty ?_
       intro w19 hs ht
       have e : lnsV 10 (adv 1 t) ++ lnsV 4 (lnsS 10 (adv 1 t)) = lnsV 14 (adv 1 t) := (lnsV_add 10 4 _).symm
       rw [e] at hs
       clear e
       have G19 : Hid (GI w K B w2.heap.size (lnsS 14 (adv 1 t)) (mkS f (lnsV 14 (adv 1 t)) [] 0 0 0) w19) := G18.out.store HA.out hs ht
       clear hs ht G18)
    | (go_at_call 65; refine (getLens_any G19.out.self).mono ?_; rintro _ w20 ⟨rfl, ht, hi⟩
       have G20 : Hid (GI w K B w2.heap.size (lnsS 18 (adv 1 t)) (mkS f (lnsV 14 (adv 1 t)) [] 0 0 0) w20) := G19.out.call HA.out ht (by rw [show 18 = 14 + 4 from rfl, lnsS_add]; exact hi)
       clear ht hi G19)
    | (have gg := G20.out; clear gg; refine wpList_storeLens rfl 44 _ _ rfl w2.heap.size f (lnsV 14 (adv 1 t)) [] 0 0 0 (lnsV 4 (lnsS 14 (adv 1 t))) 30 4 rfl rfl info24s (lnsV_length _ _) (by rw [lnsV_length]) (by rw [lnsV_length]; omega) (by simp) G20.out.sty ?_
       intro w21 hs ht
       have e : lnsV 14 (adv 1 t) ++ lnsV 4 (lnsS 14 (adv 1 t)) = lnsV 18 (adv 1 t) := (lnsV_add 14 4 _).symm
       rw [e] at hs
       clear e
       have G21 : Hid (GI w K B w2.heap.size (lnsS 18 (adv 1 t)) (mkS f (lnsV 18 (adv 1 t)) [] 0 0 0) w21) := G20.out.store HA.out hs ht
       clear hs ht G20))
  obtain ⟨Y, hY⟩ : ∃ Y, w2.heap.size = Y := ⟨_, rfl⟩
  obtain ⟨D, hD⟩ : ∃ D, lnsV 18 (adv 1 t) = D := ⟨_, rfl⟩
  obtain ⟨tl, htl⟩ : ∃ tl, lnsS 18 (adv 1 t) = tl := ⟨_, rfl⟩
  have hDl : D.length = 18 := by rw [← hD, lnsV_length]
  have HDl := Lib.hid hDl
  rw [hY] at HA
  rw [hY, hD, htl] at G21
  rw [hY]
  have HD := Lib.hid hD
  have HTL : Hid (rL t = tl) := htl
  clear hY hD htl hDl
  go_loopw [37] (fun i wr => ∃ k : Nat, k ≤ 4 ∧ i = .int .i64 k ∧ GI w K B Y (nmsS k tl) (mkS f D (nmsV k tl) 0 0 0) wr) (fun i _ => 4 - (intOf i).toNat)
  case atStart => exact ⟨0, Nat.zero_le _, rfl, G21.out⟩
  case round =>
    obtain ⟨k, hk, rfl, hg⟩ := hrel
    have G := Lib.hid hg
    clear hg G21
    by_cases hlt : k < 4
    · have hk' : (k : Int) < 4 := by omega
      go_wp2_with (go_at_call 67; refine G.out.self.eight.mono ?_; rintro _ w5 ⟨rfl, ht5, hi5⟩
                   rw [nmsS_succ] at hi5
                   have G5 : Hid (GI w K B Y (nmsS (k + 1) tl) (mkS f D (nmsV k tl) 0 0 0) w5) := G.out.call HA.out ht5 hi5
                   have cb := G5.out.sty.bord (mkS_full (by rw [HDl.out]; omega) (by rw [nmsV_length]; omega)) hlt
                   have cf := G5.out.sty.free (38 + k)
                   clear ht5 hi5 G)
      have e := mkS_bord f D (nmsV k tl) 0 0 0 (n8 (nmsS k tl)) (by rw [HDl.out]; omega) (by rw [nmsV_length]; exact hlt)
      rw [nmsV_length, nmsV_succ] at e
      exact ⟨⟨k + 1, hlt, by go_num, G5.out.set HA.out _ _ e⟩, by simp [intOf]; omega⟩
    · have hk' : ¬ (k : Int) < 4 := by omega
      obtain rfl : k = 4 := by omega
      obtain ⟨Bo, hBo⟩ : ∃ Bo, nmsV 4 tl = Bo := ⟨_, rfl⟩
      obtain ⟨tb, htb⟩ : ∃ tb, nmsS 4 tl = tb := ⟨_, rfl⟩
      have HBl : Hid (Bo.length = 4) := by unfold Hid; rw [← hBo, nmsV_length]
      rw [hBo, htb] at G
      have HBo := Lib.hid hBo
      have HTB : Hid (rB t = tb) := by unfold Hid; rw [rB, HTL.out]; exact htb
      clear hBo htb
      have FUL : Hid (∀ z b l, Full (mkS f D Bo z b l)) := fun z b l => mkS_full (by rw [HDl.out]; omega) (by rw [HBl.out]; omega)
      have c43 : wr.cell? ⟨Y, 43, none⟩ = some (.bool (f / 16 % 2 == 1)) := (G.out.sty.tail (FUL.out _ _ _)).2.1
      have HHas : Hid (rHas t = (f / 16 % 2 == 1) ∧ True) := ⟨by unfold rHas rF; rw [HFf.out], trivial⟩
      go_upto_if 47 with fail
      go_cut [3] (fun v wx => v = .int .u8 f ∧ GI w K B Y (rZS t) (mkS f D Bo (rZ t) 0 0) wx)
      case first =>
        cases hz : (f / 16 % 2 == 1)
        · rw [hz] at c43
          have hr : Hid (rZS t = tb ∧ rZ t = 0) := by unfold Hid rZS rZ; rw [HHas.out.1, hz, HTB.out]; exact ⟨rfl, rfl⟩
          go_wp2_with fail
          go_meet
          rw [hr.out.1, hr.out.2]
          exact ⟨rfl, G.out⟩
        · rw [hz] at c43
          have hr : Hid (rZS t = adv 8 tb ∧ rZ t = n8 tb) := by unfold Hid rZS rZ; rw [HHas.out.1, hz, HTB.out]; exact ⟨rfl, rfl⟩
          go_wp2_with (go_at_call 67; refine G.out.self.eight.mono ?_; rintro _ w5 ⟨rfl, ht5, hi5⟩
                       have G5 := Lib.hid (G.out.call HA.out ht5 hi5)
                       have cb := (G5.out.sty.tail (FUL.out _ _ _)).2.2.1
                       have cf := G5.out.sty.free 44
                       clear ht5 hi5)
          go_meet
          rw [hr.out.1, hr.out.2]
          exact ⟨rfl, G5.out.set HA.out _ _ (mkS_z f D Bo 0 0 0 (n8 tb) (by rw [HDl.out]; omega) (by rw [HBl.out]; omega))⟩
      case rest =>
        obtain ⟨rfl, hg⟩ := hcut
        have G6 := Lib.hid hg
        clear hg G c43
        obtain ⟨tz, htz⟩ : ∃ tz, rZS t = tz := ⟨_, rfl⟩
        obtain ⟨z, hz⟩ : ∃ z, rZ t = z := ⟨_, rfl⟩
        have HTZ := Lib.hid htz
        have HZZ := Lib.hid hz
        rw [htz, hz] at G6
        clear htz hz
        have lD : Hid (D.length ≤ 18 ∧ Bo.length ≤ 4) := by unfold Hid; rw [HDl.out, HBl.out]; omega
        obtain ⟨SR, hSR⟩ : ∃ SR, SR = mkS f D Bo z (n8 tz) (n8 (adv 8 tz)) := ⟨_, rfl⟩
        have HSR : Hid (rawS t = SR) := by unfold Hid rawS; rw [hSR, HTZ.out, HZZ.out, HTL.out, rF, HFf.out, HD.out, HBo.out]
        have HTE : Hid (rawE t = adv 8 (adv 8 tz)) := by unfold Hid rawE; rw [HTZ.out]
        have FSR : Hid (Full SR) := by rw [hSR]; exact FUL.out _ _ _
        have HOK : Hid (getOk t = (!(adv 8 (adv 8 tz)).bad && (!decide (63 < f) && formedB SR))) := by unfold Hid getOk; rw [HTE.out, HSR.out, rF, HFf.out]
        obtain ⟨TE, hTE⟩ : ∃ TE, adv 8 (adv 8 tz) = TE := ⟨_, rfl⟩
        rw [hTE] at HTE HOK
        obtain ⟨bE, hbE⟩ : ∃ bE, TE.bad = bE := ⟨_, rfl⟩
        rw [hbE] at HOK
        have HbE := Lib.hid hbE
        have hhTE := Lib.hid hTE
        have hhSR := Lib.hid hSR
        clear hbE hTE hSR HD HBo HTL HTB HFf HHas HTZ HZZ
        go_upto_region 18 with (first
          | (go_at_call 67; have gg := G6.out; clear gg; refine G6.out.self.eight.mono ?_; rintro _ w5 ⟨rfl, ht5, hi5⟩
             have G7 := Lib.hid (G6.out.call HA.out ht5 hi5)
             have cb := (G7.out.sty.tail (FUL.out _ _ _)).2.2.2.2.1
             have cf := G7.out.sty.free 46
             have G8 : Hid (GI w K B Y (adv 8 tz) (mkS f D Bo z (n8 tz) 0) (w5.setCell ⟨Y, 46, none⟩ (.int .i64 (n8 tz)))) := G7.out.set HA.out _ _ (mkS_back f D Bo z 0 0 (n8 tz) lD.out.1 lD.out.2)
             clear ht5 hi5 G6)
          | (go_at_call 67; have gg := G8.out; clear gg; refine G8.out.self.eight.mono ?_; rintro _ w6 ⟨rfl, ht6, hi6⟩
             have G9 := Lib.hid (G8.out.call HA.out ht6 hi6)
             have cb2 := (G9.out.sty.tail (FUL.out _ _ _)).2.2.2.2.2
             have cf2 := G9.out.sty.free 47
             have G10 : Hid (GI w K B Y TE SR (w6.setCell ⟨Y, 47, none⟩ (.int .i64 (n8 (adv 8 tz))))) := by
               rw [hhSR.out, ← hhTE.out]
               exact G9.out.set HA.out _ _ (mkS_line f D Bo z (n8 tz) 0 (n8 (adv 8 tz)) lD.out.1 lD.out.2)
             clear ht6 hi6 G8 cb cf))
        obtain ⟨w7, hw7⟩ : ∃ w7, w7 = w6.setCell ⟨Y, 47, none⟩ (.int .i64 (n8 (adv 8 tz))) := ⟨_, rfl⟩
        rw [← hw7] at G10
        rw [← hw7]
        clear hw7 G9 cb2 cf2
        try clear G7
        obtain ⟨fm, hfm0⟩ : ∃ fm, formedB SR = fm := ⟨_, rfl⟩
        obtain ⟨ok, hok0⟩ : ∃ ok, getOk t = ok := ⟨_, rfl⟩
        rw [hfm0, hok0] at HOK
        have HFM := Lib.hid (And.intro hfm0 trivial)
        have HGO := Lib.hid (And.intro hok0 trivial)
        clear hfm0 hok0
        go_cut [67] (fun v wx => v = .bool (!ok) ∧ GI w K B Y TE SR wx)
        case first =>
          cases hb : bE
          · rw [hb] at HbE
            by_cases h63 : f > 63
            · go_wp2_with (go_at_call 51; refine (bad_any G10.out.self).mono ?_; rintro _ w8 ⟨rfl, rfl⟩; rw [HbE.out])
              go_meet
              exact ⟨by rw [HOK.out, hb, decide_eq_true h63]; rfl, G10.out⟩
            · cases hfm : fm
              all_goals
                rw [hfm] at HFM
                have fl : Hid (0 = 0) := rfl
                go_wp2_with (first
                  | (go_at_call 51; refine (bad_any G10.out.self).mono ?_; rintro _ w8 ⟨rfl, hw8⟩; subst hw8; rw [HbE.out])
                  | (clear fl; refine wpList_loadSg ?_ (.tmp 4) rfl Y SR rfl FSR.out G10.out.sty ?_; focus (go_simp; done))
                  | (go_at_call 24; refine (formed_any SR FSR.out _).mono ?_; rintro _ w9 ⟨rfl, hs9⟩; rw [HFM.out.1]
                     have G12 := Lib.hid (G10.out.next hs9)
                     clear hs9))
                go_meet
                exact ⟨by rw [HOK.out, hb, hfm, decide_eq_false (by omega)]; rfl, G12.out⟩
          · rw [hb] at HbE
            go_wp2_with (go_at_call 51; refine (bad_any G10.out.self).mono ?_; rintro _ w8 ⟨rfl, rfl⟩; rw [HbE.out])
            go_meet
            exact ⟨by rw [HOK.out, hb]; rfl, G10.out⟩
        case rest =>
          obtain ⟨rfl, hg⟩ := hcut
          have G12 := Lib.hid hg
          clear hg G10
          have nK : Hid (¬ K w.heap.size) := fun hk => by have := HK.out _ hk; omega
          cases hok : ok
          · have HNo : Hid (getV t = zeroS ∧ getE t = ⟨[], true⟩) := by
              unfold Hid getV getE
              rw [HGO.out.1, hok]
              exact ⟨rfl, rfl⟩
            clear HGO HFM HOK HbE hhTE hhSR HSR HTE lD FUL HDl HBl hf0 hf1
            have fl2 : Hid (0 = 0) := rfl
            go_wp2_with (first
              | (go_at_call 62; refine (fail_any G12.out.self).mono ?_; rintro _ w9 ⟨rfl, ht9, hi9⟩
                 have G11 : Hid (GI w K B Y ⟨[], true⟩ SR w9) := G12.out.call HA.out ht9 hi9
                 clear ht9 hi9)
              | (have gg := G11.out; clear gg; clear fl2; rw [zero_lit]; refine wpList_storeS rfl (.tmp 2) (.tmp 70) rfl w.heap.size zeroS zeroS rfl rfl zero_full zero_full G11.out.res ?_
                 intro w10 hs10 ht10
                 have R10 := Lib.hid (And.intro hs10 ht10)
                 clear hs10 ht10))
            refine bodyPost_ret (results_cell Try.results53 rfl (run_loadS R10.out.1 zero_full)) rfl ?_
            rw [HNo.out.1, HNo.out.2]
            exact ⟨rfl, G11.out.turns.fresh R10.out.2 (Nat.le_refl _), G11.out.self.other R10.out.2 nK.out⟩
          · have HNo : Hid (getV t = SR ∧ getE t = TE) := by
              unfold Hid getV getE
              rw [HGO.out.1, hok, HSR.out, HTE.out]
              exact ⟨rfl, rfl⟩
            clear HGO HFM HOK HbE hhTE hhSR HSR HTE lD FUL HDl HBl hf0 hf1
            have fl : Hid (0 = 0) := rfl
            have fl2 : Hid (0 = 0) := rfl
            go_wp2_with (first
              | (clear fl; refine wpList_loadS rfl (.tmp 4) rfl Y SR rfl FSR.out G12.out.sty ?_)
              | (clear fl2; refine wpList_storeS rfl (.tmp 2) (.tmp 71) rfl w.heap.size zeroS SR rfl rfl FSR.out zero_full G12.out.res ?_
                 intro w10 hs10 ht10
                 have R10 := Lib.hid (And.intro hs10 ht10)
                 clear hs10 ht10))
            refine bodyPost_ret (results_cell Try.results53 rfl (run_loadS R10.out.1 FSR.out)) rfl ?_
            rw [HNo.out.1, HNo.out.2]
            exact ⟨rfl, G12.out.turns.fresh R10.out.2 (Nat.le_refl _), G12.out.self.other R10.out.2 nK.out⟩
end Go.Proofs.Ythphmhcgnkoigaa
