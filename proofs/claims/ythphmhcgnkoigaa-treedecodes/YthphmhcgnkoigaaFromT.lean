/- Contract of the reference's From of trees; no conditions beyond those written in each theorem. -/
import Derived.Test.YthphmhcgnkoigaaFromTS
namespace Go.Proofs.Ythphmhcgnkoigaa
open Go.ChangeShapes Go.WideShapes Go.ChangeAt Go.RowKit
set_option maxRecDepth 100000
set_option maxHeartbeats 32000000 in
theorem fromT_any (a0 : Option Addr) (n0 c0 : Nat) (l : List Int) (w : World) (h : BS w a0 n0 l) (hok : Bytes8 l) (hcap : n0 ≤ c0) (hn : n0 ≤ 1000000) :
    Calls Try.prog 18 #[.slice a0 n0 c0] w fun e w' => ∃ v, e = .returned (.tuple #[v, .bool (fromOk l)]) ∧ Seen w w' ∧ (fromOk l = true → w'.ownsRow w.heap.size 51 49 v (decA l).2.length (flatN (decA l).2)) := by
  obtain ⟨i0, hi, hz0, hz1, hz2⟩ := info_parts info51z
  have HLN : Hid (l.length ≤ 1000000) := by unfold Hid; rw [h.1]; exact hn
  have R0 : Hid (RV w a0 n0 c0 ⟨l, false⟩) := ⟨h, hok, hcap, fun e => by cases e⟩
  have hb4 : 0 ≤ tkV 4 l ∧ tkV 4 l < 256 ^ 4 := tkV_bound (n := 4) hok
  obtain ⟨C, hC⟩ : ∃ C : Nat, tkV 4 l = (C : Int) := ⟨(tkV 4 l).toNat, by omega⟩
  have HC32 : Hid (C < 4294967296) := by unfold Hid; omega
  have HCD : Hid (decC l = C) := by unfold Hid decC; rw [hC]; rfl
  have HD : Hid (decN C (adv 4 ⟨l, false⟩) [] = decA l) := by unfold Hid decA; rw [HCD.out]
  have HDI := Lib.hid (DI.start (l := l) hok)
  have HBC : Hid ((adv 4 ⟨l, false⟩ : St).bad = true → C = 0) := by
    intro hb
    have hb' : tkB 4 l false = true := hb
    unfold tkB at hb'
    unfold tkV at hC
    split at hb'
    · rename_i h1; rw [if_pos h1] at hC; omega
    · cases hb'
  have H4 := Lib.hid (R0.out.take 4 (by omega) (by omega))
  rw [show tkV 4 (⟨l, false⟩ : St).l = (C : Int) from hC] at H4
  obtain ⟨t0, ht0⟩ : ∃ t0, (adv 4 ⟨l, false⟩ : St) = t0 := ⟨_, rfl⟩
  rw [ht0] at HD HDI HBC H4
  clear h hok hcap hb4 hC ht0
  go_enter Try.func18, Try.ntmps18
  go_wp2_with (go_at_call 36; refine H4.out.mono ?_; clear H4; rintro _ w1 ⟨a1, N1, c1, rfl, hs1, hr1⟩; have R1 := Lib.hid (And.intro hs1 hr1); clear hs1 hr1)
  obtain ⟨X, hX⟩ : ∃ X, w1.heap.size = X := ⟨_, rfl⟩
  obtain ⟨W, hW⟩ : ∃ W, W = w1.alloc (.cells #[.slice a1 N1 c1, .bool t0.bad] 67) := ⟨_, rfl⟩
  rw [← hW]
  have G0 : Hid (FS w a0 n0 c0 l X (.slice none 0 0) 0 [] t0 a1 N1 c1 W) := by
    rw [hW, ← hX]
    exact ⟨R1.out.1.alloc _, R1.out.2, World.alloc_heap_new w1 _, World.ownsRow_nil _ _ _ _, R1.out.1.size⟩
  rw [hX]
  clear hW hX R1
  go_loopw [6, 18] (fun v i wr => ∃ (k : Nat) (t : St) (nl : List Nd) (a : Option Addr) (N c : Nat), k ≤ C ∧ i = .int .u64 (k : Int) ∧ FS w a0 n0 c0 l X v k nl t a N c wr ∧ nl.length = k ∧ DI l.length t nl ∧ decN (C - k) t nl = decA l ∧ (t.bad = true → C = 0)) (fun _ i _ => C - (intOf i).toNat)
  case atStart => exact ⟨0, t0, [], a1, N1, c1, Nat.zero_le _, rfl, G0.out, rfl, HDI.out, HD.out, HBC.out⟩
  case round =>
    obtain ⟨k, t, nl, a, N, c, hk, rfl, hfs, hlen, hdi, hsame, hbc⟩ := hrel
    have G1 := Lib.hid hfs
    have HLE := Lib.hid hlen
    have HDI1 := Lib.hid hdi
    have HSM1 := Lib.hid hsame
    have HBC1 := Lib.hid hbc
    clear hfs hlen hdi hsame hbc G0 HDI HD HBC
    by_cases hlt : k < C
    · have HNB : Hid (t.bad = false) := by
        unfold Hid
        cases hb : t.bad with
        | false => rfl
        | true => have := HBC1.out hb; omega
      rcases Nat.eq_zero_or_pos k with hk0 | hk0
      · have hkp : ¬ (k : Int) > 0 := by omega
        have HRP : Hid (rpar t nl = -1) := (rpar0 t (by rw [HLE.out, hk0])).1
        have HRS : Hid (rst t nl = t) := (rpar0 t (by rw [HLE.out, hk0])).2
        have G3 := G1
        have HDS := Lib.hid (HDI1.out.step HNB.out)
        have HSM : Hid (decN (C - (k + 1)) (getE t) (nl ++ [dnode t nl]) = decA l) := by
          unfold Hid
          have := HSM1.out
          rw [show C - k = (C - (k + 1)) + 1 by omega, decN_step _ _ HNB.out, HRS.out] at this
          exact this
        rw [HRS.out] at HDS
        have HDN : Hid (dnode t nl = ⟨getV t, (-1), getV_full _⟩) := by unfold Hid dnode; simp only [HRP.out, HRS.out]
        have HK1 : Hid (k ≤ 1000001) := by unfold Hid; have := HDI1.out.most; have := HLE.out; have := HLN.out; omega
        obtain ⟨Y, hY⟩ : ∃ Y, wr.heap.size = Y := ⟨_, rfl⟩
        have HYX : Hid (X ≠ Y) := by unfold Hid; rw [← hY]; have := heap_lt G3.out.blk; omega
        have HYV : Hid (∀ g, u6.ownBlock = some g → g ≠ Y) := fun g hg => by rw [← hY]; have := (G3.out.row.lt g hg).2; omega
        have HYW : Hid (w.heap.size ≤ Y) := by rw [← hY]; exact G3.out.seen.size
        obtain ⟨V, hV⟩ : ∃ V, V = wr.alloc (.cells (ndl zeroN).toArray 51) := ⟨_, rfl⟩
        have HZ : Hid (Hn V Y zeroN) := by rw [hV, ← hY]; exact hn_new wr zeroN
        have HVS : Hid (∀ w2, Turns Y V w2 → FS w a0 n0 c0 l X u6 k nl t a N c w2) := by rw [hV, ← hY]; exact fun w2 h2 => G3.out.fresh h2
        obtain ⟨bE, hbE⟩ : ∃ bE, (getE t).bad = bE := ⟨_, rfl⟩
        have HBE := Lib.hid hbE
        obtain ⟨SV, hSV⟩ : ∃ SV, getV t = SV := ⟨_, rfl⟩
        have HSV := Lib.hid hSV
        have HFU : Hid (Full SV) := by rw [← hSV]; exact getV_full _
        clear hbE hSV
        go_upto_region 18 with (first
          | (refine wpList_buildP rfl (.tmp 46) rfl (-1) rfl ?_)
          | (rw [zeroN_lit, ← hV]; clear hV; refine wpList_storeN rfl (.tmp 10) (.tmp 47) rfl Y zeroN ⟨zeroS, (-1), zero_full⟩ rfl rfl HZ.out ?_; clear HZ; intro w4 h4 t4; have R4 := Lib.hid (And.intro h4 (HVS.out w4 t4)); clear h4 t4
             obtain ⟨x0, x1, xf, xl⟩ := cells2 R4.out.2.blk)
          | (go_at_call 37; refine (refFrom_any (R4.out.2.at R0.out)).mono ?_; rintro _ w5 ⟨a5, N5, c5, rfl, hs5, hr5⟩; rw [HBE.out, HSV.out]; have R5 := Lib.hid (And.intro (R4.out.1.seen hs5) (And.intro (R4.out.2.next hs5) hr5)); clear hs5 hr5 x0 x1 xf xl)
          | (refine wpList_storeC rfl 47 (.tmp 53) (.tmp 51) rfl Y 0 (stl SV) rfl rfl (by rw [HFU.out.len]; exact info27) (stl_one SV) R5.out.1 (by rw [HFU.out.len, ndl_length]; omega) (cs' := ndl ⟨SV, (-1), HFU.out⟩) ?_ ?_
             focus
               have := setsL_mid [] (stl zeroS) [.int .i64 (-1)] (stl SV) (by rw [HFU.out.len, zero_full.len])
               simpa [ndl] using this
             intro w6 h6 t6
             have R6 := Lib.hid (And.intro (show Hn w6 Y ⟨SV, (-1), HFU.out⟩ from h6) (R5.out.2.1.other t6 HYW.out HYX.out HYV.out)); clear h6 t6
             obtain ⟨x0, x1, xf, xl⟩ := cells2 R6.out.2.blk))
        obtain ⟨W7, hW7⟩ : ∃ W7, W7 = (w6.setCell ⟨X, 0, none⟩ (.slice a5 N5 c5)).setCell ⟨X, 1, none⟩ (.bool bE) := ⟨_, rfl⟩
        rw [← hW7]
        have G7 : Hid (FS w a0 n0 c0 l X u6 k nl (getE t) a5 N5 c5 W7) := by
          have := R6.out.2.put R5.out.2.2
          rw [HBE.out, ← hW7] at this
          exact this
        have N7 : Hid (Hn W7 Y (dnode t nl)) := by
          unfold Hid
          rw [hW7]
          have e : dnode t nl = ⟨SV, (-1), HFU.out⟩ := by rw [HDN.out]; simp only [HSV.out]
          rw [e]
          have r1 : (w6.setCell ⟨X, 0, none⟩ (.slice a5 N5 c5)).heap[Y]? = some (.cells (ndl ⟨SV, (-1), HFU.out⟩).toArray 51) := hso R6.out.1 (Ne.symm HYX.out)
          exact hso r1 (Ne.symm HYX.out)
        clear hW7 x0 x1 xf xl R6 R5 R4
        obtain ⟨x0, x1, xf, xl⟩ := cells2 G7.out.blk
        rw [HBE.out] at x1
        cases bE with
        | true =>
          go_wp2_with fail
          go_ret2
          have hno : fromOk l = false := from_no (by rw [← HSM.out, decN_bad _ _ HBE.out]; exact HBE.out)
          rw [hno]
          exact ⟨_, rfl, G7.out.seen, fun h => by cases h⟩
        | false =>
          have hku : (k : Int) + 1 < 18446744073709551616 := by have := HC32.out; omega
          go_wp2_with (first
            | (refine wpList_loadN rfl (.tmp 10) rfl Y 0 (dnode t nl) rfl N7.out.at ?_)
            | (refine wpList_buildS1 rfl (.tmp 57) rfl (dnode t nl) rfl ?_)
            | (at_builtin; refine wpList_append_rows _ rfl (.tmp 56) (.tmp 58) 22 rfl 51 i0 _ 49 384 Try.underlying22 hi hz0 hz1 hz2 (by kernel_rfl) (by decide) w.heap.size 0 u6 k (flatN nl) rfl (G7.out.row.alloc _) (.slice (some ⟨W7.heap.size, 0, none⟩) 1 1) 1 (flatN [dnode t nl]) rfl (new_rowN W7 (dnode t nl) 0 (Nat.zero_le _)) (flatN_one _) (by have := HK1.out; unfold maxLen; omega) (by have := HK1.out; omega) (G7.out.seen.alloc _).size ?_
               intro v8 w8 ho8 hg8 hat8
               have G8 : Hid (FS w a0 n0 c0 l X v8 (k + 1) (nl ++ [dnode t nl]) (getE t) a5 N5 c5 w8) := G7.out.grow (by rw [flatN_append]; exact ho8) hg8
               clear ho8 hg8 hat8))
          refine ⟨⟨(k + 1), getE t, nl ++ [dnode t nl], a5, N5, c5, hlt, by go_num, G8.out, by rw [List.length_append, HLE.out]; rfl, HDS.out, HSM.out, fun h => by rw [HBE.out] at h; cases h⟩, ?_⟩
          simp [intOf]; omega
      · have hkp : (k : Int) > 0 := by omega
        obtain ⟨a9, cc, rfl, hns, _, _⟩ := ns_of_own G1.out.row HLE.out
        obtain ⟨b, off, rfl, _⟩ := hns.pars hk0
        clear hns
        obtain ⟨x0, x1, xf, xl⟩ := cells2 G1.out.blk
        have h4b := tkV_bound (n := 4) HDI1.out.bytes
        obtain ⟨S, hS⟩ : ∃ S : Nat, tkV 4 t.l = (S : Int) := ⟨(tkV 4 t.l).toNat, by omega⟩
        have HTK := Lib.hid ((G1.out.at R0.out).take 4 (by omega) (by omega))
        rw [hS] at HTK
        obtain ⟨m, hm⟩ : ∃ m : Int, (k : Int) - 1 = m := ⟨_, rfl⟩
        have hm0 : 0 ≤ m := by omega
        have hmk : m < k := by omega
        have HR : Hid (rpar t nl = upN nl S m) := by
          unfold Hid rpar
          rw [if_neg (by have := HLE.out; omega), hS, HLE.out, hm]; rfl
        have HR2 : Hid (rst t nl = if rpar t nl < 0 then ⟨[], true⟩ else adv 4 t) := by
          unfold Hid rst
          rw [if_neg (by have := HLE.out; omega)]
        obtain ⟨t1, ht1⟩ : ∃ t1, adv 4 t = t1 := ⟨_, rfl⟩
        rw [ht1] at HTK HR2
        have HS32 : Hid (S < 4294967296) := by unfold Hid; omega
        have hk63 : (k : Int) < 9223372036854775808 := by have := HC32.out; omega
        clear ht1 hS h4b
        go_upto_region 11 with (go_at_call 36; refine HTK.out.mono ?_; clear HTK; rintro _ w2 ⟨a2, N2, c2, rfl, hs2, hr2⟩; have R2 := Lib.hid (And.intro (G1.out.next hs2) hr2); clear hs2 hr2 x0 x1 xf xl; obtain ⟨x0, x1, xf, xl⟩ := cells2 R2.out.1.blk)
        obtain ⟨W3, hW3⟩ : ∃ W3, W3 = (w2.setCell ⟨X, 0, none⟩ (.slice a2 N2 c2)).setCell ⟨X, 1, none⟩ (.bool t1.bad) := ⟨_, rfl⟩
        rw [← hW3]
        have G3 : Hid (FS w a0 n0 c0 l X (.slice (some ⟨b, off, none⟩) k cc) k nl t1 a2 N2 c2 W3) := by rw [hW3]; exact R2.out.1.put R2.out.2
        clear hW3 x0 x1 xf xl R2
        have HCL : Hid (∀ i, i < k → W3.cell? ⟨b, off + i * 49 + 48, none⟩ = some (.int .i64 (nd nl i).p)) := by
          obtain ⟨a8, c8, e, h8, _, _⟩ := ns_of_own G3.out.row HLE.out
          cases e
          obtain ⟨b8, off8, e8, hc8⟩ := h8.pars hk0
          cases e8
          exact hc8
        have HLO : Hid (Low nl k) := by have := HDI1.out.low; rw [HLE.out] at this; exact this
        clear hm
        go_loopw [8, 9] (fun x s wr => ∃ j : Nat, j ≤ S ∧ x = .int .i64 (upN nl j m) ∧ s = .int .u64 ((S - j : Nat) : Int) ∧ wr = W3) (fun _ s _ => (intOf s).toNat)
        case atStart => exact ⟨0, Nat.zero_le _, rfl, rfl, rfl⟩
        case round =>
          obtain ⟨j, hj, rfl, rfl, rfl⟩ := hrel
          obtain ⟨q1, q2, q3⟩ := HLO.out.up (m := m) (by omega) (by omega) j
          have hnext : Hid (upN nl (j + 1) m = par nl (upN nl j m)) := rfl
          obtain ⟨A, hA⟩ : ∃ A, upN nl j m = A := ⟨_, rfl⟩
          rw [hA] at q1 q2 q3
          rw [hA] at hnext
          rw [hA]
          have HAA := Lib.hid hA
          clear hA
          obtain ⟨T, hT⟩ : ∃ T : Nat, S - j = T := ⟨_, rfl⟩
          rw [hT]
          by_cases hA1 : A < 0
          · obtain rfl : A = -1 := by omega
            have HE : Hid (rpar t nl = -1) := by
              unfold Hid
              rw [HR.out, show S = j + (S - j) by omega, upN_add, HAA.out, up_neg]
            have HE2 : Hid (rst t nl = ⟨[], true⟩) := by
              unfold Hid
              rw [HR2.out, HE.out]; rfl
            have HNO : Hid (fromOk l = false) := by
              unfold Hid
              refine from_no ?_
              rw [← HSM1.out, show C - k = (C - (k + 1)) + 1 by omega, decN_step _ _ HNB.out, HE2.out, decN_bad _ _ getE_bad]
              exact getE_bad
            clear hT q1 q2 q3 hA1
            by_cases hT0 : 0 < T
            all_goals
              go_wp2_with fail
              go_ret2
              rw [HNO.out]
              exact ⟨_, rfl, G3.out.seen, fun h => by cases h⟩
          · have hA0 : 0 ≤ A := by omega
            obtain ⟨x, rfl⟩ := Int.eq_ofNat_of_zero_le hA0
            have hxn : ¬ ((x : Nat) : Int) < 0 := by omega
            by_cases hlt2 : j < S
            · have cx := HCL.out x (by omega)
              have hx' : (x : Int) < (k : Int) := by omega
              have hT1 : 0 < T := by omega
              obtain ⟨U, hU⟩ : ∃ U : Nat, T - 1 = U := ⟨_, rfl⟩
              have hw : (T : Int) - 1 = (U : Int) := by omega
              have HT : Hid (S - (j + 1) = U) := by unfold Hid; omega
              have HT3 : Hid (U < T) := by unfold Hid; omega
              have hTU : (T : Int) < 4294967296 := by have := HS32.out; omega
              clear hT q3 hU hA1
              go_wp2_with fail
              refine ⟨⟨j + 1, hlt2, by rw [hnext.out, par_nat], ?_, trivial⟩, ?_⟩
              · rw [HT.out]
              · have := HT3.out
                simp [intOf]; omega
            · obtain rfl : j = S := by omega
              have HRP : Hid (rpar t nl = x) := by unfold Hid; rw [HR.out, HAA.out]
              have HRS : Hid (rst t nl = t1) := by
                unfold Hid
                rw [HR2.out, HRP.out, if_neg (by omega)]
              obtain rfl : T = 0 := by omega
              clear hT q3 hA1 hk63 hm0 hmk q1 q2 hA0 hlt2 hkp
              have HDS := Lib.hid (HDI1.out.step HNB.out)
              have HSM : Hid (decN (C - (k + 1)) (getE t1) (nl ++ [dnode t nl]) = decA l) := by
                unfold Hid
                have := HSM1.out
                rw [show C - k = (C - (k + 1)) + 1 by omega, decN_step _ _ HNB.out, HRS.out] at this
                exact this
              rw [HRS.out] at HDS
              have HDN : Hid (dnode t nl = ⟨getV t1, (x : Int), getV_full _⟩) := by unfold Hid dnode; simp only [HRP.out, HRS.out]
              have HK1 : Hid (k ≤ 1000001) := by unfold Hid; have := HDI1.out.most; have := HLE.out; have := HLN.out; omega
              obtain ⟨Y, hY⟩ : ∃ Y, wr.heap.size = Y := ⟨_, rfl⟩
              have HYX : Hid (X ≠ Y) := by unfold Hid; rw [← hY]; have := heap_lt G3.out.blk; omega
              have HYV : Hid (∀ g, (Value.slice (some ⟨b, off, none⟩) k cc).ownBlock = some g → g ≠ Y) := fun g hg => by rw [← hY]; have := (G3.out.row.lt g hg).2; omega
              have HYW : Hid (w.heap.size ≤ Y) := by rw [← hY]; exact G3.out.seen.size
              obtain ⟨V, hV⟩ : ∃ V, V = wr.alloc (.cells (ndl zeroN).toArray 51) := ⟨_, rfl⟩
              have HZ : Hid (Hn V Y zeroN) := by rw [hV, ← hY]; exact hn_new wr zeroN
              have HVS : Hid (∀ w2, Turns Y V w2 → FS w a0 n0 c0 l X (Value.slice (some ⟨b, off, none⟩) k cc) k nl t1 a2 N2 c2 w2) := by rw [hV, ← hY]; exact fun w2 h2 => G3.out.fresh h2
              obtain ⟨bE, hbE⟩ : ∃ bE, (getE t1).bad = bE := ⟨_, rfl⟩
              have HBE := Lib.hid hbE
              obtain ⟨SV, hSV⟩ : ∃ SV, getV t1 = SV := ⟨_, rfl⟩
              have HSV := Lib.hid hSV
              have HFU : Hid (Full SV) := by rw [← hSV]; exact getV_full _
              clear hbE hSV
              go_upto_region 18 with (first
                | (refine wpList_buildP rfl (.tmp 46) rfl (x : Int) rfl ?_)
                | (rw [zeroN_lit, ← hV]; clear hV; refine wpList_storeN rfl (.tmp 10) (.tmp 47) rfl Y zeroN ⟨zeroS, (x : Int), zero_full⟩ rfl rfl HZ.out ?_; clear HZ; intro w4 h4 t4; have R4 := Lib.hid (And.intro h4 (HVS.out w4 t4)); clear h4 t4
                   obtain ⟨x0, x1, xf, xl⟩ := cells2 R4.out.2.blk)
                | (go_at_call 37; refine (refFrom_any (R4.out.2.at R0.out)).mono ?_; rintro _ w5 ⟨a5, N5, c5, rfl, hs5, hr5⟩; rw [HBE.out, HSV.out]; have R5 := Lib.hid (And.intro (R4.out.1.seen hs5) (And.intro (R4.out.2.next hs5) hr5)); clear hs5 hr5 x0 x1 xf xl)
                | (refine wpList_storeC rfl 47 (.tmp 53) (.tmp 51) rfl Y 0 (stl SV) rfl rfl (by rw [HFU.out.len]; exact info27) (stl_one SV) R5.out.1 (by rw [HFU.out.len, ndl_length]; omega) (cs' := ndl ⟨SV, (x : Int), HFU.out⟩) ?_ ?_
                   focus
                     have := setsL_mid [] (stl zeroS) [.int .i64 (x : Int)] (stl SV) (by rw [HFU.out.len, zero_full.len])
                     simpa [ndl] using this
                   intro w6 h6 t6
                   have R6 := Lib.hid (And.intro (show Hn w6 Y ⟨SV, (x : Int), HFU.out⟩ from h6) (R5.out.2.1.other t6 HYW.out HYX.out HYV.out)); clear h6 t6
                   obtain ⟨x0, x1, xf, xl⟩ := cells2 R6.out.2.blk))
              obtain ⟨W7, hW7⟩ : ∃ W7, W7 = (w6.setCell ⟨X, 0, none⟩ (.slice a5 N5 c5)).setCell ⟨X, 1, none⟩ (.bool bE) := ⟨_, rfl⟩
              rw [← hW7]
              have G7 : Hid (FS w a0 n0 c0 l X (Value.slice (some ⟨b, off, none⟩) k cc) k nl (getE t1) a5 N5 c5 W7) := by
                have := R6.out.2.put R5.out.2.2
                rw [HBE.out, ← hW7] at this
                exact this
              have N7 : Hid (Hn W7 Y (dnode t nl)) := by
                unfold Hid
                rw [hW7]
                have e : dnode t nl = ⟨SV, (x : Int), HFU.out⟩ := by rw [HDN.out]; simp only [HSV.out]
                rw [e]
                have r1 : (w6.setCell ⟨X, 0, none⟩ (.slice a5 N5 c5)).heap[Y]? = some (.cells (ndl ⟨SV, (x : Int), HFU.out⟩).toArray 51) := hso R6.out.1 (Ne.symm HYX.out)
                exact hso r1 (Ne.symm HYX.out)
              clear hW7 x0 x1 xf xl R6 R5 R4
              obtain ⟨x0, x1, xf, xl⟩ := cells2 G7.out.blk
              rw [HBE.out] at x1
              cases bE with
              | true =>
                go_wp2_with fail
                go_ret2
                have hno : fromOk l = false := from_no (by rw [← HSM.out, decN_bad _ _ HBE.out]; exact HBE.out)
                rw [hno]
                exact ⟨_, rfl, G7.out.seen, fun h => by cases h⟩
              | false =>
                have hku : (k : Int) + 1 < 18446744073709551616 := by have := HC32.out; omega
                go_wp2_with (first
                  | (refine wpList_loadN rfl (.tmp 10) rfl Y 0 (dnode t nl) rfl N7.out.at ?_)
                  | (refine wpList_buildS1 rfl (.tmp 57) rfl (dnode t nl) rfl ?_)
                  | (at_builtin; refine wpList_append_rows _ rfl (.tmp 56) (.tmp 58) 22 rfl 51 i0 _ 49 384 Try.underlying22 hi hz0 hz1 hz2 (by kernel_rfl) (by decide) w.heap.size 0 (Value.slice (some ⟨b, off, none⟩) k cc) k (flatN nl) rfl (G7.out.row.alloc _) (.slice (some ⟨W7.heap.size, 0, none⟩) 1 1) 1 (flatN [dnode t nl]) rfl (new_rowN W7 (dnode t nl) 0 (Nat.zero_le _)) (flatN_one _) (by have := HK1.out; unfold maxLen; omega) (by have := HK1.out; omega) (G7.out.seen.alloc _).size ?_
                     intro v8 w8 ho8 hg8 hat8
                     have G8 : Hid (FS w a0 n0 c0 l X v8 (k + 1) (nl ++ [dnode t nl]) (getE t1) a5 N5 c5 w8) := G7.out.grow (by rw [flatN_append]; exact ho8) hg8
                     clear ho8 hg8 hat8))
                refine ⟨⟨(k + 1), getE t1, nl ++ [dnode t nl], a5, N5, c5, hlt, by go_num, G8.out, by rw [List.length_append, HLE.out]; rfl, HDS.out, HSM.out, fun h => by rw [HBE.out] at h; cases h⟩, ?_⟩
                simp [intOf]; omega
    · have hk' : ¬ (k : Int) < (C : Int) := by omega
      obtain rfl : k = C := by omega
      have hAll : Hid (decA l = (t, nl)) := by unfold Hid; rw [← HSM1.out, Nat.sub_self]; rfl
      obtain ⟨x0, x1, xf, xl⟩ := cells2 G1.out.blk
      have HNL : Hid (t.l.length = N) := (G1.out.at R0.out).bs.1
      have HOK : Hid (fromOk l = ((!t.bad && decide (N = 0)) && decide (0 < k))) := by
        unfold Hid fromOk decOk
        rw [hAll.out, HCD.out, HNL.out]
      have HEND : Hid (wr.ownsRow w.heap.size 51 49 u6 (decA l).2.length (flatN (decA l).2)) := by
        unfold Hid
        rw [hAll.out]
        show wr.ownsRow w.heap.size 51 49 u6 nl.length (flatN nl)
        rw [HLE.out]
        exact G1.out.row
      have HSE := Lib.hid G1.out.seen
      obtain ⟨bb, hbb⟩ : ∃ bb, t.bad = bb := ⟨_, rfl⟩
      rw [hbb] at x1 HOK
      clear hbb HBC1 HDI1 HSM1 hAll G1 HNL
      have key : Hid (∀ ok, ok = fromOk l → ∃ v, Ending.returned (.tuple #[u6, .bool ok]) = .returned (.tuple #[v, .bool (fromOk l)]) ∧ Seen w wr ∧ (fromOk l = true → wr.ownsRow w.heap.size 51 49 v (decA l).2.length (flatN (decA l).2))) := fun ok hk => by
        rw [hk]; exact ⟨u6, rfl, HSE.out, fun _ => HEND.out⟩
      cases bb with
      | true =>
        go_wp2_with fail
        go_ret2
        exact key.out _ (by rw [HOK.out]; rfl)
      | false =>
        rcases Nat.eq_zero_or_pos N with hN0 | hN0
        · subst hN0
          rcases Nat.eq_zero_or_pos k with hk0 | hk0
          · subst hk0
            go_wp2_with fail
            go_ret2
            exact key.out _ (by rw [HOK.out]; rfl)
          · have hkp : (k : Int) > 0 := by omega
            go_wp2_with fail
            go_ret2
            exact key.out _ (by rw [HOK.out]; simp; omega)
        · have hNn : ((N : Int) == 0) = false := by simp; omega
          go_wp2_with fail
          go_ret2
          exact key.out _ (by rw [HOK.out]; simp; omega)
end Go.Proofs.Ythphmhcgnkoigaa
