/- Texts of the proof, merged: FR4. -/
import Derived.Test.YtngeaigkafamiaaGreatM25
namespace Go.Proofs.YtngeaigkafamiaaGreat
open Go.ChangeShapes Go.WideShapes Go.ChangeAt Go.RowKit
set_option maxRecDepth 100000
set_option maxHeartbeats 16000000 in
theorem inside_any {l : List Nd} {w0 : World} {b off N cp k : Nat} (hf : FormedT l) (hN : N ≤ 1000) (hNS : NS w0 (some ⟨b, off, none⟩) N l) (hB : RBoxOK l w0 (some ⟨b, off, none⟩) N cp k) (n : Nat) (hn : n < N) (hk : N - (n + 1) ≤ k) (x : Int) (h : Sz) (ot ob fl : Bool)
    (hr : rngB ⟨x, h, (styAt l n).rtl⟩ = true) (W : World) (hs : Seen w0 W) :
    Calls Tryz.prog 29 #[.slice (some ⟨b, off, none⟩) N cp, .int .i64 n, .int .i64 (-1), .int .i64 x, .agg #[.bool h.au, .int .i64 h.n], .bool ot, .bool ob] W (RInAns l k (flowV l n) ⟨x, h, (styAt l n).rtl⟩ ⟨ot, ob, fl⟩ W) := by
  have hlen : l.length = N := hNS.1
  have hnl : n < l.length := by omega
  have HLN := Lib.hid hlen
  have HFT := Lib.hid hf
  have HSW := Lib.hid hs
  have HMD : Hid (∀ w', Seen w0 w' → ∀ t : Nat, t < N → Calls Tryz.prog 21 #[.slice (some ⟨b, off, none⟩) N cp, .int .i64 t] w' fun e w'' => e = .returned (.bool (madeB l t)) ∧ w'' = w') := fun w' h' t ht => by
    have := refMade_any (some ⟨b, off, none⟩) N cp l t w' (hNS.seen h') hf (by omega)
    rw [inB_nat (by omega), Bool.true_and] at this
    exact this
  have HOD : Hid (∀ w', Seen w0 w' → ∀ t : Nat, t < N → Calls Tryz.prog 55 #[.slice (some ⟨b, off, none⟩) N cp, .int .i64 t] w' fun e w'' => e = .returned (.bool (outB l t)) ∧ w'' = w') := fun w' h' t ht => by
    have := refOut_any (some ⟨b, off, none⟩) N cp l t w' (hNS.seen h') hf (by omega)
    rw [inB_nat (by omega), Bool.true_and] at this
    exact this
  obtain ⟨b', off', e0, hats⟩ := hNS.ats (by omega)
  cases e0
  have HAT := Lib.hid hats
  have HRT : Hid (w0.cell? ⟨b, off + n * 49 + 42, none⟩ = some (.bool (styAt l n).rtl)) := by
    have := (hats n hn).sty 42 (.bool (nd l n).s.rtl) ((stl_tail (nd l n).full (j := 0)).trans rfl)
    rw [show (nd l n).s = styAt l n by unfold styAt; rw [inB_nat hnl]; rfl] at this
    exact this
  obtain ⟨rt, hrt⟩ : ∃ q, (styAt l n).rtl = q := ⟨_, rfl⟩
  rw [hrt] at hr HRT ⊢
  have HBX : Hid (∀ t : Nat, n < t → t < N → madeB l t = true → ∀ W', Seen w0 W' → Calls Tryz.prog 8 #[.slice (some ⟨b, off, none⟩) N cp, .int .i64 (t : Int), .int .i64 x, .agg #[.bool h.au, .int .i64 h.n], .bool rt] W' (RAns l k t ⟨x, h, rt⟩ W')) := fun t h1 h2 h3 W' h' => hB t h2 (by omega) h3 x h rt hr W' h'
  have HPL : Hid (∀ t : Nat, t < l.length → (nd l t).p = n → n < t) := fun t h1 h2 => by have := (par_lt hf h1).2; omega
  have HCH : Hid (∀ t : Nat, t < N → (kidB l n t && flowF l t) = true → ∃ r, flowV l n = flowTo l n t ++ (t : Int) :: r) := fun t h1 h2 => by
    obtain ⟨r, hr⟩ := flow_split h2 (N - (t + 1))
    exact ⟨r, by rw [flowV_to hnl, hlen, ← hr]; congr 1; omega⟩
  have HTO : Hid (∀ (t : Nat) (bs : List Bo), t < N → (kidB l n t && flowF l t) = true → boxesO (boxO l k) ⟨x, h, rt⟩ (flowTo l n t) = some bs → n + 1 + tot bs ≤ t) := fun t bs h1 h2 h3 => by
    obtain ⟨r, hr⟩ := HCH.out t h1 h2
    have hc := flow_chain hf hnl
    rw [hr] at hc
    exact chain_tot (small_box hf k) hc h3 t rfl
  have HMAY := Lib.hid (fun w => may_any x h rt w)
  rw [hr] at HMAY
  have HFV : Hid (flowV l n = flowTo l n N) := by unfold Hid; rw [flowV_to hnl, hlen]
  obtain ⟨cI, hcI⟩ : ∃ q : Ct, q = ⟨x, h, rt⟩ := ⟨_, rfl⟩
  rw [← hcI] at HBX HTO ⊢
  have HCI := Lib.hid hcI
  obtain ⟨ha, hh⟩ := h
  simp only at HBX HMAY
  clear hlen hf hs hNS hats hrt hB hk hr hcI
  have hn' : (n : Int) < (N : Int) := by omega
  obtain ⟨W1, hW1⟩ : ∃ q, q = (W.alloc (.cells #[.bool ha, .int .i64 hh] 58)).alloc (.cells #[.slice none 0 0, .slice none 0 0, .int .i64 0, .int .i64 0, .int .i64 0, .int .i64 0, .int .i64 0, .bool false, .int .i64 0] 55) := ⟨_, rfl⟩
  have KH := Lib.hid (show Blk W1 W.heap.size [.bool ha, .int .i64 hh] 58 by rw [hW1]; exact (Blk.new W _ _).alloc _)
  have KR := Lib.hid (show Blk W1 (W.heap.size + 1) (layl (.slice none 0 0) (.slice none 0 0) zPi 0) 55 by rw [hW1]; simpa using zl_blk (W.alloc (.cells #[.bool ha, .int .i64 hh] 58)))
  have SA : Hid (Seen W W1) := by rw [hW1]; exact ((Seen.refl W).alloc _).alloc _
  have c0 := KH.out.rules2 W1 (Seen.refl W1)
  go_enter Tryz.func29, Tryz.ntmps29
  go_upto_region 1 with fail
  rw [← hW1]
  clear hW1
  go_upto_region 3 with (go_at_call 22; refine (HMAY.out _).mono ?_; clear HMAY c0; rintro e w1 ⟨rfl, hb⟩; have SB := Lib.hid (show Seen W1 w1 from hb); clear hb)
  go_upto_region 4 with fail
  obtain ⟨W2, hW2⟩ : ∃ q, q = w1.alloc (.cells #[.slice none 0 0, .slice none 0 0, .int .i64 0, .int .i64 0, .int .i64 0, .int .i64 0, .int .i64 0, .bool false, .int .i64 0] 55) := ⟨_, rfl⟩
  have KO := Lib.hid (show Blk W2 w1.heap.size (layl (.slice none 0 0) (.slice none 0 0) zPi 0) 55 by rw [hW2]; exact zl_blk w1)
  have SC : Hid (Seen w1 W2) := by rw [hW2]; exact (Seen.refl w1).alloc _
  rw [← hW2]
  clear hW2
  have RJ0 : Hid (RJ w1 w1.heap.size W2 (.slice none 0 0) [] (.slice none 0 0) [] (.slice none 0 0) []) := ⟨SC.out, KO.out, GR.nil _ _, GR.nil _ _, GR.nil _ _⟩
  have KH1 := Lib.hid (KH.out.seen SB.out)
  have KR1 := Lib.hid (KR.out.seen SB.out)
  have S01 := Lib.hid (SA.out.trans SB.out)
  have gXR : W.heap.size + 1 < w1.heap.size := KR1.out.lt
  clear KH KR SA SB KO SC
  obtain ⟨XO, hXO⟩ : ∃ q, w1.heap.size = q := ⟨_, rfl⟩
  have HXO := Lib.hid hXO
  rw [hXO] at RJ0 gXR ⊢
  clear hXO
  go_wp2_with fail
  go_loopw [17, 18, 35] (fun u q i wr => ∃ (t : Nat) (bs : List Bo) (v : Value), i = .int .i64 t ∧ t ≤ N ∧ Hid (boxesO (boxO l k) cI (flowTo l n t) = some bs ∧ True) ∧ RJ w1 XO wr v (layB (flowTo l n t) bs) u (bs.map fun z => z.f.ch) q (plc 0 bs)) (fun _ _ i _ => N - (intOf i).toNat)
  case atStart => exact ⟨0, [], _, rfl, by omega, ⟨rfl, trivial⟩, RJ0.out⟩
  case round =>
    obtain ⟨t, bs, v, rfl, ht, HBS, hrj⟩ := hrel
    have RJR := Lib.hid hrj
    clear hrj RJ0
    by_cases hlt : t < N
    · have ht' : (t : Int) < (N : Int) := by omega
      have HLT := Lib.hid hlt
      have S1R := Lib.hid (HSW.out.trans (S01.out.trans RJR.out.seen))
      have HM1 := Lib.hid (HMD.out _ S1R.out t hlt)
      have HO1 := Lib.hid (HOD.out _ S1R.out t hlt)
      have cpar := ((HAT.out t hlt).seen S1R.out).par
      have HPT : Hid ((nd l t).p = n → n < t) := HPL.out t (by have := HLN.out; omega)
      have HKB : Hid (kidB l n t = (decide (0 < t) && ((nd l t).p == (n : Int)))) := rfl
      have HFF : Hid (flowF l t = (madeB l t && !outB l t)) := rfl
      obtain ⟨PP, hPP⟩ : ∃ q, (nd l t).p = q := ⟨_, rfl⟩
      rw [hPP] at cpar HKB HPT
      clear hPP
      obtain ⟨A, hA⟩ : ∃ q, madeB l (t : Int) = q := ⟨_, rfl⟩
      obtain ⟨O, hO⟩ : ∃ q, outB l (t : Int) = q := ⟨_, rfl⟩
      have HMA := Lib.hid hA
      rw [hA] at HM1 HFF
      rw [hO] at HO1 HFF
      clear hA hO HAT HMD HOD
      rcases Nat.eq_zero_or_pos t with h0 | h0
      · subst h0
        have HSK : Hid (flowTo l n (0 + 1) = flowTo l n 0) := flowTo_skip (by rw [HKB.out]; rfl)
        clear HM1 HO1 HFF HKB
        go_wp2_with fail
        go_roundw
        case rel => exact ⟨0 + 1, bs, v, by go_num, by omega, by rw [HSK.out]; exact HBS, by rw [HSK.out]; exact RJR.out⟩
        case measure => simp [intOf]; omega
      · have hk0 : ((t : Int) == 0) = false := by simp; omega
        have hkm : ((t : Int) != -1) = true := by simp
        have ek : Hid (decide (0 < t) = true) := decide_eq_true h0
        rw [ek.out, Bool.true_and] at HKB
        cases hq : (PP == (n : Int))
        · have hqn : (PP != (n : Int)) = true := by simpa using hq
          rw [hq] at HKB
          have HSK : Hid (flowTo l n (t + 1) = flowTo l n t) := flowTo_skip (by rw [HKB.out]; rfl)
          clear HM1 HO1 HFF HKB hq
          go_wp2_with fail
          go_roundw
          case rel => exact ⟨t + 1, bs, v, by go_num, by omega, by rw [HSK.out]; exact HBS, by rw [HSK.out]; exact RJR.out⟩
          case measure => simp [intOf]; omega
        · have hqn : (PP != (n : Int)) = false := by simpa using hq
          have hPn : PP = (n : Int) := by simpa using hq
          rw [hq] at HKB
          have HNT := Lib.hid (HPT.out hPn)
          clear hq hPn HPT
          cases A
          · have HSK : Hid (flowTo l n (t + 1) = flowTo l n t) := flowTo_skip (by rw [HKB.out, HFF.out]; rfl)
            clear HO1 HFF HKB
            go_wp2_with (go_at_call 21; refine HM1.out.mono ?_; clear HM1; rintro e w3 ⟨rfl, hw⟩; rw [hw]; clear hw)
            go_roundw
            case rel => exact ⟨t + 1, bs, v, by go_num, by omega, by rw [HSK.out]; exact HBS, by rw [HSK.out]; exact RJR.out⟩
            case measure => simp [intOf]; omega
          · cases O
            · have HTK : Hid (flowTo l n (t + 1) = flowTo l n t ++ [(t : Int)]) := flowTo_take (by rw [HKB.out, HFF.out]; rfl)
              have HRS : Hid (∃ r, flowV l n = flowTo l n t ++ (t : Int) :: r) := HCH.out t HLT.out (by rw [HKB.out, HFF.out]; rfl)
              have HTB := Lib.hid (HTO.out t bs HLT.out (by rw [HKB.out, HFF.out]; rfl) HBS.out.1)
              have KHR := Lib.hid (KH1.out.seen RJR.out.seen)
              have HRTR := Lib.hid (S1R.out.cell HRT.out)
              clear HFF HKB
              go_upto_region 10 with (first | (go_at_call 21; refine HM1.out.mono ?_; clear HM1; rintro e w3 ⟨rfl, hw⟩; rw [hw]; clear hw) | (go_at_call 55; refine HO1.out.mono ?_; clear HO1; rintro e w3 ⟨rfl, hw⟩; rw [hw]; clear hw))
              go_cut [20, 21, 22] (fun u20 u21 u22 wx => (∃ XF XI F va vn vc ra rm rc Pq hi ok bl, u20 = .pointer (some ⟨XF, 0, none⟩) ∧ u21 = .pointer (some ⟨XI, 0, none⟩) ∧ u22 = .bool ok ∧ wr.heap.size ≤ XF ∧ wr.heap.size ≤ XI ∧ XF ≠ XI ∧ Blk wx XF (frl F) 50 ∧ Blk wx XI (layl (.slice va vn vc) (.slice ra rm rc) Pq hi) 55 ∧ Seen wr wx ∧ GR pdl 116 26 wx wr.heap.size (.slice va vn vc) bl ∧ ((boxO l k t cI = none ∧ ok = false) ∨ (∃ b, boxO l k t cI = some b ∧ ok = true ∧ F = b.f ∧ bl = b.l))) : Value → Value → Value → World → Prop)
              case first =>
                have acc0 : Seen wr wr.drew := (Seen.refl wr).drew
                clear HBS HTK HRS HTB RJR KH1 KR1 cpar HFV HCH HTO HPL HFT S01 HRT
                refine wp_region_held_drew (S := fun w' => Seen wr w') (by kernel_rfl) acc0 (fun _ => ?_)
                refine ZT 0 (some 66) (.slice (some ⟨b, off, none⟩) N cp) acc0 ?_
                simp only [Z1,Z2,Z3,Z4]
                refine ZT 1 (some 67) (.int .i64 (t : Int)) acc0 ?_
                simp only [Z1,Z2,Z3,Z4]
                refine ZT 2 (some 68) (.int .i64 x) acc0 ?_
                simp only [Z1,Z2,Z3,Z4]
                refine ZU 3 (some 69) (.agg #[.bool ha, .int .i64 hh]) (fun _ hS => run_by (Instr.loadAt 58 (.pointer (some ⟨W.heap.size, 0, none⟩))) (by kernel_rfl) (rda58 (vs := [.bool ha, .int .i64 hh]) ((KHR.out.seen hS).mid 0 2) rfl)) acc0 ?_
                simp only [Z1,Z2,Z3,Z4]
                refine ZT 4 (some 70) (.slice (some ⟨b, off, none⟩) N cp) acc0 ?_
                simp only [Z1,Z2,Z3,Z4]
                refine ZT 5 (some 71) (.int .i64 (n : Int)) acc0 ?_
                simp only [Z1,Z2,Z3,Z4]
                refine ZU 6 (some 72) (.pointer (some ⟨b, off + n * 49, none⟩)) (fun _ hS => run_by (Instr.indexAt 22 (.slice (some ⟨b, off, none⟩) N cp) (.int .i64 (n : Int))) (by kernel_rfl) (run_index22 b off n N cp hn _)) acc0 ?_
                simp only [Z1,Z2,Z3,Z4]
                refine ZT 7 (some 73) (.pointer (some ⟨b, off + n * 49, none⟩)) acc0 ?_
                simp only [Z1,Z2,Z3,Z4]
                refine ZT 8 (some 74) (.pointer (some ⟨b, off + n * 49 + 42, none⟩)) acc0 ?_
                simp only [Z1,Z2,Z3,Z4]
                refine ZU 9 (some 75) (.bool rt) (fun _ hS => run_by (Instr.loadAt 4 (.pointer (some ⟨b, off + n * 49 + 42, none⟩))) (by kernel_rfl) (rd4 (hS.cell HRTR.out))) acc0 ?_
                simp only [Z1,Z2,Z3,Z4]
                refine wpAnyH_ready (rs := [10, 15, 16]) (by kernel_rfl) (by simp) ?_
                refine aCall 10 (some 76) 8 #[.slice (some ⟨b, off, none⟩) N cp, .int .i64 (t : Int), .int .i64 x, .agg #[.bool ha, .int .i64 hh], .bool rt] (by kernel_rfl) (by kernel_rfl) (by kernel_rfl) (by kernel_rfl) ?_ ?_
                · refine (HBX.out t HNT.out HLT.out HMA.out wr.drew (S1R.out.trans acc0)).mono ?_
                  rintro e wd1 hra
                  obtain ⟨hb, F, va, vn, vc, ra, rm, rc, Pq, hi, ok, bl, rfl, hgr, hor⟩ := hra.form
                  have acc1 : Seen wr wd1 := Seen.next acc0 hb
                  have gr1 : GR pdl 116 26 wd1 wr.heap.size (.slice va vn vc) bl := row_more hgr (Below.size acc0)
                  clear hb hgr
                  refine ⟨_, rfl, acc1, ?_⟩
                  simp only [Z1,Z2,Z3,Z4]
                  refine ZT 11 (some 65) (.tuple #[frv F, layv (.slice va vn vc) (.slice ra rm rc) Pq hi, .bool ok]) acc1 ?_
                  simp only [Z1,Z2,Z3,Z4]
                  refine ZT 12 (some 77) (frv F) acc1 ?_
                  simp only [Z1,Z2,Z3,Z4]
                  refine ZT 13 (some 78) (layv (.slice va vn vc) (.slice ra rm rc) Pq hi) acc1 ?_
                  simp only [Z1,Z2,Z3,Z4]
                  refine ZT 14 (some 79) (.bool ok) acc1 ?_
                  simp only [Z1,Z2,Z3,Z4]
                  refine wpAnyH_ready (rs := [15, 16]) (by kernel_rfl) (by simp) ?_
                  refine aRun 15 (some 20) (.pointer (some ⟨wd1.heap.size, 0, none⟩)) (by kernel_rfl) (by kernel_rfl) (by kernel_rfl) (by kernel_rfl) (show Seen wr (wd1.alloc (.cells #[.int .i64 0, .int .i64 0, .int .i64 0, .int .i64 0, .int .i64 0, .int .i64 0, .int .i64 0, .int .i64 0, .int .i64 0, .int .i64 0, .int .i64 0, .int .i64 0, .int .i64 0, .int .i64 0, .int .i64 0, .int .i64 0, .bool false, .int .i64 0, .int .i64 0, .int .i64 0, .int .i64 0, .int .i64 0, .int .i64 0, .bool false, .int .i64 0] 50)) from Seen.alloc acc1 _) ?_ ?_
                  · obtain ⟨wm2, hm2⟩ : ∃ q, q = wd1.alloc (.cells #[.int .i64 0, .int .i64 0, .int .i64 0, .int .i64 0, .int .i64 0, .int .i64 0, .int .i64 0, .int .i64 0, .int .i64 0, .int .i64 0, .int .i64 0, .int .i64 0, .int .i64 0, .int .i64 0, .int .i64 0, .int .i64 0, .bool false, .int .i64 0, .int .i64 0, .int .i64 0, .int .i64 0, .int .i64 0, .int .i64 0, .bool false, .int .i64 0] 50) := ⟨_, rfl⟩
                    rw [← hm2]
                    have acc2 : Seen wr wm2 := by rw [hm2]; exact Seen.alloc acc1 _
                    have ss2 : Seen wd1 wm2 := by rw [hm2]; exact (Seen.refl _).alloc _
                    have kF2 : Blk wm2 wd1.heap.size (frl zFr) 50 := by rw [hm2]; exact fr_blk _
                    have kFg : wr.heap.size ≤ wd1.heap.size := Below.size acc1
                    clear hm2
                    have gr2 := GR.seen gr1 ss2
                    simp only [Z1,Z2,Z3,Z4]
                    refine hRun 16 (some 21) (.pointer (some ⟨wm2.heap.size, 0, none⟩)) (by kernel_rfl) (by kernel_rfl) (by kernel_rfl) (by kernel_rfl) (by kernel_rfl) (show Seen wr (wm2.alloc (.cells #[.slice none 0 0, .slice none 0 0, .int .i64 0, .int .i64 0, .int .i64 0, .int .i64 0, .int .i64 0, .bool false, .int .i64 0] 55)) from Seen.alloc acc2 _) ?_
                    obtain ⟨wm3, hm3⟩ : ∃ q, q = wm2.alloc (.cells #[.slice none 0 0, .slice none 0 0, .int .i64 0, .int .i64 0, .int .i64 0, .int .i64 0, .int .i64 0, .bool false, .int .i64 0] 55) := ⟨_, rfl⟩
                    rw [← hm3]
                    have acc3 : Seen wr wm3 := by rw [hm3]; exact Seen.alloc acc2 _
                    have ss3 : Seen wm2 wm3 := by rw [hm3]; exact (Seen.refl _).alloc _
                    have kI3 : Blk wm3 wm2.heap.size (layl (.slice none 0 0) (.slice none 0 0) zPi 0) 55 := by rw [hm3]; exact zl_blk _
                    have kIg : wr.heap.size ≤ wm2.heap.size := Below.size acc2
                    clear hm3
                    have kF3 := Blk.seen kF2 ss3
                    have hlt3 : wd1.heap.size < wm2.heap.size := Blk.lt kF2
                    have gr3 := GR.seen gr2 ss3
                    simp only [Z1,Z2,Z3,Z4]
                    refine ZK 17 none (run_skip_by (Instr.storeAt 50 (.pointer (some ⟨wd1.heap.size, 0, none⟩)) (frv F)) (by kernel_rfl) (wr50 (vs := frl F) kF3 rfl (Nat.le_refl _) (frl_one F))) ((Seen.turns acc3 (turns_sets _ (wd1.heap.size) 0 (frl F)) kFg)) ?_
                    simp only [Act.put]
                    refine ZK 18 none (run_skip_by (Instr.storeAt 55 (.pointer (some ⟨wm2.heap.size, 0, none⟩)) (layv (.slice va vn vc) (.slice ra rm rc) Pq hi)) (by kernel_rfl) (wr55 (vs := layl (.slice va vn vc) (.slice ra rm rc) Pq hi) (Blk.turns kI3 (turns_sets _ (wd1.heap.size) 0 (frl F)) (by omega)) rfl (Nat.le_refl _) (layl_one (oneSl _ _ _) (oneSl _ _ _) Pq hi))) ((Seen.turns (Seen.turns acc3 (turns_sets _ (wd1.heap.size) 0 (frl F)) kFg) (turns_sets _ (wm2.heap.size) 0 (layl (.slice va vn vc) (.slice ra rm rc) Pq hi)) kIg)) ?_
                    simp only [Act.put]
                    refine ZT 19 (some 22) (.bool ok) (Seen.turns (Seen.turns acc3 (turns_sets _ (wd1.heap.size) 0 (frl F)) kFg) (turns_sets _ (wm2.heap.size) 0 (layl (.slice va vn vc) (.slice ra rm rc) Pq hi)) kIg) ?_
                    simp only [Z1,Z2,Z3,Z4]
                    refine wpAnyH_done (by kernel_rfl) ?_ _
                    have z1 := (Blk.turns (block_sets kF3 0 (frl F) (sets_all (frl zFr) (frl F) rfl)) (turns_sets _ (wm2.heap.size) 0 (layl (.slice va vn vc) (.slice ra rm rc) Pq hi)) (by omega))
                    have z2 := (block_sets (Blk.turns kI3 (turns_sets _ (wd1.heap.size) 0 (frl F)) (by omega)) 0 (layl (.slice va vn vc) (.slice ra rm rc) Pq hi) (sets_all (layl (.slice none 0 0) (.slice none 0 0) zPi 0) (layl (.slice va vn vc) (.slice ra rm rc) Pq hi) rfl))
                    have z3 := (Seen.turns (Seen.turns acc3 (turns_sets _ (wd1.heap.size) 0 (frl F)) kFg) (turns_sets _ (wm2.heap.size) 0 (layl (.slice va vn vc) (.slice ra rm rc) Pq hi)) kIg)
                    have z4 := (gr_turns (gr_turns gr3 kF3 (by decide) (turns_sets _ (wd1.heap.size) 0 (frl F))) (Blk.turns kI3 (turns_sets _ (wd1.heap.size) 0 (frl F)) (by omega)) (by decide) (turns_sets _ (wm2.heap.size) 0 (layl (.slice va vn vc) (.slice ra rm rc) Pq hi)))
                    go_wp2_with fail
                    go_meet
                    exact ⟨_, _, F, va, vn, vc, ra, rm, rc, Pq, hi, ok, bl, rfl, rfl, rfl, kFg, kIg, by omega, z1, z2, z3, z4, hor⟩
                  refine aRun 16 (some 21) (.pointer (some ⟨wd1.heap.size, 0, none⟩)) (by kernel_rfl) (by kernel_rfl) (by kernel_rfl) (by kernel_rfl) (show Seen wr (wd1.alloc (.cells #[.slice none 0 0, .slice none 0 0, .int .i64 0, .int .i64 0, .int .i64 0, .int .i64 0, .int .i64 0, .bool false, .int .i64 0] 55)) from Seen.alloc acc1 _) ?_ ?_
                  · obtain ⟨wm2, hm2⟩ : ∃ q, q = wd1.alloc (.cells #[.slice none 0 0, .slice none 0 0, .int .i64 0, .int .i64 0, .int .i64 0, .int .i64 0, .int .i64 0, .bool false, .int .i64 0] 55) := ⟨_, rfl⟩
                    rw [← hm2]
                    have acc2 : Seen wr wm2 := by rw [hm2]; exact Seen.alloc acc1 _
                    have ss2 : Seen wd1 wm2 := by rw [hm2]; exact (Seen.refl _).alloc _
                    have kI2 : Blk wm2 wd1.heap.size (layl (.slice none 0 0) (.slice none 0 0) zPi 0) 55 := by rw [hm2]; exact zl_blk _
                    have kIg : wr.heap.size ≤ wd1.heap.size := Below.size acc1
                    clear hm2
                    have gr2 := GR.seen gr1 ss2
                    simp only [Z1,Z2,Z3,Z4]
                    refine hRun 15 (some 20) (.pointer (some ⟨wm2.heap.size, 0, none⟩)) (by kernel_rfl) (by kernel_rfl) (by kernel_rfl) (by kernel_rfl) (by kernel_rfl) (show Seen wr (wm2.alloc (.cells #[.int .i64 0, .int .i64 0, .int .i64 0, .int .i64 0, .int .i64 0, .int .i64 0, .int .i64 0, .int .i64 0, .int .i64 0, .int .i64 0, .int .i64 0, .int .i64 0, .int .i64 0, .int .i64 0, .int .i64 0, .int .i64 0, .bool false, .int .i64 0, .int .i64 0, .int .i64 0, .int .i64 0, .int .i64 0, .int .i64 0, .bool false, .int .i64 0] 50)) from Seen.alloc acc2 _) ?_
                    obtain ⟨wm3, hm3⟩ : ∃ q, q = wm2.alloc (.cells #[.int .i64 0, .int .i64 0, .int .i64 0, .int .i64 0, .int .i64 0, .int .i64 0, .int .i64 0, .int .i64 0, .int .i64 0, .int .i64 0, .int .i64 0, .int .i64 0, .int .i64 0, .int .i64 0, .int .i64 0, .int .i64 0, .bool false, .int .i64 0, .int .i64 0, .int .i64 0, .int .i64 0, .int .i64 0, .int .i64 0, .bool false, .int .i64 0] 50) := ⟨_, rfl⟩
                    rw [← hm3]
                    have acc3 : Seen wr wm3 := by rw [hm3]; exact Seen.alloc acc2 _
                    have ss3 : Seen wm2 wm3 := by rw [hm3]; exact (Seen.refl _).alloc _
                    have kF3 : Blk wm3 wm2.heap.size (frl zFr) 50 := by rw [hm3]; exact fr_blk _
                    have kFg : wr.heap.size ≤ wm2.heap.size := Below.size acc2
                    clear hm3
                    have kI3 := Blk.seen kI2 ss3
                    have hlt3 : wd1.heap.size < wm2.heap.size := Blk.lt kI2
                    have gr3 := GR.seen gr2 ss3
                    simp only [Z1,Z2,Z3,Z4]
                    refine ZK 17 none (run_skip_by (Instr.storeAt 50 (.pointer (some ⟨wm2.heap.size, 0, none⟩)) (frv F)) (by kernel_rfl) (wr50 (vs := frl F) kF3 rfl (Nat.le_refl _) (frl_one F))) ((Seen.turns acc3 (turns_sets _ (wm2.heap.size) 0 (frl F)) kFg)) ?_
                    simp only [Act.put]
                    refine ZK 18 none (run_skip_by (Instr.storeAt 55 (.pointer (some ⟨wd1.heap.size, 0, none⟩)) (layv (.slice va vn vc) (.slice ra rm rc) Pq hi)) (by kernel_rfl) (wr55 (vs := layl (.slice va vn vc) (.slice ra rm rc) Pq hi) (Blk.turns kI3 (turns_sets _ (wm2.heap.size) 0 (frl F)) (by omega)) rfl (Nat.le_refl _) (layl_one (oneSl _ _ _) (oneSl _ _ _) Pq hi))) ((Seen.turns (Seen.turns acc3 (turns_sets _ (wm2.heap.size) 0 (frl F)) kFg) (turns_sets _ (wd1.heap.size) 0 (layl (.slice va vn vc) (.slice ra rm rc) Pq hi)) kIg)) ?_
                    simp only [Act.put]
                    refine ZT 19 (some 22) (.bool ok) (Seen.turns (Seen.turns acc3 (turns_sets _ (wm2.heap.size) 0 (frl F)) kFg) (turns_sets _ (wd1.heap.size) 0 (layl (.slice va vn vc) (.slice ra rm rc) Pq hi)) kIg) ?_
                    simp only [Z1,Z2,Z3,Z4]
                    refine wpAnyH_done (by kernel_rfl) ?_ _
                    have z1 := (Blk.turns (block_sets kF3 0 (frl F) (sets_all (frl zFr) (frl F) rfl)) (turns_sets _ (wd1.heap.size) 0 (layl (.slice va vn vc) (.slice ra rm rc) Pq hi)) (by omega))
                    have z2 := (block_sets (Blk.turns kI3 (turns_sets _ (wm2.heap.size) 0 (frl F)) (by omega)) 0 (layl (.slice va vn vc) (.slice ra rm rc) Pq hi) (sets_all (layl (.slice none 0 0) (.slice none 0 0) zPi 0) (layl (.slice va vn vc) (.slice ra rm rc) Pq hi) rfl))
                    have z3 := (Seen.turns (Seen.turns acc3 (turns_sets _ (wm2.heap.size) 0 (frl F)) kFg) (turns_sets _ (wd1.heap.size) 0 (layl (.slice va vn vc) (.slice ra rm rc) Pq hi)) kIg)
                    have z4 := (gr_turns (gr_turns gr3 kF3 (by decide) (turns_sets _ (wm2.heap.size) 0 (frl F))) (Blk.turns kI3 (turns_sets _ (wm2.heap.size) 0 (frl F)) (by omega)) (by decide) (turns_sets _ (wd1.heap.size) 0 (layl (.slice va vn vc) (.slice ra rm rc) Pq hi)))
                    go_wp2_with fail
                    go_meet
                    exact ⟨_, _, F, va, vn, vc, ra, rm, rc, Pq, hi, ok, bl, rfl, rfl, rfl, kFg, kIg, by omega, z1, z2, z3, z4, hor⟩
                  exact AllReadyH.nil
                refine aRun 15 (some 20) (.pointer (some ⟨wr.drew.heap.size, 0, none⟩)) (by kernel_rfl) (by kernel_rfl) (by kernel_rfl) (by kernel_rfl) (show Seen wr (wr.drew.alloc (.cells #[.int .i64 0, .int .i64 0, .int .i64 0, .int .i64 0, .int .i64 0, .int .i64 0, .int .i64 0, .int .i64 0, .int .i64 0, .int .i64 0, .int .i64 0, .int .i64 0, .int .i64 0, .int .i64 0, .int .i64 0, .int .i64 0, .bool false, .int .i64 0, .int .i64 0, .int .i64 0, .int .i64 0, .int .i64 0, .int .i64 0, .bool false, .int .i64 0] 50)) from Seen.alloc acc0 _) ?_ ?_
                · obtain ⟨wm1, hm1⟩ : ∃ q, q = wr.drew.alloc (.cells #[.int .i64 0, .int .i64 0, .int .i64 0, .int .i64 0, .int .i64 0, .int .i64 0, .int .i64 0, .int .i64 0, .int .i64 0, .int .i64 0, .int .i64 0, .int .i64 0, .int .i64 0, .int .i64 0, .int .i64 0, .int .i64 0, .bool false, .int .i64 0, .int .i64 0, .int .i64 0, .int .i64 0, .int .i64 0, .int .i64 0, .bool false, .int .i64 0] 50) := ⟨_, rfl⟩
                  rw [← hm1]
                  have acc1 : Seen wr wm1 := by rw [hm1]; exact Seen.alloc acc0 _
                  have ss1 : Seen wr.drew wm1 := by rw [hm1]; exact (Seen.refl _).alloc _
                  have kF1 : Blk wm1 wr.drew.heap.size (frl zFr) 50 := by rw [hm1]; exact fr_blk _
                  have kFg : wr.heap.size ≤ wr.drew.heap.size := Below.size acc0
                  clear hm1
                  simp only [Z1,Z2,Z3,Z4]
                  refine wpAnyH_ready (rs := [10, 16]) (by kernel_rfl) (by simp) ?_
                  refine aCall 10 (some 76) 8 #[.slice (some ⟨b, off, none⟩) N cp, .int .i64 (t : Int), .int .i64 x, .agg #[.bool ha, .int .i64 hh], .bool rt] (by kernel_rfl) (by kernel_rfl) (by kernel_rfl) (by kernel_rfl) ?_ ?_
                  · refine (HBX.out t HNT.out HLT.out HMA.out wm1 (S1R.out.trans acc1)).mono ?_
                    rintro e wd2 hra
                    obtain ⟨hb, F, va, vn, vc, ra, rm, rc, Pq, hi, ok, bl, rfl, hgr, hor⟩ := hra.form
                    have acc2 : Seen wr wd2 := Seen.next acc1 hb
                    have gr2 : GR pdl 116 26 wd2 wr.heap.size (.slice va vn vc) bl := row_more hgr (Below.size acc1)
                    have kF2 := Blk.seen kF1 hb
                    clear hb hgr
                    refine ⟨_, rfl, acc2, ?_⟩
                    simp only [Z1,Z2,Z3,Z4]
                    refine ZT 11 (some 65) (.tuple #[frv F, layv (.slice va vn vc) (.slice ra rm rc) Pq hi, .bool ok]) acc2 ?_
                    simp only [Z1,Z2,Z3,Z4]
                    refine ZT 12 (some 77) (frv F) acc2 ?_
                    simp only [Z1,Z2,Z3,Z4]
                    refine ZT 13 (some 78) (layv (.slice va vn vc) (.slice ra rm rc) Pq hi) acc2 ?_
                    simp only [Z1,Z2,Z3,Z4]
                    refine ZT 14 (some 79) (.bool ok) acc2 ?_
                    simp only [Z1,Z2,Z3,Z4]
                    refine hRun 16 (some 21) (.pointer (some ⟨wd2.heap.size, 0, none⟩)) (by kernel_rfl) (by kernel_rfl) (by kernel_rfl) (by kernel_rfl) (by kernel_rfl) (show Seen wr (wd2.alloc (.cells #[.slice none 0 0, .slice none 0 0, .int .i64 0, .int .i64 0, .int .i64 0, .int .i64 0, .int .i64 0, .bool false, .int .i64 0] 55)) from Seen.alloc acc2 _) ?_
                    obtain ⟨wm3, hm3⟩ : ∃ q, q = wd2.alloc (.cells #[.slice none 0 0, .slice none 0 0, .int .i64 0, .int .i64 0, .int .i64 0, .int .i64 0, .int .i64 0, .bool false, .int .i64 0] 55) := ⟨_, rfl⟩
                    rw [← hm3]
                    have acc3 : Seen wr wm3 := by rw [hm3]; exact Seen.alloc acc2 _
                    have ss3 : Seen wd2 wm3 := by rw [hm3]; exact (Seen.refl _).alloc _
                    have kI3 : Blk wm3 wd2.heap.size (layl (.slice none 0 0) (.slice none 0 0) zPi 0) 55 := by rw [hm3]; exact zl_blk _
                    have kIg : wr.heap.size ≤ wd2.heap.size := Below.size acc2
                    clear hm3
                    have kF3 := Blk.seen kF2 ss3
                    have hlt3 : wr.drew.heap.size < wd2.heap.size := Blk.lt kF2
                    have gr3 := GR.seen gr2 ss3
                    simp only [Z1,Z2,Z3,Z4]
                    refine ZK 17 none (run_skip_by (Instr.storeAt 50 (.pointer (some ⟨wr.drew.heap.size, 0, none⟩)) (frv F)) (by kernel_rfl) (wr50 (vs := frl F) kF3 rfl (Nat.le_refl _) (frl_one F))) ((Seen.turns acc3 (turns_sets _ (wr.drew.heap.size) 0 (frl F)) kFg)) ?_
                    simp only [Act.put]
                    refine ZK 18 none (run_skip_by (Instr.storeAt 55 (.pointer (some ⟨wd2.heap.size, 0, none⟩)) (layv (.slice va vn vc) (.slice ra rm rc) Pq hi)) (by kernel_rfl) (wr55 (vs := layl (.slice va vn vc) (.slice ra rm rc) Pq hi) (Blk.turns kI3 (turns_sets _ (wr.drew.heap.size) 0 (frl F)) (by omega)) rfl (Nat.le_refl _) (layl_one (oneSl _ _ _) (oneSl _ _ _) Pq hi))) ((Seen.turns (Seen.turns acc3 (turns_sets _ (wr.drew.heap.size) 0 (frl F)) kFg) (turns_sets _ (wd2.heap.size) 0 (layl (.slice va vn vc) (.slice ra rm rc) Pq hi)) kIg)) ?_
                    simp only [Act.put]
                    refine ZT 19 (some 22) (.bool ok) (Seen.turns (Seen.turns acc3 (turns_sets _ (wr.drew.heap.size) 0 (frl F)) kFg) (turns_sets _ (wd2.heap.size) 0 (layl (.slice va vn vc) (.slice ra rm rc) Pq hi)) kIg) ?_
                    simp only [Z1,Z2,Z3,Z4]
                    refine wpAnyH_done (by kernel_rfl) ?_ _
                    have z1 := (Blk.turns (block_sets kF3 0 (frl F) (sets_all (frl zFr) (frl F) rfl)) (turns_sets _ (wd2.heap.size) 0 (layl (.slice va vn vc) (.slice ra rm rc) Pq hi)) (by omega))
                    have z2 := (block_sets (Blk.turns kI3 (turns_sets _ (wr.drew.heap.size) 0 (frl F)) (by omega)) 0 (layl (.slice va vn vc) (.slice ra rm rc) Pq hi) (sets_all (layl (.slice none 0 0) (.slice none 0 0) zPi 0) (layl (.slice va vn vc) (.slice ra rm rc) Pq hi) rfl))
                    have z3 := (Seen.turns (Seen.turns acc3 (turns_sets _ (wr.drew.heap.size) 0 (frl F)) kFg) (turns_sets _ (wd2.heap.size) 0 (layl (.slice va vn vc) (.slice ra rm rc) Pq hi)) kIg)
                    have z4 := (gr_turns (gr_turns gr3 kF3 (by decide) (turns_sets _ (wr.drew.heap.size) 0 (frl F))) (Blk.turns kI3 (turns_sets _ (wr.drew.heap.size) 0 (frl F)) (by omega)) (by decide) (turns_sets _ (wd2.heap.size) 0 (layl (.slice va vn vc) (.slice ra rm rc) Pq hi)))
                    go_wp2_with fail
                    go_meet
                    exact ⟨_, _, F, va, vn, vc, ra, rm, rc, Pq, hi, ok, bl, rfl, rfl, rfl, kFg, kIg, by omega, z1, z2, z3, z4, hor⟩
                  refine aRun 16 (some 21) (.pointer (some ⟨wm1.heap.size, 0, none⟩)) (by kernel_rfl) (by kernel_rfl) (by kernel_rfl) (by kernel_rfl) (show Seen wr (wm1.alloc (.cells #[.slice none 0 0, .slice none 0 0, .int .i64 0, .int .i64 0, .int .i64 0, .int .i64 0, .int .i64 0, .bool false, .int .i64 0] 55)) from Seen.alloc acc1 _) ?_ ?_
                  · obtain ⟨wm2, hm2⟩ : ∃ q, q = wm1.alloc (.cells #[.slice none 0 0, .slice none 0 0, .int .i64 0, .int .i64 0, .int .i64 0, .int .i64 0, .int .i64 0, .bool false, .int .i64 0] 55) := ⟨_, rfl⟩
                    rw [← hm2]
                    have acc2 : Seen wr wm2 := by rw [hm2]; exact Seen.alloc acc1 _
                    have ss2 : Seen wm1 wm2 := by rw [hm2]; exact (Seen.refl _).alloc _
                    have kI2 : Blk wm2 wm1.heap.size (layl (.slice none 0 0) (.slice none 0 0) zPi 0) 55 := by rw [hm2]; exact zl_blk _
                    have kIg : wr.heap.size ≤ wm1.heap.size := Below.size acc1
                    clear hm2
                    have kF2 := Blk.seen kF1 ss2
                    have hlt2 : wr.drew.heap.size < wm1.heap.size := Blk.lt kF1
                    simp only [Z1,Z2,Z3,Z4]
                    refine ZC 10 (some 76) 8 #[.slice (some ⟨b, off, none⟩) N cp, .int .i64 (t : Int), .int .i64 x, .agg #[.bool ha, .int .i64 hh], .bool rt] ?_
                    refine (HBX.out t HNT.out HLT.out HMA.out wm2 (S1R.out.trans acc2)).mono ?_
                    rintro e wd3 hra
                    obtain ⟨hb, F, va, vn, vc, ra, rm, rc, Pq, hi, ok, bl, rfl, hgr, hor⟩ := hra.form
                    have acc3 : Seen wr wd3 := Seen.next acc2 hb
                    have gr3 : GR pdl 116 26 wd3 wr.heap.size (.slice va vn vc) bl := row_more hgr (Below.size acc2)
                    have kF3 := Blk.seen kF2 hb
                    have kI3 := Blk.seen kI2 hb
                    clear hb hgr
                    refine ⟨_, rfl, acc3, ?_⟩
                    simp only [Z1,Z2,Z3,Z4]
                    refine ZT 11 (some 65) (.tuple #[frv F, layv (.slice va vn vc) (.slice ra rm rc) Pq hi, .bool ok]) acc3 ?_
                    simp only [Z1,Z2,Z3,Z4]
                    refine ZT 12 (some 77) (frv F) acc3 ?_
                    simp only [Z1,Z2,Z3,Z4]
                    refine ZT 13 (some 78) (layv (.slice va vn vc) (.slice ra rm rc) Pq hi) acc3 ?_
                    simp only [Z1,Z2,Z3,Z4]
                    refine ZT 14 (some 79) (.bool ok) acc3 ?_
                    simp only [Z1,Z2,Z3,Z4]
                    refine ZK 17 none (run_skip_by (Instr.storeAt 50 (.pointer (some ⟨wr.drew.heap.size, 0, none⟩)) (frv F)) (by kernel_rfl) (wr50 (vs := frl F) kF3 rfl (Nat.le_refl _) (frl_one F))) ((Seen.turns acc3 (turns_sets _ (wr.drew.heap.size) 0 (frl F)) kFg)) ?_
                    simp only [Act.put]
                    refine ZK 18 none (run_skip_by (Instr.storeAt 55 (.pointer (some ⟨wm1.heap.size, 0, none⟩)) (layv (.slice va vn vc) (.slice ra rm rc) Pq hi)) (by kernel_rfl) (wr55 (vs := layl (.slice va vn vc) (.slice ra rm rc) Pq hi) (Blk.turns kI3 (turns_sets _ (wr.drew.heap.size) 0 (frl F)) (by omega)) rfl (Nat.le_refl _) (layl_one (oneSl _ _ _) (oneSl _ _ _) Pq hi))) ((Seen.turns (Seen.turns acc3 (turns_sets _ (wr.drew.heap.size) 0 (frl F)) kFg) (turns_sets _ (wm1.heap.size) 0 (layl (.slice va vn vc) (.slice ra rm rc) Pq hi)) kIg)) ?_
                    simp only [Act.put]
                    refine ZT 19 (some 22) (.bool ok) (Seen.turns (Seen.turns acc3 (turns_sets _ (wr.drew.heap.size) 0 (frl F)) kFg) (turns_sets _ (wm1.heap.size) 0 (layl (.slice va vn vc) (.slice ra rm rc) Pq hi)) kIg) ?_
                    simp only [Z1,Z2,Z3,Z4]
                    refine wpAnyH_done (by kernel_rfl) ?_ _
                    have z1 := (Blk.turns (block_sets kF3 0 (frl F) (sets_all (frl zFr) (frl F) rfl)) (turns_sets _ (wm1.heap.size) 0 (layl (.slice va vn vc) (.slice ra rm rc) Pq hi)) (by omega))
                    have z2 := (block_sets (Blk.turns kI3 (turns_sets _ (wr.drew.heap.size) 0 (frl F)) (by omega)) 0 (layl (.slice va vn vc) (.slice ra rm rc) Pq hi) (sets_all (layl (.slice none 0 0) (.slice none 0 0) zPi 0) (layl (.slice va vn vc) (.slice ra rm rc) Pq hi) rfl))
                    have z3 := (Seen.turns (Seen.turns acc3 (turns_sets _ (wr.drew.heap.size) 0 (frl F)) kFg) (turns_sets _ (wm1.heap.size) 0 (layl (.slice va vn vc) (.slice ra rm rc) Pq hi)) kIg)
                    have z4 := (gr_turns (gr_turns gr3 kF3 (by decide) (turns_sets _ (wr.drew.heap.size) 0 (frl F))) (Blk.turns kI3 (turns_sets _ (wr.drew.heap.size) 0 (frl F)) (by omega)) (by decide) (turns_sets _ (wm1.heap.size) 0 (layl (.slice va vn vc) (.slice ra rm rc) Pq hi)))
                    go_wp2_with fail
                    go_meet
                    exact ⟨_, _, F, va, vn, vc, ra, rm, rc, Pq, hi, ok, bl, rfl, rfl, rfl, kFg, kIg, by omega, z1, z2, z3, z4, hor⟩
                  exact AllReadyH.nil
                refine aRun 16 (some 21) (.pointer (some ⟨wr.drew.heap.size, 0, none⟩)) (by kernel_rfl) (by kernel_rfl) (by kernel_rfl) (by kernel_rfl) (show Seen wr (wr.drew.alloc (.cells #[.slice none 0 0, .slice none 0 0, .int .i64 0, .int .i64 0, .int .i64 0, .int .i64 0, .int .i64 0, .bool false, .int .i64 0] 55)) from Seen.alloc acc0 _) ?_ ?_
                · obtain ⟨wm1, hm1⟩ : ∃ q, q = wr.drew.alloc (.cells #[.slice none 0 0, .slice none 0 0, .int .i64 0, .int .i64 0, .int .i64 0, .int .i64 0, .int .i64 0, .bool false, .int .i64 0] 55) := ⟨_, rfl⟩
                  rw [← hm1]
                  have acc1 : Seen wr wm1 := by rw [hm1]; exact Seen.alloc acc0 _
                  have ss1 : Seen wr.drew wm1 := by rw [hm1]; exact (Seen.refl _).alloc _
                  have kI1 : Blk wm1 wr.drew.heap.size (layl (.slice none 0 0) (.slice none 0 0) zPi 0) 55 := by rw [hm1]; exact zl_blk _
                  have kIg : wr.heap.size ≤ wr.drew.heap.size := Below.size acc0
                  clear hm1
                  simp only [Z1,Z2,Z3,Z4]
                  refine wpAnyH_ready (rs := [10, 15]) (by kernel_rfl) (by simp) ?_
                  refine aCall 10 (some 76) 8 #[.slice (some ⟨b, off, none⟩) N cp, .int .i64 (t : Int), .int .i64 x, .agg #[.bool ha, .int .i64 hh], .bool rt] (by kernel_rfl) (by kernel_rfl) (by kernel_rfl) (by kernel_rfl) ?_ ?_
                  · refine (HBX.out t HNT.out HLT.out HMA.out wm1 (S1R.out.trans acc1)).mono ?_
                    rintro e wd2 hra
                    obtain ⟨hb, F, va, vn, vc, ra, rm, rc, Pq, hi, ok, bl, rfl, hgr, hor⟩ := hra.form
                    have acc2 : Seen wr wd2 := Seen.next acc1 hb
                    have gr2 : GR pdl 116 26 wd2 wr.heap.size (.slice va vn vc) bl := row_more hgr (Below.size acc1)
                    have kI2 := Blk.seen kI1 hb
                    clear hb hgr
                    refine ⟨_, rfl, acc2, ?_⟩
                    simp only [Z1,Z2,Z3,Z4]
                    refine ZT 11 (some 65) (.tuple #[frv F, layv (.slice va vn vc) (.slice ra rm rc) Pq hi, .bool ok]) acc2 ?_
                    simp only [Z1,Z2,Z3,Z4]
                    refine ZT 12 (some 77) (frv F) acc2 ?_
                    simp only [Z1,Z2,Z3,Z4]
                    refine ZT 13 (some 78) (layv (.slice va vn vc) (.slice ra rm rc) Pq hi) acc2 ?_
                    simp only [Z1,Z2,Z3,Z4]
                    refine ZT 14 (some 79) (.bool ok) acc2 ?_
                    simp only [Z1,Z2,Z3,Z4]
                    refine hRun 15 (some 20) (.pointer (some ⟨wd2.heap.size, 0, none⟩)) (by kernel_rfl) (by kernel_rfl) (by kernel_rfl) (by kernel_rfl) (by kernel_rfl) (show Seen wr (wd2.alloc (.cells #[.int .i64 0, .int .i64 0, .int .i64 0, .int .i64 0, .int .i64 0, .int .i64 0, .int .i64 0, .int .i64 0, .int .i64 0, .int .i64 0, .int .i64 0, .int .i64 0, .int .i64 0, .int .i64 0, .int .i64 0, .int .i64 0, .bool false, .int .i64 0, .int .i64 0, .int .i64 0, .int .i64 0, .int .i64 0, .int .i64 0, .bool false, .int .i64 0] 50)) from Seen.alloc acc2 _) ?_
                    obtain ⟨wm3, hm3⟩ : ∃ q, q = wd2.alloc (.cells #[.int .i64 0, .int .i64 0, .int .i64 0, .int .i64 0, .int .i64 0, .int .i64 0, .int .i64 0, .int .i64 0, .int .i64 0, .int .i64 0, .int .i64 0, .int .i64 0, .int .i64 0, .int .i64 0, .int .i64 0, .int .i64 0, .bool false, .int .i64 0, .int .i64 0, .int .i64 0, .int .i64 0, .int .i64 0, .int .i64 0, .bool false, .int .i64 0] 50) := ⟨_, rfl⟩
                    rw [← hm3]
                    have acc3 : Seen wr wm3 := by rw [hm3]; exact Seen.alloc acc2 _
                    have ss3 : Seen wd2 wm3 := by rw [hm3]; exact (Seen.refl _).alloc _
                    have kF3 : Blk wm3 wd2.heap.size (frl zFr) 50 := by rw [hm3]; exact fr_blk _
                    have kFg : wr.heap.size ≤ wd2.heap.size := Below.size acc2
                    clear hm3
                    have kI3 := Blk.seen kI2 ss3
                    have hlt3 : wr.drew.heap.size < wd2.heap.size := Blk.lt kI2
                    have gr3 := GR.seen gr2 ss3
                    simp only [Z1,Z2,Z3,Z4]
                    refine ZK 17 none (run_skip_by (Instr.storeAt 50 (.pointer (some ⟨wd2.heap.size, 0, none⟩)) (frv F)) (by kernel_rfl) (wr50 (vs := frl F) kF3 rfl (Nat.le_refl _) (frl_one F))) ((Seen.turns acc3 (turns_sets _ (wd2.heap.size) 0 (frl F)) kFg)) ?_
                    simp only [Act.put]
                    refine ZK 18 none (run_skip_by (Instr.storeAt 55 (.pointer (some ⟨wr.drew.heap.size, 0, none⟩)) (layv (.slice va vn vc) (.slice ra rm rc) Pq hi)) (by kernel_rfl) (wr55 (vs := layl (.slice va vn vc) (.slice ra rm rc) Pq hi) (Blk.turns kI3 (turns_sets _ (wd2.heap.size) 0 (frl F)) (by omega)) rfl (Nat.le_refl _) (layl_one (oneSl _ _ _) (oneSl _ _ _) Pq hi))) ((Seen.turns (Seen.turns acc3 (turns_sets _ (wd2.heap.size) 0 (frl F)) kFg) (turns_sets _ (wr.drew.heap.size) 0 (layl (.slice va vn vc) (.slice ra rm rc) Pq hi)) kIg)) ?_
                    simp only [Act.put]
                    refine ZT 19 (some 22) (.bool ok) (Seen.turns (Seen.turns acc3 (turns_sets _ (wd2.heap.size) 0 (frl F)) kFg) (turns_sets _ (wr.drew.heap.size) 0 (layl (.slice va vn vc) (.slice ra rm rc) Pq hi)) kIg) ?_
                    simp only [Z1,Z2,Z3,Z4]
                    refine wpAnyH_done (by kernel_rfl) ?_ _
                    have z1 := (Blk.turns (block_sets kF3 0 (frl F) (sets_all (frl zFr) (frl F) rfl)) (turns_sets _ (wr.drew.heap.size) 0 (layl (.slice va vn vc) (.slice ra rm rc) Pq hi)) (by omega))
                    have z2 := (block_sets (Blk.turns kI3 (turns_sets _ (wd2.heap.size) 0 (frl F)) (by omega)) 0 (layl (.slice va vn vc) (.slice ra rm rc) Pq hi) (sets_all (layl (.slice none 0 0) (.slice none 0 0) zPi 0) (layl (.slice va vn vc) (.slice ra rm rc) Pq hi) rfl))
                    have z3 := (Seen.turns (Seen.turns acc3 (turns_sets _ (wd2.heap.size) 0 (frl F)) kFg) (turns_sets _ (wr.drew.heap.size) 0 (layl (.slice va vn vc) (.slice ra rm rc) Pq hi)) kIg)
                    have z4 := (gr_turns (gr_turns gr3 kF3 (by decide) (turns_sets _ (wd2.heap.size) 0 (frl F))) (Blk.turns kI3 (turns_sets _ (wd2.heap.size) 0 (frl F)) (by omega)) (by decide) (turns_sets _ (wr.drew.heap.size) 0 (layl (.slice va vn vc) (.slice ra rm rc) Pq hi)))
                    go_wp2_with fail
                    go_meet
                    exact ⟨_, _, F, va, vn, vc, ra, rm, rc, Pq, hi, ok, bl, rfl, rfl, rfl, kFg, kIg, by omega, z1, z2, z3, z4, hor⟩
                  refine aRun 15 (some 20) (.pointer (some ⟨wm1.heap.size, 0, none⟩)) (by kernel_rfl) (by kernel_rfl) (by kernel_rfl) (by kernel_rfl) (show Seen wr (wm1.alloc (.cells #[.int .i64 0, .int .i64 0, .int .i64 0, .int .i64 0, .int .i64 0, .int .i64 0, .int .i64 0, .int .i64 0, .int .i64 0, .int .i64 0, .int .i64 0, .int .i64 0, .int .i64 0, .int .i64 0, .int .i64 0, .int .i64 0, .bool false, .int .i64 0, .int .i64 0, .int .i64 0, .int .i64 0, .int .i64 0, .int .i64 0, .bool false, .int .i64 0] 50)) from Seen.alloc acc1 _) ?_ ?_
                  · obtain ⟨wm2, hm2⟩ : ∃ q, q = wm1.alloc (.cells #[.int .i64 0, .int .i64 0, .int .i64 0, .int .i64 0, .int .i64 0, .int .i64 0, .int .i64 0, .int .i64 0, .int .i64 0, .int .i64 0, .int .i64 0, .int .i64 0, .int .i64 0, .int .i64 0, .int .i64 0, .int .i64 0, .bool false, .int .i64 0, .int .i64 0, .int .i64 0, .int .i64 0, .int .i64 0, .int .i64 0, .bool false, .int .i64 0] 50) := ⟨_, rfl⟩
                    rw [← hm2]
                    have acc2 : Seen wr wm2 := by rw [hm2]; exact Seen.alloc acc1 _
                    have ss2 : Seen wm1 wm2 := by rw [hm2]; exact (Seen.refl _).alloc _
                    have kF2 : Blk wm2 wm1.heap.size (frl zFr) 50 := by rw [hm2]; exact fr_blk _
                    have kFg : wr.heap.size ≤ wm1.heap.size := Below.size acc1
                    clear hm2
                    have kI2 := Blk.seen kI1 ss2
                    have hlt2 : wr.drew.heap.size < wm1.heap.size := Blk.lt kI1
                    simp only [Z1,Z2,Z3,Z4]
                    refine ZC 10 (some 76) 8 #[.slice (some ⟨b, off, none⟩) N cp, .int .i64 (t : Int), .int .i64 x, .agg #[.bool ha, .int .i64 hh], .bool rt] ?_
                    refine (HBX.out t HNT.out HLT.out HMA.out wm2 (S1R.out.trans acc2)).mono ?_
                    rintro e wd3 hra
                    obtain ⟨hb, F, va, vn, vc, ra, rm, rc, Pq, hi, ok, bl, rfl, hgr, hor⟩ := hra.form
                    have acc3 : Seen wr wd3 := Seen.next acc2 hb
                    have gr3 : GR pdl 116 26 wd3 wr.heap.size (.slice va vn vc) bl := row_more hgr (Below.size acc2)
                    have kF3 := Blk.seen kF2 hb
                    have kI3 := Blk.seen kI2 hb
                    clear hb hgr
                    refine ⟨_, rfl, acc3, ?_⟩
                    simp only [Z1,Z2,Z3,Z4]
                    refine ZT 11 (some 65) (.tuple #[frv F, layv (.slice va vn vc) (.slice ra rm rc) Pq hi, .bool ok]) acc3 ?_
                    simp only [Z1,Z2,Z3,Z4]
                    refine ZT 12 (some 77) (frv F) acc3 ?_
                    simp only [Z1,Z2,Z3,Z4]
                    refine ZT 13 (some 78) (layv (.slice va vn vc) (.slice ra rm rc) Pq hi) acc3 ?_
                    simp only [Z1,Z2,Z3,Z4]
                    refine ZT 14 (some 79) (.bool ok) acc3 ?_
                    simp only [Z1,Z2,Z3,Z4]
                    refine ZK 17 none (run_skip_by (Instr.storeAt 50 (.pointer (some ⟨wm1.heap.size, 0, none⟩)) (frv F)) (by kernel_rfl) (wr50 (vs := frl F) kF3 rfl (Nat.le_refl _) (frl_one F))) ((Seen.turns acc3 (turns_sets _ (wm1.heap.size) 0 (frl F)) kFg)) ?_
                    simp only [Act.put]
                    refine ZK 18 none (run_skip_by (Instr.storeAt 55 (.pointer (some ⟨wr.drew.heap.size, 0, none⟩)) (layv (.slice va vn vc) (.slice ra rm rc) Pq hi)) (by kernel_rfl) (wr55 (vs := layl (.slice va vn vc) (.slice ra rm rc) Pq hi) (Blk.turns kI3 (turns_sets _ (wm1.heap.size) 0 (frl F)) (by omega)) rfl (Nat.le_refl _) (layl_one (oneSl _ _ _) (oneSl _ _ _) Pq hi))) ((Seen.turns (Seen.turns acc3 (turns_sets _ (wm1.heap.size) 0 (frl F)) kFg) (turns_sets _ (wr.drew.heap.size) 0 (layl (.slice va vn vc) (.slice ra rm rc) Pq hi)) kIg)) ?_
                    simp only [Act.put]
                    refine ZT 19 (some 22) (.bool ok) (Seen.turns (Seen.turns acc3 (turns_sets _ (wm1.heap.size) 0 (frl F)) kFg) (turns_sets _ (wr.drew.heap.size) 0 (layl (.slice va vn vc) (.slice ra rm rc) Pq hi)) kIg) ?_
                    simp only [Z1,Z2,Z3,Z4]
                    refine wpAnyH_done (by kernel_rfl) ?_ _
                    have z1 := (Blk.turns (block_sets kF3 0 (frl F) (sets_all (frl zFr) (frl F) rfl)) (turns_sets _ (wr.drew.heap.size) 0 (layl (.slice va vn vc) (.slice ra rm rc) Pq hi)) (by omega))
                    have z2 := (block_sets (Blk.turns kI3 (turns_sets _ (wm1.heap.size) 0 (frl F)) (by omega)) 0 (layl (.slice va vn vc) (.slice ra rm rc) Pq hi) (sets_all (layl (.slice none 0 0) (.slice none 0 0) zPi 0) (layl (.slice va vn vc) (.slice ra rm rc) Pq hi) rfl))
                    have z3 := (Seen.turns (Seen.turns acc3 (turns_sets _ (wm1.heap.size) 0 (frl F)) kFg) (turns_sets _ (wr.drew.heap.size) 0 (layl (.slice va vn vc) (.slice ra rm rc) Pq hi)) kIg)
                    have z4 := (gr_turns (gr_turns gr3 kF3 (by decide) (turns_sets _ (wm1.heap.size) 0 (frl F))) (Blk.turns kI3 (turns_sets _ (wm1.heap.size) 0 (frl F)) (by omega)) (by decide) (turns_sets _ (wr.drew.heap.size) 0 (layl (.slice va vn vc) (.slice ra rm rc) Pq hi)))
                    go_wp2_with fail
                    go_meet
                    exact ⟨_, _, F, va, vn, vc, ra, rm, rc, Pq, hi, ok, bl, rfl, rfl, rfl, kFg, kIg, by omega, z1, z2, z3, z4, hor⟩
                  exact AllReadyH.nil
                exact AllReadyH.nil
              obtain ⟨XF, XI, F, va, vn, vc, ra, rm, rc, Pq, hi, ok, bl, rfl, rfl, rfl, gF, gI, hFI, kF, kI, s10, gr, hor⟩ := hcut
              cases ok
              · have HNO : Hid (contO (boxO l k) (flowV l n) cI ⟨ot, ob, fl⟩ = none) := by
                  obtain ⟨r, hr⟩ := HRS.out
                  have hnn : boxO l k t cI = none := by
                    rcases hor with ⟨h1, _⟩ | ⟨_, _, h1, _⟩
                    · exact h1
                    · cases h1
                  unfold Hid contO
                  rw [hr, boxesO_stop HBS.out.1 hnn]
                have KRC := Lib.hid (KR1.out.seen (RJR.out.seen.trans s10))
                have SEE := Lib.hid (S01.out.trans (RJR.out.seen.trans s10))
                clear HBS HTK HRS HTB hor gr kF kI s10 RJR HBX KH1 KR1
                go_wp2_with (have gg := KRC.out; clear gg; refine wpList_storeLr rfl (.tmp 14) (.tmp 82) rfl (W.heap.size + 1) (layl (.slice none 0 0) (.slice none 0 0) zPi 0) (.slice none 0 0) (.slice none 0 0) rfl rfl zPi 0 rfl rfl rfl KRC.out ?_; clear KRC; intro wz bz tz)
                refine bodyPost_ret (results_two rfl rfl rfl (run_loadLr bz)) rfl ?_
                exact ⟨SEE.out.turns tz (by omega), .inl ⟨HNO.out, _, _, _, _, rfl, rfl, rfl⟩⟩
              · obtain ⟨b0, hb0, hF, hbl⟩ : ∃ b, boxO l k t cI = some b ∧ F = b.f ∧ bl = b.l := by
                  rcases hor with ⟨_, h1⟩ | ⟨b, h1, _, h2, h3⟩
                  · cases h1
                  · exact ⟨b, h1, h2, h3⟩
                have HB0 := Lib.hid hb0
                have HFB := Lib.hid (And.intro hF hbl)
                clear hor hb0 hF hbl HRS
                obtain ⟨va0, vc0, rfl, -, -⟩ := RJR.out.row.slice pdl_length zPd
                obtain ⟨ps, hps⟩ : ∃ q, layB (flowTo l n t) bs = q := ⟨_, rfl⟩
                have HPS := Lib.hid hps
                rw [hps] at RJR
                clear hps
                obtain ⟨PL, hPL⟩ : ∃ q, ps.length = q := ⟨_, rfl⟩
                rw [hPL] at RJR
                have HPL2 := Lib.hid hPL
                clear hPL
                have hPLb : PL ≤ 1000 := by
                  have h1 := HTB.out
                  have h2 : (layB (flowTo l n t) bs).length = tot bs := layB_length (boxesO_len HBS.out.1).symm
                  rw [HPS.out, HPL2.out] at h2
                  omega
                have HVL : Hid (∀ g, (Value.slice va0 PL vc0).ownBlock = some g → g < wr.heap.size) := fun g hg => (RJR.out.row.lt g hg).2
                have RJC := Lib.hid (RJR.out.next s10)
                have hbsl : bs.length ≤ 1000 := by
                  have h1 := boxesO_len HBS.out.1
                  have h2 := flow_length l n t
                  omega
                have hpll : (plc 0 bs).length ≤ 1000 := by rw [plc_length]; exact hbsl
                have hchl : (bs.map fun z => z.f.ch).length ≤ 1000 := by rw [List.length_map]; exact hbsl
                obtain ⟨pl, hpl⟩ : ∃ q, plc 0 bs = q := ⟨_, rfl⟩
                obtain ⟨chs, hchs⟩ : ∃ q, (bs.map fun z => z.f.ch) = q := ⟨_, rfl⟩
                have HPC := Lib.hid (And.intro hpl hchs)
                rw [hpl] at hpll RJC RJR
                rw [hchs] at hchl RJC RJR
                clear hpl hchs
                have o3 : w1.heap.size ≤ wr.heap.size := RJR.out.seen.size
                have oXO : XO < wr.heap.size := RJR.out.blk.lt
                have gXO : w1.heap.size ≤ XO := by have := HXO.out; omega
                have hFO : XF ≠ XO := by omega
                have hIO : XI ≠ XO := by omega
                have cO : wc.cell? ⟨XO, 0, none⟩ = some (.slice va0 PL vc0) := RJC.out.blk.cell 0
                have ocb := RJC.out.seen.size
                have GRC := Lib.hid gr
                have KFC := Lib.hid kF
                have KIC := Lib.hid kI
                clear gr kF kI s10 RJR
                go_upto_region 14 with (at_builtin; refine wpList_pushM (t := 135) (e := 3) Tryz.underlying135 info3z rfl (by decide) (fun _ => rfl) encI_one (by decide) rfl (.tmp 83) (.tmp 87) rfl w1.heap.size u18 pl (PL : Int) rfl rfl RJC.out.pl (by omega) ocb ?_; intro g13 c13 w13 hp13 hg13 _; (have RJD := Lib.hid (RJC.out.pushP hg13 hp13)); (have KFD := Lib.hid (blk_grown RJC.out.pl hg13 KFC.out (by decide))); (have KID := Lib.hid (blk_grown RJC.out.pl hg13 KIC.out (by decide))); (have GRD := Lib.hid (row_grown RJC.out.pl hg13 GRC.out (by decide))); clear hp13 hg13 RJC KFC KIC GRC cO)
                go_cut [] (fun wx => (∃ va3 n3 vc3, RJ w1 XO wx (.slice va3 n3 vc3) (ps ++ (⟨(t : Int), F⟩ :: bl)) u17 chs (.slice (some ⟨g13, 0, none⟩) (pl.length + 1) c13) (pl ++ [(PL : Int)]) ∧ Blk wx XF (frl F) 50) : World → Prop)
                case first =>
                  have kF13 := KFD.out.drew
                  have kI13 := KID.out.drew
                  have gr13 : World.ownsRow w13.drew wr.heap.size 116 26 (.slice va vn vc) bl.length (bl.flatMap pdl) := row_seen GRD.out (Seen.refl w13).drew
                  have sd13 := (RJD.out.next (Seen.refl w13).drew).side
                  have row13 : World.ownsRow w13.drew w1.heap.size 116 26 (.slice va0 PL vc0) PL (ps.flatMap pdl) := by
                    have := (RJD.out.next (Seen.refl w13).drew).row
                    unfold GR at this
                    rwa [HPL2.out] at this
                  obtain ⟨i0, hi0, hz0, hz1, hz2⟩ := info_parts info116z
                  have hbll : bl.length ≤ 1000 := by
                    have h1 := small_box HFT.out k t cI b0 (by have := HLN.out; have := HLT.out; omega) HB0.out
                    have h2 := end_le (l := l) (a := t) (by have := HLN.out; have := HLT.out; omega)
                    rw [HFB.out.2]
                    have := HLN.out
                    omega
                  clear HBS HTK HTB KH1 KR1 HFV HCH HTO HPL HFT S01 HBX KFD KID GRD RJD HMA
                  refine wp_region_held_drew (S := fun w' => Blk w' XF (frl F) 50 ∧ Blk w' XI (layl (.slice va vn vc) (.slice ra rm rc) Pq hi) 55) (by kernel_rfl) ⟨kF13, kI13⟩ (fun _ => ?_)
                  refine ZT 0 (some 89) (.pointer (some ⟨XO, 0, none⟩)) ⟨kF13, kI13⟩ ?_
                  simp only [Z1,Z2,Z3,Z4]
                  refine ZT 2 (some 91) (.int .i64 (t : Int)) ⟨kF13, kI13⟩ ?_
                  simp only [Z1,Z2,Z3,Z4]
                  refine ZU 3 (some 92) (frv F) (fun _ hS => run_by (Instr.loadAt 50 (.pointer (some ⟨XF, 0, none⟩))) (by kernel_rfl) (rda50 (vs := frl F) (Blk.range hS.1) rfl)) ⟨kF13, kI13⟩ ?_
                  simp only [Z1,Z2,Z3,Z4]
                  refine ZT 4 (some 93) (.agg (pdl ⟨(t : Int), F⟩).toArray) ⟨kF13, kI13⟩ ?_
                  simp only [Z1,Z2,Z3,Z4]
                  refine ZT 7 (some 96) (.pointer (some ⟨XI, 0, none⟩)) ⟨kF13, kI13⟩ ?_
                  simp only [Z1,Z2,Z3,Z4]
                  refine ZU 8 (some 97) (.slice va vn vc) (fun _ hS => run_by (Instr.loadAt 51 (.pointer (some ⟨XI, 0, none⟩))) (by kernel_rfl) (rd51 (hS.2.cell 0))) ⟨kF13, kI13⟩ ?_
                  simp only [Z1,Z2,Z3,Z4]
                  refine wpAnyH_ready (rs := [1, 5]) (by kernel_rfl) (by simp) ?_
                  refine aRun 1 (some 90) (.slice va0 PL vc0) (by kernel_rfl) (by kernel_rfl) (by kernel_rfl) (run_by (Instr.loadAt 51 (.pointer (some ⟨XO, 0, none⟩))) (by kernel_rfl) (rd51 ((SD.blk sd13).cell 0))) (⟨kF13, kI13⟩) ?_ ?_
                  · simp only [Z1,Z2,Z3,Z4]
                    refine hRun 5 (some 94) (.slice (some ⟨w13.drew.heap.size, 0, none⟩) 1 1) (by kernel_rfl) (by kernel_rfl) (by kernel_rfl) (by kernel_rfl) (by kernel_rfl) (⟨Blk.alloc kF13 (.cells (pdl ⟨(t : Int), F⟩).toArray 116), Blk.alloc kI13 (.cells (pdl ⟨(t : Int), F⟩).toArray 116)⟩) ?_
                    have sl1 : Seen w13.drew (w13.drew.alloc (.cells (pdl ⟨(t : Int), F⟩).toArray 116)) := (Seen.refl _).alloc _
                    have sd1 := SD.next sd13 sl1
                    have kF1 := Blk.seen kF13 sl1
                    have kI1 := Blk.seen kI13 sl1
                    have gr1 := GR.seen gr13 sl1
                    have row1 := row_seen row13 sl1
                    have one1 := new_rowP w13.drew ⟨(t : Int), F⟩ w1.heap.size (Below.size (SD.seen sd13))
                    simp only [Z1,Z2,Z3,Z4]
                    obtain ⟨va2, wp2, hr2, ho2, hg2, hv2⟩ := run_append_rows (P := Tryz.prog) (w13.drew.alloc (.cells (pdl ⟨(t : Int), F⟩).toArray 116)) 51 51 116 i0 (.agg (pdl zPd).toArray) 26 208 Tryz.underlying51 hi0 hz0 hz1 hz2 rfl (by decide) w1.heap.size w1.heap.size (.slice va0 PL vc0) PL (ps.flatMap pdl) row1 (.slice (some ⟨w13.drew.heap.size, 0, none⟩) 1 1) 1 (pdl ⟨(t : Int), F⟩) one1 (pdl_one _) (by unfold maxLen; omega) (by omega) (Below.size (SD.seen sd1))
                    have sd2 := SD.grown sd1 row1 hg2
                    have kF2 := blk_grownR kF1 (by decide) row1 hg2
                    have kI2 := blk_grownR kI1 (by decide) row1 hg2
                    have gr2 := row_grownR gr1 hg2 (fun g hg' e => by have h1 := HVL.out g e; have h2 := (World.ownsRow.lt gr1 g hg').1; omega)
                    have hne2 : ∀ g, (Value.slice va vn vc).ownBlock = some g → va2.ownBlock ≠ some g := fun g hg' e => by
                      have h2 := World.ownsRow.lt gr1 g hg'
                      rcases hv2 with h3 | h3
                      · have h1 := HVL.out g (h3.symm.trans e); omega
                      · have e2 := Option.some.inj (h3.symm.trans e); omega
                    refine hRun 6 (some 95) (va2) (by kernel_rfl) (by kernel_rfl) (by kernel_rfl) (by kernel_rfl) (run_append_op (.tmp 90) (.tmp 94) (by kernel_rfl) rfl rfl hr2) ⟨kF2, kI2⟩ ?_
                    simp only [Z1,Z2,Z3,Z4]
                    obtain ⟨va3, wp3, hr3, ho3, hg3, hv3⟩ := run_append_rows (P := Tryz.prog) wp2 51 51 116 i0 (.agg (pdl zPd).toArray) 26 208 Tryz.underlying51 hi0 hz0 hz1 hz2 rfl (by decide) w1.heap.size wr.heap.size va2 (PL + 1) (ps.flatMap pdl ++ pdl ⟨(t : Int), F⟩) ho2 (.slice va vn vc) bl.length (bl.flatMap pdl) gr2 (flP_one bl) (by unfold maxLen; omega) (by omega) (Below.size (SD.seen sd2))
                    have sd3 := SD.grown sd2 ho2 hg3
                    have kF3 := blk_grownR kF2 (by decide) ho2 hg3
                    have kI3 := blk_grownR kI2 (by decide) ho2 hg3
                    have hrow3 : GR pdl 116 26 wp3 w1.heap.size va3 (ps ++ (⟨(t : Int), F⟩ :: bl)) := by unfold GR; rw [List.length_append, List.length_cons, HPL2.out, List.flatMap_append, List.flatMap_cons, ← List.append_assoc, show PL + (bl.length + 1) = PL + 1 + bl.length by omega]; exact ho3
                    obtain ⟨va3, vc3, rfl, -, -⟩ := GR.slice hrow3 pdl_length zPd
                    obtain ⟨n3, hn3⟩ : ∃ q, (ps ++ (⟨(t : Int), F⟩ :: bl)).length = q := ⟨_, rfl⟩
                    rw [hn3] at hrow3 hr3
                    try rw [hn3]
                    refine hRun 9 (some 98) (.slice va3 n3 vc3) (by kernel_rfl) (by kernel_rfl) (by kernel_rfl) (by kernel_rfl) (run_append_op (.tmp 95) (.tmp 97) (by kernel_rfl) rfl rfl hr3) ⟨kF3, kI3⟩ ?_
                    simp only [Z1,Z2,Z3,Z4]
                    refine ZT 10 (some 99) (.pointer (some ⟨XO, 0, none⟩)) ⟨kF3, kI3⟩ ?_
                    simp only [Z1,Z2,Z3,Z4]
                    refine ZK 11 none (run_skip_by (Instr.storeAt 51 (.pointer (some ⟨XO, 0, none⟩)) (.slice va3 n3 vc3)) (by kernel_rfl) (wr51 va3 n3 vc3 (SD.blk sd3) rfl)) (⟨(Blk.turns kF3 (turns_sets _ (XO) 0 [.slice va3 n3 vc3]) hFO), (Blk.turns kI3 (turns_sets _ (XO) 0 [.slice va3 n3 vc3]) hIO)⟩) ?_
                    simp only [Act.put]
                    refine wpAnyH_done (by kernel_rfl) ?_ _
                    have z1 := (SD.store sd3 gXO hrow3)
                    have z2 := (Blk.turns kF3 (turns_sets _ (XO) 0 [.slice va3 n3 vc3]) hFO)
                    go_wp2_with fail
                    go_meet
                    exact ⟨_, _, _, z1, z2⟩
                  refine aRun 5 (some 94) (.slice (some ⟨w13.drew.heap.size, 0, none⟩) 1 1) (by kernel_rfl) (by kernel_rfl) (by kernel_rfl) (by kernel_rfl) (⟨Blk.alloc kF13 (.cells (pdl ⟨(t : Int), F⟩).toArray 116), Blk.alloc kI13 (.cells (pdl ⟨(t : Int), F⟩).toArray 116)⟩) ?_ ?_
                  · have sl1 : Seen w13.drew (w13.drew.alloc (.cells (pdl ⟨(t : Int), F⟩).toArray 116)) := (Seen.refl _).alloc _
                    have sd1 := SD.next sd13 sl1
                    have kF1 := Blk.seen kF13 sl1
                    have kI1 := Blk.seen kI13 sl1
                    have gr1 := GR.seen gr13 sl1
                    have row1 := row_seen row13 sl1
                    have one1 := new_rowP w13.drew ⟨(t : Int), F⟩ w1.heap.size (Below.size (SD.seen sd13))
                    simp only [Z1,Z2,Z3,Z4]
                    refine hRun 1 (some 90) (.slice va0 PL vc0) (by kernel_rfl) (by kernel_rfl) (by kernel_rfl) (by kernel_rfl) (run_by (Instr.loadAt 51 (.pointer (some ⟨XO, 0, none⟩))) (by kernel_rfl) (rd51 ((SD.blk sd1).cell 0))) (⟨kF1, kI1⟩) ?_
                    simp only [Z1,Z2,Z3,Z4]
                    obtain ⟨va2, wp2, hr2, ho2, hg2, hv2⟩ := run_append_rows (P := Tryz.prog) (w13.drew.alloc (.cells (pdl ⟨(t : Int), F⟩).toArray 116)) 51 51 116 i0 (.agg (pdl zPd).toArray) 26 208 Tryz.underlying51 hi0 hz0 hz1 hz2 rfl (by decide) w1.heap.size w1.heap.size (.slice va0 PL vc0) PL (ps.flatMap pdl) row1 (.slice (some ⟨w13.drew.heap.size, 0, none⟩) 1 1) 1 (pdl ⟨(t : Int), F⟩) one1 (pdl_one _) (by unfold maxLen; omega) (by omega) (Below.size (SD.seen sd1))
                    have sd2 := SD.grown sd1 row1 hg2
                    have kF2 := blk_grownR kF1 (by decide) row1 hg2
                    have kI2 := blk_grownR kI1 (by decide) row1 hg2
                    have gr2 := row_grownR gr1 hg2 (fun g hg' e => by have h1 := HVL.out g e; have h2 := (World.ownsRow.lt gr1 g hg').1; omega)
                    have hne2 : ∀ g, (Value.slice va vn vc).ownBlock = some g → va2.ownBlock ≠ some g := fun g hg' e => by
                      have h2 := World.ownsRow.lt gr1 g hg'
                      rcases hv2 with h3 | h3
                      · have h1 := HVL.out g (h3.symm.trans e); omega
                      · have e2 := Option.some.inj (h3.symm.trans e); omega
                    refine hRun 6 (some 95) (va2) (by kernel_rfl) (by kernel_rfl) (by kernel_rfl) (by kernel_rfl) (run_append_op (.tmp 90) (.tmp 94) (by kernel_rfl) rfl rfl hr2) ⟨kF2, kI2⟩ ?_
                    simp only [Z1,Z2,Z3,Z4]
                    obtain ⟨va3, wp3, hr3, ho3, hg3, hv3⟩ := run_append_rows (P := Tryz.prog) wp2 51 51 116 i0 (.agg (pdl zPd).toArray) 26 208 Tryz.underlying51 hi0 hz0 hz1 hz2 rfl (by decide) w1.heap.size wr.heap.size va2 (PL + 1) (ps.flatMap pdl ++ pdl ⟨(t : Int), F⟩) ho2 (.slice va vn vc) bl.length (bl.flatMap pdl) gr2 (flP_one bl) (by unfold maxLen; omega) (by omega) (Below.size (SD.seen sd2))
                    have sd3 := SD.grown sd2 ho2 hg3
                    have kF3 := blk_grownR kF2 (by decide) ho2 hg3
                    have kI3 := blk_grownR kI2 (by decide) ho2 hg3
                    have hrow3 : GR pdl 116 26 wp3 w1.heap.size va3 (ps ++ (⟨(t : Int), F⟩ :: bl)) := by unfold GR; rw [List.length_append, List.length_cons, HPL2.out, List.flatMap_append, List.flatMap_cons, ← List.append_assoc, show PL + (bl.length + 1) = PL + 1 + bl.length by omega]; exact ho3
                    obtain ⟨va3, vc3, rfl, -, -⟩ := GR.slice hrow3 pdl_length zPd
                    obtain ⟨n3, hn3⟩ : ∃ q, (ps ++ (⟨(t : Int), F⟩ :: bl)).length = q := ⟨_, rfl⟩
                    rw [hn3] at hrow3 hr3
                    try rw [hn3]
                    refine hRun 9 (some 98) (.slice va3 n3 vc3) (by kernel_rfl) (by kernel_rfl) (by kernel_rfl) (by kernel_rfl) (run_append_op (.tmp 95) (.tmp 97) (by kernel_rfl) rfl rfl hr3) ⟨kF3, kI3⟩ ?_
                    simp only [Z1,Z2,Z3,Z4]
                    refine ZT 10 (some 99) (.pointer (some ⟨XO, 0, none⟩)) ⟨kF3, kI3⟩ ?_
                    simp only [Z1,Z2,Z3,Z4]
                    refine ZK 11 none (run_skip_by (Instr.storeAt 51 (.pointer (some ⟨XO, 0, none⟩)) (.slice va3 n3 vc3)) (by kernel_rfl) (wr51 va3 n3 vc3 (SD.blk sd3) rfl)) (⟨(Blk.turns kF3 (turns_sets _ (XO) 0 [.slice va3 n3 vc3]) hFO), (Blk.turns kI3 (turns_sets _ (XO) 0 [.slice va3 n3 vc3]) hIO)⟩) ?_
                    simp only [Act.put]
                    refine wpAnyH_done (by kernel_rfl) ?_ _
                    have z1 := (SD.store sd3 gXO hrow3)
                    have z2 := (Blk.turns kF3 (turns_sets _ (XO) 0 [.slice va3 n3 vc3]) hFO)
                    go_wp2_with fail
                    go_meet
                    exact ⟨_, _, _, z1, z2⟩
                  exact AllReadyH.nil
                obtain ⟨va3, n3, vc3, rj3, kF3⟩ := hcut
                have RJ3 := Lib.hid rj3
                have KF3 := Lib.hid kF3
                have oc3 := rj3.seen.size
                clear rj3 kF3 KFD KID GRD RJD
                go_upto_region 15 with fail
                go_wp2_with (first
                  | (have gg := KF3.out; clear gg; refine wpList_loadX rfl (.tmp 101) rfl XF 17 F.ch rfl (KF3.out.mid 17 8) ?_; clear KF3)
                  | (at_builtin; refine wpList_pushM (t := 147) (e := 48) Tryz.underlying147 info48z rfl (by decide) chl_length chl_one (by decide) rfl (.tmp 100) (.tmp 103) rfl w1.heap.size u17 chs F.ch rfl rfl RJ3.out.ch (by omega) oc3 ?_; intro g14 c14 w14 hp14 hg14 _; (have RJ4 := Lib.hid (RJ3.out.pushC hg14 hp14)); clear hp14 hg14 RJ3))
                go_roundw
                case rel =>
                  refine ⟨t + 1, bs ++ [b0], .slice va3 n3 vc3, by go_num, by omega, ⟨?_, trivial⟩, ?_⟩
                  · rw [HTK.out]; exact boxesO_snoc HBS.out.1 HB0.out
                  · have e1 : tot bs = PL := by
                      rw [← HPL2.out, ← HPS.out]; exact (layB_length (boxesO_len HBS.out.1).symm).symm
                    rw [HTK.out, layB_snoc (boxesO_len HBS.out.1).symm, HPS.out, List.map_append, plc_snoc, HPC.out.1, HPC.out.2, Nat.zero_add, e1, List.map_cons, List.map_nil, ← HFB.out.1, ← HFB.out.2]
                    exact RJ4.out
                case measure => simp [intOf]; omega
            · have HSK : Hid (flowTo l n (t + 1) = flowTo l n t) := flowTo_skip (by rw [HKB.out, HFF.out]; rfl)
              clear HFF HKB
              go_wp2_with (first | (go_at_call 21; refine HM1.out.mono ?_; clear HM1; rintro e w3 ⟨rfl, hw⟩; rw [hw]; clear hw) | (go_at_call 55; refine HO1.out.mono ?_; clear HO1; rintro e w3 ⟨rfl, hw⟩; rw [hw]; clear hw))
              go_roundw
              case rel => exact ⟨t + 1, bs, v, by go_num, by omega, by rw [HSK.out]; exact HBS, by rw [HSK.out]; exact RJR.out⟩
              case measure => simp [intOf]; omega
    · have ht' : ¬ (t : Int) < (N : Int) := by omega
      obtain rfl : t = N := by omega
      have HK := Lib.hid HFV.out.symm
      rw [HK.out] at RJR HBS
      have hbl := boxesO_len HBS.out.1
      have hKl : (flowV l n).length ≤ t := by rw [HFV.out]; exact flow_length l n t
      obtain ⟨K, hKK⟩ : ∃ q, flowV l n = q := ⟨_, rfl⟩
      have HKK := Lib.hid hKK
      rw [hKK] at RJR HBS hbl hKl
      clear hKK HK
      obtain ⟨va0, vc0, rfl, -, -⟩ := RJR.out.row.slice pdl_length zPd
      obtain ⟨uc, ucc, hu17, hcs, -⟩ := RJR.out.ch.slice chl_length zeroC
      subst hu17
      obtain ⟨qa, qc, hu18, hqs, -⟩ := RJR.out.pl.slice (fun _ => rfl) 0
      subst hu18
      obtain ⟨M, hM⟩ : ∃ q, bs.length = q := ⟨_, rfl⟩
      have e1 : (bs.map fun z => z.f.ch).length = M := by rw [List.length_map, hM]
      have e2 : (plc 0 bs).length = M := by rw [plc_length, hM]
      rw [e1] at RJR hcs
      rw [e2] at RJR hqs
      try rw [e1]
      try rw [e2]
      obtain ⟨chs, hchs⟩ : ∃ q, (bs.map fun z => z.f.ch) = q := ⟨_, rfl⟩
      rw [hchs] at RJR hcs e1
      have HCHS := Lib.hid hchs
      have hMb : M ≤ 1000 := by omega
      have HBL := Lib.hid hbl
      have HML := Lib.hid hM
      have HE1 := Lib.hid e1
      have HE2 := Lib.hid e2
      have HKl := Lib.hid hKl
      have HST := Lib.hid (refStack_any uc M ucc chs ot wr hcs (by omega))
      have KRW := Lib.hid (KR1.out.seen RJR.out.seen)
      have HQS := Lib.hid hqs
      have SWR := Lib.hid (S01.out.trans RJR.out.seen)
      clear hM hchs hcs hqs hbl hKl e1 e2 HAT HMD HOD HTO HCH HPL HRT HBX KH1 KR1 ht' ht HSW
      have HCO : Hid (contO (boxO l k) (flowV l n) cI ⟨ot, ob, fl⟩ = match stkO chs ot with
        | none => none
        | some p => if hgB p ⟨ot, ob, fl⟩ then some ⟨p, hgN p ⟨ot, ob, fl⟩, layY K bs p.y⟩ else none) := by
        unfold Hid contO
        rw [HKK.out, HBS.out.1]
        show (match stkO (bs.map fun b => b.f.ch) ot with | none => none | some p => _) = _
        rw [HCHS.out]
      cases hst : stkO chs ot with
      | none =>
        obtain ⟨h1, h2⟩ := stk_none hst
        rw [h1, h2] at HST
        have HNO : Hid (contO (boxO l k) (flowV l n) cI ⟨ot, ob, fl⟩ = none) := by unfold Hid; rw [HCO.out, hst]
        have HST2 : Hid (Calls Tryz.prog 56 #[.slice uc M ucc, .bool ot] wr fun e w' => ∃ vv, e = .returned (.tuple #[.agg #[vv, .int .i64 0, .int .i64 0, .int .i64 0, .int .i64 0, .int .i64 0, .bool false], .bool false]) ∧ RP w' wr.heap.size vv [] ∧ Seen wr w') := HST.out
        clear h1 h2 hst HCO HCHS HST
        go_upto_region 18 with (go_at_call 56; refine HST2.out.mono ?_; clear HST2; rintro e w5 ⟨vv, rfl, hrp, hb⟩; have S5 := Lib.hid (show Seen wr w5 from hb); obtain ⟨ya, yc, hvv, -, -⟩ := hrp.slice; have hvv2 : vv = .slice ya 0 yc := hvv; clear hvv; subst hvv2; clear hrp hb)
        obtain ⟨W5, hW5⟩ : ∃ q, q = w5.alloc (.cells #[.slice ya 0 yc, .int .i64 0, .int .i64 0, .int .i64 0, .int .i64 0, .int .i64 0, .bool false] 53) := ⟨_, rfl⟩
        have kp : Blk W5 w5.heap.size [.slice ya 0 yc, .int .i64 0, .int .i64 0, .int .i64 0, .int .i64 0, .int .i64 0, .bool false] 53 := by rw [hW5]; exact Blk.new _ _ _
        have S6 := Lib.hid (show Seen wr W5 by rw [hW5]; exact S5.out.alloc _)
        have c4 : W5.cell? ⟨w5.heap.size, 4, none⟩ = some (.int .i64 0) := kp.cell 4
        have c5 : W5.cell? ⟨w5.heap.size, 5, none⟩ = some (.int .i64 0) := kp.cell 5
        have VA := Lib.hid (refValue_any zSt W5)
        have SEE := Lib.hid (SWR.out.trans S6.out)
        have KRX := Lib.hid (KRW.out.seen S6.out)
        clear S5 kp HBS RJR HQS HFT HFV HKK HKl HBL HML HE1 HE2 HLN KRW SWR S01
        rw [← hW5]
        clear hW5
        obtain ⟨VN, hVN⟩ : ∃ q, valN zSt = q := ⟨_, rfl⟩
        obtain ⟨VB, hVB⟩ : ∃ q, valB zSt = q := ⟨_, rfl⟩
        have VA2 : Hid (Calls Tryz.prog 57 #[.agg #[.int .i64 0, .int .i64 0]] W5 fun e w' => e = .returned (.tuple #[.int .i64 VN, .bool VB]) ∧ Below W5.heap.size W5 w') := by
          have := VA.out
          rw [hVN, hVB] at this
          exact this
        clear VA hVN hVB
        go_wp2_with (first
          | (go_at_call 57; refine VA2.out.mono ?_; clear VA2 c4 c5; rintro e w7 ⟨rfl, hb⟩; have S7 := Lib.hid (SEE.out.trans hb); have KRY := Lib.hid (KRX.out.seen hb); clear hb KRX)
          | (have gg := KRY.out; clear gg; refine wpList_storeLr rfl (.tmp 14) (.tmp 124) rfl (W.heap.size + 1) (layl (.slice none 0 0) (.slice none 0 0) zPi 0) (.slice none 0 0) (.slice none 0 0) rfl rfl zPi 0 rfl rfl rfl KRY.out ?_; clear KRY; intro wz bz tz))
        refine bodyPost_ret (results_two rfl rfl rfl (run_loadLr bz)) rfl ?_
        exact ⟨S7.out.turns tz (by omega), .inl ⟨HNO.out, _, _, _, _, rfl, rfl, rfl⟩⟩
      | some p =>
        have HPO : Hid (PiOK p) := pi_run (pi_open ot) (fun ch hch => by
          rw [← HCHS.out] at hch
          obtain ⟨z, hz, rfl⟩ := List.mem_map.1 hch
          exact boxes_all (fun q z h => box_ch k h) HBS.out.1 z hz) hst
        have HYL : Hid (p.y.length = M) := by
          have h1 := runP_len (show runP (openP ot) chs = some p from hst)
          rw [HE1.out] at h1
          unfold Hid
          rw [h1]; simp [openP]
        obtain ⟨h1, h2⟩ := stk_some hst
        rw [h1, h2] at HST
        have HCP : Hid (contO (boxO l k) (flowV l n) cI ⟨ot, ob, fl⟩ = if hgB p ⟨ot, ob, fl⟩ then some ⟨p, hgN p ⟨ot, ob, fl⟩, layY K bs p.y⟩ else none) := by unfold Hid; rw [HCO.out, hst]
        have HGV : Hid (hgV p ⟨ot, ob, fl⟩ = max (if ob then p.edge else wrap64 (p.edge + valN p.cur)) 0 ∧ hgG p ⟨ot, ob, fl⟩ = (ob || valB p.cur) ∧ hgN p ⟨ot, ob, fl⟩ = (if hgG p ⟨ot, ob, fl⟩ then hgV p ⟨ot, ob, fl⟩ else 0) ∧ hgB p ⟨ot, ob, fl⟩ = (hgG p ⟨ot, ob, fl⟩ && fitsB (hgV p ⟨ot, ob, fl⟩))) := ⟨rfl, rfl, rfl, rfl⟩
        have HVB : Hid (valB p.cur = true ∧ True) := ⟨st_value HPO.out.cur, trivial⟩
        have HATT : Hid (p.att = true → p.edge = 0 ∧ p.cur = zSt) := HPO.out.att
        clear h1 h2 hst HCO HPO
        obtain ⟨y, ed, ⟨tp, tn⟩, ⟨up, un⟩, att⟩ := p
        simp only at HGV HVB HATT HYL HCP
        have VA := Lib.hid (fun w => refValue_any ⟨up, un⟩ w)
        rw [HVB.out.1] at VA HGV
        obtain ⟨VN, hVN⟩ : ∃ q, valN ⟨up, un⟩ = q := ⟨_, rfl⟩
        rw [hVN] at VA HGV
        have HVN := Lib.hid hVN
        clear hVN HVB
        have HST2 : Hid (Calls Tryz.prog 56 #[.slice uc M ucc, .bool ot] wr fun e w' => ∃ vv, e = .returned (.tuple #[.agg #[vv, .int .i64 ed, .int .i64 tp, .int .i64 tn, .int .i64 up, .int .i64 un, .bool att], .bool true]) ∧ RP w' wr.heap.size vv y ∧ Seen wr w') := HST.out
        clear HST
        go_upto_region 18 with (go_at_call 56; refine HST2.out.mono ?_; clear HST2; rintro e w5 ⟨vv, rfl, hrp, hb⟩; have S5 := Lib.hid (show Seen wr w5 from hb); obtain ⟨ya, yc, hvv, -, -⟩ := hrp.slice; rw [HYL.out] at hvv; subst hvv; have RY := Lib.hid hrp; clear hrp hb)
        obtain ⟨W5, hW5⟩ : ∃ q, q = w5.alloc (.cells #[.slice ya M yc, .int .i64 ed, .int .i64 tp, .int .i64 tn, .int .i64 up, .int .i64 un, .bool att] 53) := ⟨_, rfl⟩
        have kp : Blk W5 w5.heap.size [.slice ya M yc, .int .i64 ed, .int .i64 tp, .int .i64 tn, .int .i64 up, .int .i64 un, .bool att] 53 := by rw [hW5]; exact Blk.new _ _ _
        have s65 : Seen w5 W5 := by rw [hW5]; exact (Seen.refl w5).alloc _
        have S6 := Lib.hid (S5.out.trans s65)
        have RY5 := Lib.hid (RP.seen RY.out s65)
        have oXP : wr.heap.size ≤ w5.heap.size := S5.out.size
        rw [← hW5]
        clear hW5 S5 RY s65
        obtain ⟨XP, hXP⟩ : ∃ q, w5.heap.size = q := ⟨_, rfl⟩
        rw [hXP] at kp oXP ⊢
        clear hXP
        have c4 : W5.cell? ⟨XP, 4, none⟩ = some (.int .i64 up) := kp.cell 4
        have c5 : W5.cell? ⟨XP, 5, none⟩ = some (.int .i64 un) := kp.cell 5
        have KP5 := Lib.hid kp
        clear kp
        go_upto_region 21 with (go_at_call 57; refine (VA.out _).mono ?_; clear VA c4 c5; rintro e W7 ⟨rfl, hb⟩; have S7 := Lib.hid (show Seen W5 W7 from hb); clear hb)
        have RJ7 := Lib.hid (RJR.out.next (S6.out.trans S7.out))
        have KP7 := Lib.hid (KP5.out.seen S7.out)
        have RY7 := Lib.hid (RP.seen RY5.out S7.out)
        have KR7 := Lib.hid (KRW.out.seen (S6.out.trans S7.out))
        have o7 : XP < W7.heap.size := KP7.out.lt
        have oXR : XO < wr.heap.size := RJR.out.blk.lt
        clear RJR KP5 RY5 KRW S6 S7 HQS SWR
        obtain ⟨PL, hPL⟩ : ∃ q, (layB K bs).length = q := ⟨_, rfl⟩
        rw [hPL] at RJ7
        try rw [hPL]
        have hPLt : PL = tot bs := by rw [← hPL]; exact layB_length HBL.out.symm
        clear hPL
        have hKB : K.length = bs.length := HBL.out.symm
        have hML : bs.length = M := HML.out
        have hYB : y.length = bs.length := by rw [hML]; exact HYL.out
        have HKB := Lib.hid hKB
        have HYB := Lib.hid hYB
        have HPLT := Lib.hid hPLt
        clear hKB hYB hPLt hML
        obtain ⟨BS, hBS⟩ : ∃ q, wr.heap.size = q := ⟨_, rfl⟩
        rw [hBS] at RY7 oXP oXR
        try rw [hBS]
        clear hBS
        go_wp2_with fail
        go_loopw [127] (fun i wq => ∃ j : Nat, i = .int .i64 j ∧ j ≤ M ∧ RJ w1 XO wq (.slice va0 PL vc0) (layG K bs (y.take j)) (.slice uc M ucc) chs (.slice qa M qc) (plc 0 bs) ∧ Blk wq XP [.slice ya M yc, .int .i64 ed, .int .i64 tp, .int .i64 tn, .int .i64 up, .int .i64 un, .bool att] 53 ∧ RP wq BS (.slice ya M yc) y ∧ Blk wq (W.heap.size + 1) (layl (.slice none 0 0) (.slice none 0 0) zPi 0) 55) (fun i _ => M - (intOf i).toNat)
        case atStart => exact ⟨0, rfl, by omega, by rw [List.take_zero, layG_nil]; exact RJ7.out, KP7.out, RY7.out, KR7.out⟩
        case round =>
          obtain ⟨j, rfl, hj, hrj, hkp, hry, hkr⟩ := hrel
          clear RJ7 KP7 RY7 KR7
          by_cases hlt : j < M
          · have hjm' : (j : Int) < (M : Int) := by omega
            have hjm := hlt
            obtain ⟨ad, cy2, he, hz, _⟩ := RP.slice hry
            rw [HYL.out] at he hz
            simp only [Value.slice.injEq] at he
            obtain ⟨rfl, -, rfl⟩ := he
            obtain ⟨yb, yo, rfl, hyc⟩ := hz.2 (by omega)
            have c1 := hyc j hlt
            have hjb : j < bs.length := by have := HML.out; omega
            obtain ⟨gp, capp, hu⟩ := hrj.pl.block (by rw [plc_length]; omega)
            rw [plc_length, HML.out] at hu
            simp only [Value.slice.injEq] at hu
            obtain ⟨rfl, -, rfl⟩ := hu
            obtain ⟨pk, hpk⟩ : ∃ pk, tot (bs.take j) = pk := ⟨_, rfl⟩
            have hp7 : wr.cell? ⟨gp, 0 + j, none⟩ = some (.int .i64 (pk : Int)) := by
              have h1 := hrj.pl
              unfold GR at h1
              rw [plc_length, HML.out] at h1
              have h2 := World.ownsRow.cellAt h1 j (by omega)
              have h3 := fl_at (enc := encI) (size := 1) (fun _ => rfl) (plc 0 bs) 0 (i := j) (by rw [plc_length]; omega) (j := 0) (by omega)
              rw [Nat.mul_one, Nat.add_zero, plc_at 0 bs hjb, Nat.zero_add, hpk] at h3
              rw [Nat.zero_add]
              exact h2.trans h3
            obtain ⟨nn, ff, hx1, hx2, hx3⟩ := layG_step (K := K) (bs := bs) (ys := y) (k := j) HKB.out HYB.out hjb
            rw [hpk] at hx1 hx2 hx3
            have hlG : (layG K bs (y.take j)).length = PL := by
              have h1 := hrj.row.1
              obtain ⟨a9, c9, h9, -, -⟩ := hrj.row.slice pdl_length zPd
              simp only [Value.slice.injEq] at h9
              exact h9.2.1.symm
            have hpkn : pk < PL := by omega
            obtain ⟨g2, cap2, hv2⟩ := hrj.row.block (by omega)
            rw [hlG] at hv2
            simp only [Value.slice.injEq] at hv2
            obtain ⟨rfl, -, rfl⟩ := hv2
            obtain ⟨yk, hyk⟩ : ∃ yk, y.getD j 0 = yk := ⟨_, rfl⟩
            rw [hyk] at hx3
            rw [show zat y j = yk from hyk] at c1
            have hE := flat_y (layG K bs (y.take j)) hx1 hx2 yk
            rw [hx3] at hE
            have hln : (layG K bs (y.take (j + 1))).length = (layG K bs (y.take j)).length := by rw [← hx3, List.length_set]
            have hrd : GR pdl 116 26 wr.drew w1.heap.size (.slice (some ⟨g2, 0, none⟩) PL vc0) (layG K bs (y.take j)) := hrj.row.seen (Seen.refl wr).drew
            obtain ⟨⟨cs, hcs, hcl⟩, hgb, hr8⟩ := gr_stores hrd (o := pk * 26 + 1 + 1) (vs := [.int .i64 yk]) hln (by simp; omega) hE
            obtain ⟨cu, hcu⟩ : ∃ cu, cs[pk * 26 + 1 + 1]? = some cu := ⟨_, List.getElem?_eq_getElem (by have h := hcl; simp at h; omega)⟩
            obtain ⟨W8, hW8⟩ : ∃ q, q = wr.drew.setCells g2 (pk * 26 + 1 + 1) [.int .i64 yk] := ⟨_, rfl⟩
            have t8 : Turns g2 wr.drew W8 := by rw [hW8]; exact turns_sets _ _ _ _
            have rjd := hrj.next (Seen.refl wr).drew
            have kpd : Blk wr.drew XP [.slice (some ⟨yb, yo, none⟩) M yc, .int .i64 ed, .int .i64 tp, .int .i64 tn, .int .i64 up, .int .i64 un, .bool att] 53 := hkp
            have krd : Blk wr.drew (W.heap.size + 1) (layl (.slice none 0 0) (.slice none 0 0) zPi 0) 55 := hkr
            have hgO : XO ≠ g2 := fun e => by
              have h5 := rjd.blk
              rw [e] at h5
              unfold Blk at h5 hcs
              rw [hcs] at h5
              simp at h5
            have hgP : XP ≠ g2 := fun e => by
              have h5 := kpd
              rw [e] at h5
              unfold Blk at h5 hcs
              rw [hcs] at h5
              simp at h5
            have RJ8 : Hid (RJ w1 XO W8 (.slice (some ⟨g2, 0, none⟩) PL vc0) (layG K bs (y.take (j + 1))) (.slice uc M ucc) chs (.slice (some ⟨gp, 0, none⟩) M qc) (plc 0 bs)) :=
              ⟨Seen.turns rjd.seen t8 hgb, rjd.blk.turns t8 hgO, by rw [hW8]; exact hr8, gr_turns rjd.ch hcs (by decide) t8, gr_turns rjd.pl hcs (by decide) t8⟩
            have KP8 := Lib.hid (kpd.turns t8 hgP)
            have hgR : W.heap.size + 1 ≠ g2 := fun e => by
              have h5 := krd
              rw [e] at h5
              unfold Blk at h5 hcs
              rw [hcs] at h5
              simp [layl] at h5
            have KR8 := Lib.hid (krd.turns t8 hgR)
            have RY8 : Hid (RP W8 BS (.slice (some ⟨yb, yo, none⟩) M yc) y) := rp_turns' (RP.seen hry (Seen.refl wr).drew) hcs (by decide) t8
            have s1 := rjd.blk
            have s2 := kpd
            have s3 : wr.drew.cell? ⟨gp, 0 + j, none⟩ = some (.int .i64 (pk : Int)) := hp7
            have s4 : wr.drew.cell? ⟨yb, yo + j, none⟩ = some (.int .i64 yk) := c1
            have q1 := RJ8.out.blk
            have q2 := KP8.out
            have q3 : W8.cell? ⟨gp, 0 + j, none⟩ = some (.int .i64 (pk : Int)) := by
              have hne : gp ≠ g2 := fun e => type_apart rjd.pl hcs (by decide) (by rw [e]; rfl)
              rw [World.cell?_of_block (t8.block gp (by have := rjd.pl.lt gp rfl; omega) hne)]; exact s3
            have q4 : W8.cell? ⟨yb, yo + j, none⟩ = some (.int .i64 yk) := by
              have h1 : RP W8 BS (.slice (some ⟨yb, yo, none⟩) M yc) y := RY8.out
              obtain ⟨ad, cy3, he, hz8, _⟩ := RP.slice h1
              rw [HYL.out] at he hz8
              simp only [Value.slice.injEq] at he
              obtain ⟨rfl, -, rfl⟩ := he
              obtain ⟨yb8, yo8, e8, hyc8⟩ := hz8.2 (by omega)
              cases e8
              have := hyc8 j hlt
              rwa [show zat y j = yk from hyk] at this
            replace hW8 := Lib.hid hW8
            rw [show wr.drew.setCells g2 (pk * 26 + 1 + 1) [.int .i64 yk] = wr.drew.setCell ⟨g2, pk * 26 + 1 + 1, none⟩ (.int .i64 yk) from rfl] at hW8
            rw [hW8.out] at q1 q2 q3 q4
            clear hrj hkp hry hkr rjd kpd krd hx1 hx2 hx3 hlG hE hln hrd hcl hr8 t8 hyc hz c1 hp7 hyk hpk HKB HYB HPLT HBL HML HE1 HE2 HKl HCHS HBS HGV HCP HATT HVN HKK HFV HFT HLN hgb hgO hgP hgR
            go_upto_region 24 with fail
            refine wp_region_held_drew (S := fun w' => Blk w' XO (layl (.slice (some ⟨g2, 0, none⟩) PL vc0) (.slice none 0 0) zPi 0) 55 ∧ Blk w' XP [.slice (some ⟨yb, yo, none⟩) M yc, .int .i64 ed, .int .i64 tp, .int .i64 tn, .int .i64 up, .int .i64 un, .bool att] 53 ∧ w'.cell? ⟨gp, 0 + j, none⟩ = some (.int .i64 (pk : Int)) ∧ w'.cell? ⟨yb, yo + j, none⟩ = some (.int .i64 yk)) (by kernel_rfl) ⟨s1, s2, s3, s4⟩ (fun _ => ?_)
            refine ZT 0 (some 130) (.pointer (some ⟨XO, 0, none⟩)) ⟨s1, s2, s3, s4⟩ ?_
            simp only [Z1,Z2,Z3,Z4]
            refine ZU 1 (some 131) (.slice (some ⟨g2, 0, none⟩) PL vc0) (fun _ hS => run_by (Instr.loadAt 51 (.pointer (some ⟨XO, 0, none⟩))) (by kernel_rfl) (rd51 (hS.1.cell 0))) ⟨s1, s2, s3, s4⟩ ?_
            simp only [Z1,Z2,Z3,Z4]
            refine ZT 2 (some 132) (.slice (some ⟨gp, 0, none⟩) M qc) ⟨s1, s2, s3, s4⟩ ?_
            simp only [Z1,Z2,Z3,Z4]
            refine ZT 3 (some 133) (.int .i64 (j : Int)) ⟨s1, s2, s3, s4⟩ ?_
            simp only [Z1,Z2,Z3,Z4]
            refine ZU 4 (some 134) (.pointer (some ⟨gp, 0 + j, none⟩)) (fun _ hS => run_by (Instr.indexAt 135 (.slice (some ⟨gp, 0, none⟩) M qc) (.int .i64 (j : Int))) (by kernel_rfl) (run_index135 gp 0 j M qc hjm _)) ⟨s1, s2, s3, s4⟩ ?_
            simp only [Z1,Z2,Z3,Z4]
            refine ZU 5 (some 135) (.int .i64 (pk : Int)) (fun _ hS => run_by (Instr.loadAt 3 (.pointer (some ⟨gp, 0 + j, none⟩))) (by kernel_rfl) (rd3 hS.2.2.1)) ⟨s1, s2, s3, s4⟩ ?_
            simp only [Z1,Z2,Z3,Z4]
            refine ZT 6 (some 136) (.pointer (some ⟨XP, 0, none⟩)) ⟨s1, s2, s3, s4⟩ ?_
            simp only [Z1,Z2,Z3,Z4]
            refine ZU 7 (some 137) (.slice (some ⟨yb, yo, none⟩) M yc) (fun _ hS => run_by (Instr.loadAt 39 (.pointer (some ⟨XP, 0, none⟩))) (by kernel_rfl) (rd39 (hS.2.1.cell 0))) ⟨s1, s2, s3, s4⟩ ?_
            simp only [Z1,Z2,Z3,Z4]
            refine ZT 8 (some 138) (.int .i64 (j : Int)) ⟨s1, s2, s3, s4⟩ ?_
            simp only [Z1,Z2,Z3,Z4]
            refine ZU 9 (some 139) (.pointer (some ⟨yb, yo + j, none⟩)) (fun _ hS => run_by (Instr.indexAt 39 (.slice (some ⟨yb, yo, none⟩) M yc) (.int .i64 (j : Int))) (by kernel_rfl) (run_index39 yb yo j M yc hjm _)) ⟨s1, s2, s3, s4⟩ ?_
            simp only [Z1,Z2,Z3,Z4]
            refine ZU 10 (some 140) (.int .i64 yk) (fun _ hS => run_by (Instr.loadAt 2 (.pointer (some ⟨yb, yo + j, none⟩))) (by kernel_rfl) (rd2 hS.2.2.2)) ⟨s1, s2, s3, s4⟩ ?_
            simp only [Z1,Z2,Z3,Z4]
            refine ZU 11 (some 141) (.pointer (some ⟨g2, pk * 26, none⟩)) (fun _ hS => run_by (Instr.indexAt 51 (.slice (some ⟨g2, 0, none⟩) PL vc0) (.int .i64 (pk : Int))) (by kernel_rfl) (run_index51 g2 pk PL vc0 hpkn _)) ⟨s1, s2, s3, s4⟩ ?_
            simp only [Z1,Z2,Z3,Z4]
            refine ZT 12 (some 142) (.pointer (some ⟨g2, pk * 26 + 1, none⟩)) ⟨s1, s2, s3, s4⟩ ?_
            simp only [Z1,Z2,Z3,Z4]
            refine ZT 13 (some 143) (.pointer (some ⟨g2, pk * 26 + 1 + 1, none⟩)) ⟨s1, s2, s3, s4⟩ ?_
            simp only [Z1,Z2,Z3,Z4]
            refine ZK 14 none (run_skip_by (Instr.storeAt 2 (.pointer (some ⟨g2, pk * 26 + 1 + 1, none⟩)) (.int .i64 yk)) (by kernel_rfl) (wr2 yk hcs hcu)) (⟨q1, q2, q3, q4⟩) ?_
            simp only [Act.put]
            refine wpAnyH_done (by kernel_rfl) ?_ _
            rw [show (wr.drew.setCell ⟨g2, pk * 26 + 1 + 1, none⟩ (.int .i64 yk)) = W8 from hW8.out.symm]
            clear q1 q2 q3 q4 s1 s2 s3 s4 hcs hcu
            go_wp2_with fail
            go_roundw
            case rel => exact ⟨j + 1, by go_num, by omega, RJ8.out, KP8.out, RY8.out, KR8.out⟩
            case measure => simp [intOf]; omega
          · have hlt' : ¬ (j : Int) < (M : Int) := by omega
            have hjM : j = M := by omega
            have hyt : y.take j = y := by rw [hjM, ← HYL.out]; exact List.take_length
            rw [hyt, layG_all HYB.out] at hrj
            have HJM := Lib.hid hjM
            have PONE : Hid (∀ u ∈ ([.slice ya M yc, .int .i64 ed, .int .i64 tp, .int .i64 tn, .int .i64 up, .int .i64 un, .bool att] : List Value), u.oneCell' = true) := by
              intro u hu
              simp only [List.mem_cons, List.not_mem_nil, or_false] at hu
              rcases hu with rfl | rfl | rfl | rfl | rfl | rfl | rfl <;> first | exact oneSl _ _ _ | rfl
            have RJF := Lib.hid hrj
            have KPF := Lib.hid hkp
            have RYF := Lib.hid hry
            have KRF := Lib.hid hkr
            clear hrj hkp hry hkr hyt hjM hlt hj
            go_upto_region 26 with fail
            go_upto_region 27 with (first
              | (have gg := KPF.out; clear gg; refine wpList_load_mid rfl 53 (.tmp 23) rfl XP 0 rfl [.slice ya M yc, .int .i64 ed, .int .i64 tp, .int .i64 tn, .int .i64 up, .int .i64 un, .bool att] _ KPF.out.range Tryz.underlying53 rfl zz53 ?_)
              | (have gg := RJF.out; clear gg; refine wpList_storeC rfl 53 (.tmp 146) (.tmp 145) (cs' := layl (.slice va0 PL vc0) (.slice ya M yc) ⟨y, ed, ⟨tp, tn⟩, ⟨up, un⟩, att⟩ 0) rfl XO 1 [.slice ya M yc, .int .i64 ed, .int .i64 tp, .int .i64 tn, .int .i64 up, .int .i64 un, .bool att] rfl rfl zz53 PONE.out RJF.out.blk (by show 8 ≤ 9; omega) rfl ?_; intro w9 b9 t9))
            have hXPO : XP ≠ XO := by omega
            have oB : W.heap.size ≤ BS := by omega
            have KP9 : Blk w9 XP [.slice ya M yc, .int .i64 ed, .int .i64 tp, .int .i64 tn, .int .i64 up, .int .i64 un, .bool att] 53 := KPF.out.turns t9 hXPO
            have KR9 := Lib.hid (KRF.out.turns t9 (show W.heap.size + 1 ≠ XO by omega))
            have GR9 := Lib.hid (gr_turns RJF.out.row RJF.out.blk (by decide) t9)
            have RP9 := Lib.hid (rp_turns' RYF.out RJF.out.blk (by decide) t9)
            have S9 := Lib.hid (Seen.turns RJF.out.seen t9 (by have := HXO.out; omega))
            have B9 : Hid (Blk w9 XO (layl (.slice va0 PL vc0) (.slice ya M yc) ⟨y, ed, ⟨tp, tn⟩, ⟨up, un⟩, att⟩ 0) 55) := b9
            clear RJF KPF RYF KRF b9 t9
            have c1 : w9.cell? ⟨XP, 1, none⟩ = some (.int .i64 ed) := KP9.cell 1
            have c6 : w9.cell? ⟨XP, 6, none⟩ = some (.bool att) := KP9.cell 6
            have c8 : w9.cell? ⟨XO, 8, none⟩ = some (.int .i64 0) := B9.out.cell 8
            have f8 : ∀ o, w9.frozen? ⟨XO, o, none⟩ = false := B9.out.free
            clear KP9
            obtain ⟨PP, hPP⟩ : ∃ q : Pi, q = ⟨y, ed, ⟨tp, tn⟩, ⟨up, un⟩, att⟩ := ⟨_, rfl⟩
            obtain ⟨HV, hHV⟩ : ∃ q, max (if ob = true then ed else wrap64 (ed + VN)) 0 = q := ⟨_, rfl⟩
            rw [← hPP] at HGV HCP B9
            have hy9 : Hid (PP.y.length = M) := by unfold Hid; rw [hPP]; exact HYL.out
            have HC9 : Hid (contO (boxO l k) (flowV l n) cI ⟨ot, ob, fl⟩ = if fitsB HV then some ⟨PP, HV, layY K bs y⟩ else none) := by
              obtain ⟨g1, g2, g3, g4⟩ := HGV.out
              have g5 : hgG PP ⟨ot, ob, fl⟩ = true := by rw [g2, Bool.or_true]
              have h := HCP.out
              rw [g4, g3, g5, Bool.true_and, if_pos rfl, g1, hHV] at h
              exact h
            have hy10 : Hid (PP.y = y) := by unfold Hid; rw [hPP]
            clear hPP HGV HCP HYL HKB HYB HPLT HBL HML HE1 HE2 HKl HCHS HBS HKK HFV HFT HJM hlt' PONE
            have hA0 : att = true → ed = 0 ∧ VN = 0 := fun e => by
              obtain ⟨h1, h2⟩ := HATT.out e
              refine ⟨h1, ?_⟩
              rw [← HVN.out, h2]
              decide
            clear HATT HVN
            obtain ⟨AF, hAF⟩ : ∃ q, fitsB HV = q := ⟨_, rfl⟩
            have HFI : Hid (∀ w, Calls Tryz.prog 52 #[.int .i64 HV] w fun e w' => e = .returned (.bool AF) ∧ w = w') := fun w => by rw [← hAF]; exact refFits_any HV w
            rw [hAF] at HC9
            clear hAF
            cases att
            · cases ob
              · by_cases h0 : wrap64 (ed + VN) < 0
                · have hE : HV = 0 := by rw [← hHV]; simp only [Bool.false_eq_true, if_false]; omega
                  clear hHV
                  go_upto_region 33 with fail
                  rename_i hKR
                  obtain ⟨V, hV⟩ : ∃ q, q = (((w9.setCell ⟨XO, 8, none⟩ (.int .i64 (ed))).setCell ⟨XO, 8, none⟩ (.int .i64 (wrap64 (ed + VN)))).setCell ⟨XO, 8, none⟩ (.int .i64 (0))) := ⟨_, rfl⟩
                  have B11 : Blk V.drew XO (layl (.slice va0 PL vc0) (.slice ya M yc) PP HV) 55 := by rw [hV, hE]; exact (((B9.out.set 8 (.int .i64 (ed))).set 8 (.int .i64 (wrap64 (ed + VN)))).set 8 (.int .i64 (0)))
                  have T10 : Turns XO w9 V := by rw [hV]; exact ((Turns.set w9 XO 8 _).trans (Turns.set _ XO 8 _)).trans (Turns.set _ XO 8 _)
                  rw [← hV]
                  clear hV c1 c6 c8 f8
                  have hX1 := HXO.out
                  have S11 : Seen w1 V.drew := (Seen.turns S9.out T10 (by omega)).drew
                  have K10 : Blk V (W.heap.size + 1) (layl (.slice none 0 0) (.slice none 0 0) zPi 0) 55 := KR9.out.turns T10 (by omega)
                  have K11 : Blk V.drew (W.heap.size + 1) (layl (.slice none 0 0) (.slice none 0 0) zPi 0) 55 := K10
                  have G11 := (gr_turns GR9.out B9.out (by decide) T10).seen (Seen.refl V).drew
                  have P11 := RP.seen (rp_turns' RP9.out B9.out (by decide) T10) (Seen.refl V).drew
                  have T12 := turns_sets V.drew (W.heap.size + 1) 0 (layl (.slice va0 PL vc0) (.slice ya M yc) PP HV)
                  have B12 := B11.turns T12 (show XO ≠ W.heap.size + 1 by omega)
                  obtain ⟨Z, hZ⟩ : ∃ q, q = V.drew.setCells (W.heap.size + 1) 0 (layl (.slice va0 PL vc0) (.slice ya M yc) PP HV) := ⟨_, rfl⟩
                  have HZ := Lib.hid hZ
                  have K12 : Blk Z (W.heap.size + 1) (layl (.slice va0 PL vc0) (.slice ya M yc) PP HV) 55 := by
                    have h : Blk (V.drew.setCells (W.heap.size + 1) 0 (layl (.slice va0 PL vc0) (.slice ya M yc) PP HV)) (W.heap.size + 1) (setsL (layl (.slice none 0 0) (.slice none 0 0) zPi 0) 0 (layl (.slice va0 PL vc0) (.slice ya M yc) PP HV)) 55 := block_sets K11 0 (layl (.slice va0 PL vc0) (.slice ya M yc) PP HV) rfl
                    rw [show setsL (layl (.slice none 0 0) (.slice none 0 0) zPi 0) 0 (layl (.slice va0 PL vc0) (.slice ya M yc) PP HV) = (layl (.slice va0 PL vc0) (.slice ya M yc) PP HV) from rfl] at h
                    rw [hZ]; exact h
                  have G12 : GR pdl 116 26 Z W.heap.size (.slice va0 PL vc0) (layY K bs y) := by rw [hZ]; exact row_more (gr_turns G11 K11 (by decide) T12) (by omega)
                  have P12 : RP Z W.heap.size (.slice ya M yc) y := by rw [hZ]; exact row_more (rp_turns' P11 K11 (by decide) T12) oB
                  have S12 : Seen W Z := by rw [hZ]; exact Seen.turns (S01.out.trans S11) T12 (by omega)
                  clear hZ
                  clear G11 P11 S11 T10 T12 K10 hE
                  refine wp_region_held_drew (S := fun w' => Blk w' XO (layl (.slice va0 PL vc0) (.slice ya M yc) PP HV) 55) (by kernel_rfl) B11 (fun _ => ?_)
                  refine ZU 0 (some 164) (layv (.slice va0 PL vc0) (.slice ya M yc) PP HV) (fun _ hS => run_by (Instr.loadAt 55 (.pointer (some ⟨XO, 0, none⟩))) (by kernel_rfl) (rda55 (vs := (layl (.slice va0 PL vc0) (.slice ya M yc) PP HV)) hS.range rfl)) B11 ?_
                  simp only [Z1,Z2,Z3,Z4]
                  refine ZT 1 (some 165) (.pointer (some ⟨XO, 8, none⟩)) B11 ?_
                  simp only [Z1,Z2,Z3,Z4]
                  refine ZU 2 (some 166) (.int .i64 HV) (fun _ hS => run_by (Instr.loadAt 2 (.pointer (some ⟨XO, 8, none⟩))) (by kernel_rfl) (rd2 (hS.cell 8))) B11 ?_
                  simp only [Z1,Z2,Z3,Z4]
                  refine ZC 3 (some 167) 52 #[.int .i64 HV] ?_
                  refine (HFI.out _).mono ?_
                  rintro e wz ⟨rfl, hwz⟩
                  subst hwz
                  refine ⟨_, rfl, B11, ?_⟩
                  simp only [Z1,Z2,Z3,Z4]
                  refine ZK 4 none (run_skip_by (Instr.storeAt 55 (.pointer (some ⟨W.heap.size + 1, 0, none⟩)) (layv (.slice va0 PL vc0) (.slice ya M yc) PP HV)) (by kernel_rfl) (wr55 (vs := (layl (.slice va0 PL vc0) (.slice ya M yc) PP HV)) K11 rfl (Nat.le_refl _) (layl_one (oneSl _ _ _) (oneSl _ _ _) _ _))) (B12) ?_
                  simp only [Act.put]
                  refine ZT 5 (some 15) (.bool AF) B12 ?_
                  simp only [Z1,Z2,Z3,Z4]
                  refine wpAnyH_done (by kernel_rfl) ?_ _
                  rw [show V.drew.setCells (W.heap.size + 1) 0 (layl (.slice va0 PL vc0) (.slice ya M yc) PP HV) = Z from HZ.out.symm]
                  refine hKR _ _ (wp_ret ?_)
                  show bodyPost Tryz.prog Tryz.f29 _ Exit.ret _ _
                  refine bodyPost_ret (results_two rfl rfl rfl (run_loadLr K12)) rfl ?_
                  cases AF
                  · exact ⟨S12, .inl ⟨HC9.out.trans (if_neg (by decide)), _, _, _, _, oneSl _ _ _, oneSl _ _ _, rfl⟩⟩
                  · have e9 : PP.y.length = M := hy9.out
                    have e10 : PP.y = y := hy10.out
                    rw [← e10, ← e9] at P12
                    refine ⟨S12, .inr ⟨⟨PP, HV, layY K bs y⟩, .slice va0 PL vc0, ya, yc, HC9.out.trans (if_pos rfl), ?_, G12, P12⟩⟩
                    rw [← e9]; rfl
                · have hE : HV = wrap64 (ed + VN) := by rw [← hHV]; simp only [Bool.false_eq_true, if_false]; omega
                  clear hHV
                  go_upto_region 33 with fail
                  rename_i hKR
                  obtain ⟨V, hV⟩ : ∃ q, q = ((w9.setCell ⟨XO, 8, none⟩ (.int .i64 (ed))).setCell ⟨XO, 8, none⟩ (.int .i64 (wrap64 (ed + VN)))) := ⟨_, rfl⟩
                  have B11 : Blk V.drew XO (layl (.slice va0 PL vc0) (.slice ya M yc) PP HV) 55 := by rw [hV, hE]; exact ((B9.out.set 8 (.int .i64 (ed))).set 8 (.int .i64 (wrap64 (ed + VN))))
                  have T10 : Turns XO w9 V := by rw [hV]; exact (Turns.set w9 XO 8 _).trans (Turns.set _ XO 8 _)
                  rw [← hV]
                  clear hV c1 c6 c8 f8
                  have hX1 := HXO.out
                  have S11 : Seen w1 V.drew := (Seen.turns S9.out T10 (by omega)).drew
                  have K10 : Blk V (W.heap.size + 1) (layl (.slice none 0 0) (.slice none 0 0) zPi 0) 55 := KR9.out.turns T10 (by omega)
                  have K11 : Blk V.drew (W.heap.size + 1) (layl (.slice none 0 0) (.slice none 0 0) zPi 0) 55 := K10
                  have G11 := (gr_turns GR9.out B9.out (by decide) T10).seen (Seen.refl V).drew
                  have P11 := RP.seen (rp_turns' RP9.out B9.out (by decide) T10) (Seen.refl V).drew
                  have T12 := turns_sets V.drew (W.heap.size + 1) 0 (layl (.slice va0 PL vc0) (.slice ya M yc) PP HV)
                  have B12 := B11.turns T12 (show XO ≠ W.heap.size + 1 by omega)
                  obtain ⟨Z, hZ⟩ : ∃ q, q = V.drew.setCells (W.heap.size + 1) 0 (layl (.slice va0 PL vc0) (.slice ya M yc) PP HV) := ⟨_, rfl⟩
                  have HZ := Lib.hid hZ
                  have K12 : Blk Z (W.heap.size + 1) (layl (.slice va0 PL vc0) (.slice ya M yc) PP HV) 55 := by
                    have h : Blk (V.drew.setCells (W.heap.size + 1) 0 (layl (.slice va0 PL vc0) (.slice ya M yc) PP HV)) (W.heap.size + 1) (setsL (layl (.slice none 0 0) (.slice none 0 0) zPi 0) 0 (layl (.slice va0 PL vc0) (.slice ya M yc) PP HV)) 55 := block_sets K11 0 (layl (.slice va0 PL vc0) (.slice ya M yc) PP HV) rfl
                    rw [show setsL (layl (.slice none 0 0) (.slice none 0 0) zPi 0) 0 (layl (.slice va0 PL vc0) (.slice ya M yc) PP HV) = (layl (.slice va0 PL vc0) (.slice ya M yc) PP HV) from rfl] at h
                    rw [hZ]; exact h
                  have G12 : GR pdl 116 26 Z W.heap.size (.slice va0 PL vc0) (layY K bs y) := by rw [hZ]; exact row_more (gr_turns G11 K11 (by decide) T12) (by omega)
                  have P12 : RP Z W.heap.size (.slice ya M yc) y := by rw [hZ]; exact row_more (rp_turns' P11 K11 (by decide) T12) oB
                  have S12 : Seen W Z := by rw [hZ]; exact Seen.turns (S01.out.trans S11) T12 (by omega)
                  clear hZ
                  clear G11 P11 S11 T10 T12 K10 hE
                  refine wp_region_held_drew (S := fun w' => Blk w' XO (layl (.slice va0 PL vc0) (.slice ya M yc) PP HV) 55) (by kernel_rfl) B11 (fun _ => ?_)
                  refine ZU 0 (some 164) (layv (.slice va0 PL vc0) (.slice ya M yc) PP HV) (fun _ hS => run_by (Instr.loadAt 55 (.pointer (some ⟨XO, 0, none⟩))) (by kernel_rfl) (rda55 (vs := (layl (.slice va0 PL vc0) (.slice ya M yc) PP HV)) hS.range rfl)) B11 ?_
                  simp only [Z1,Z2,Z3,Z4]
                  refine ZT 1 (some 165) (.pointer (some ⟨XO, 8, none⟩)) B11 ?_
                  simp only [Z1,Z2,Z3,Z4]
                  refine ZU 2 (some 166) (.int .i64 HV) (fun _ hS => run_by (Instr.loadAt 2 (.pointer (some ⟨XO, 8, none⟩))) (by kernel_rfl) (rd2 (hS.cell 8))) B11 ?_
                  simp only [Z1,Z2,Z3,Z4]
                  refine ZC 3 (some 167) 52 #[.int .i64 HV] ?_
                  refine (HFI.out _).mono ?_
                  rintro e wz ⟨rfl, hwz⟩
                  subst hwz
                  refine ⟨_, rfl, B11, ?_⟩
                  simp only [Z1,Z2,Z3,Z4]
                  refine ZK 4 none (run_skip_by (Instr.storeAt 55 (.pointer (some ⟨W.heap.size + 1, 0, none⟩)) (layv (.slice va0 PL vc0) (.slice ya M yc) PP HV)) (by kernel_rfl) (wr55 (vs := (layl (.slice va0 PL vc0) (.slice ya M yc) PP HV)) K11 rfl (Nat.le_refl _) (layl_one (oneSl _ _ _) (oneSl _ _ _) _ _))) (B12) ?_
                  simp only [Act.put]
                  refine ZT 5 (some 15) (.bool AF) B12 ?_
                  simp only [Z1,Z2,Z3,Z4]
                  refine wpAnyH_done (by kernel_rfl) ?_ _
                  rw [show V.drew.setCells (W.heap.size + 1) 0 (layl (.slice va0 PL vc0) (.slice ya M yc) PP HV) = Z from HZ.out.symm]
                  refine hKR _ _ (wp_ret ?_)
                  show bodyPost Tryz.prog Tryz.f29 _ Exit.ret _ _
                  refine bodyPost_ret (results_two rfl rfl rfl (run_loadLr K12)) rfl ?_
                  cases AF
                  · exact ⟨S12, .inl ⟨HC9.out.trans (if_neg (by decide)), _, _, _, _, oneSl _ _ _, oneSl _ _ _, rfl⟩⟩
                  · have e9 : PP.y.length = M := hy9.out
                    have e10 : PP.y = y := hy10.out
                    rw [← e10, ← e9] at P12
                    refine ⟨S12, .inr ⟨⟨PP, HV, layY K bs y⟩, .slice va0 PL vc0, ya, yc, HC9.out.trans (if_pos rfl), ?_, G12, P12⟩⟩
                    rw [← e9]; rfl
              · by_cases h0 : ed < 0
                · have hE : HV = 0 := by rw [← hHV]; simp only [if_true]; omega
                  clear hHV
                  go_upto_region 33 with fail
                  rename_i hKR
                  obtain ⟨V, hV⟩ : ∃ q, q = ((w9.setCell ⟨XO, 8, none⟩ (.int .i64 (ed))).setCell ⟨XO, 8, none⟩ (.int .i64 (0))) := ⟨_, rfl⟩
                  have B11 : Blk V.drew XO (layl (.slice va0 PL vc0) (.slice ya M yc) PP HV) 55 := by rw [hV, hE]; exact ((B9.out.set 8 (.int .i64 (ed))).set 8 (.int .i64 (0)))
                  have T10 : Turns XO w9 V := by rw [hV]; exact (Turns.set w9 XO 8 _).trans (Turns.set _ XO 8 _)
                  rw [← hV]
                  clear hV c1 c6 c8 f8
                  have hX1 := HXO.out
                  have S11 : Seen w1 V.drew := (Seen.turns S9.out T10 (by omega)).drew
                  have K10 : Blk V (W.heap.size + 1) (layl (.slice none 0 0) (.slice none 0 0) zPi 0) 55 := KR9.out.turns T10 (by omega)
                  have K11 : Blk V.drew (W.heap.size + 1) (layl (.slice none 0 0) (.slice none 0 0) zPi 0) 55 := K10
                  have G11 := (gr_turns GR9.out B9.out (by decide) T10).seen (Seen.refl V).drew
                  have P11 := RP.seen (rp_turns' RP9.out B9.out (by decide) T10) (Seen.refl V).drew
                  have T12 := turns_sets V.drew (W.heap.size + 1) 0 (layl (.slice va0 PL vc0) (.slice ya M yc) PP HV)
                  have B12 := B11.turns T12 (show XO ≠ W.heap.size + 1 by omega)
                  obtain ⟨Z, hZ⟩ : ∃ q, q = V.drew.setCells (W.heap.size + 1) 0 (layl (.slice va0 PL vc0) (.slice ya M yc) PP HV) := ⟨_, rfl⟩
                  have HZ := Lib.hid hZ
                  have K12 : Blk Z (W.heap.size + 1) (layl (.slice va0 PL vc0) (.slice ya M yc) PP HV) 55 := by
                    have h : Blk (V.drew.setCells (W.heap.size + 1) 0 (layl (.slice va0 PL vc0) (.slice ya M yc) PP HV)) (W.heap.size + 1) (setsL (layl (.slice none 0 0) (.slice none 0 0) zPi 0) 0 (layl (.slice va0 PL vc0) (.slice ya M yc) PP HV)) 55 := block_sets K11 0 (layl (.slice va0 PL vc0) (.slice ya M yc) PP HV) rfl
                    rw [show setsL (layl (.slice none 0 0) (.slice none 0 0) zPi 0) 0 (layl (.slice va0 PL vc0) (.slice ya M yc) PP HV) = (layl (.slice va0 PL vc0) (.slice ya M yc) PP HV) from rfl] at h
                    rw [hZ]; exact h
                  have G12 : GR pdl 116 26 Z W.heap.size (.slice va0 PL vc0) (layY K bs y) := by rw [hZ]; exact row_more (gr_turns G11 K11 (by decide) T12) (by omega)
                  have P12 : RP Z W.heap.size (.slice ya M yc) y := by rw [hZ]; exact row_more (rp_turns' P11 K11 (by decide) T12) oB
                  have S12 : Seen W Z := by rw [hZ]; exact Seen.turns (S01.out.trans S11) T12 (by omega)
                  clear hZ
                  clear G11 P11 S11 T10 T12 K10 hE
                  refine wp_region_held_drew (S := fun w' => Blk w' XO (layl (.slice va0 PL vc0) (.slice ya M yc) PP HV) 55) (by kernel_rfl) B11 (fun _ => ?_)
                  refine ZU 0 (some 164) (layv (.slice va0 PL vc0) (.slice ya M yc) PP HV) (fun _ hS => run_by (Instr.loadAt 55 (.pointer (some ⟨XO, 0, none⟩))) (by kernel_rfl) (rda55 (vs := (layl (.slice va0 PL vc0) (.slice ya M yc) PP HV)) hS.range rfl)) B11 ?_
                  simp only [Z1,Z2,Z3,Z4]
                  refine ZT 1 (some 165) (.pointer (some ⟨XO, 8, none⟩)) B11 ?_
                  simp only [Z1,Z2,Z3,Z4]
                  refine ZU 2 (some 166) (.int .i64 HV) (fun _ hS => run_by (Instr.loadAt 2 (.pointer (some ⟨XO, 8, none⟩))) (by kernel_rfl) (rd2 (hS.cell 8))) B11 ?_
                  simp only [Z1,Z2,Z3,Z4]
                  refine ZC 3 (some 167) 52 #[.int .i64 HV] ?_
                  refine (HFI.out _).mono ?_
                  rintro e wz ⟨rfl, hwz⟩
                  subst hwz
                  refine ⟨_, rfl, B11, ?_⟩
                  simp only [Z1,Z2,Z3,Z4]
                  refine ZK 4 none (run_skip_by (Instr.storeAt 55 (.pointer (some ⟨W.heap.size + 1, 0, none⟩)) (layv (.slice va0 PL vc0) (.slice ya M yc) PP HV)) (by kernel_rfl) (wr55 (vs := (layl (.slice va0 PL vc0) (.slice ya M yc) PP HV)) K11 rfl (Nat.le_refl _) (layl_one (oneSl _ _ _) (oneSl _ _ _) _ _))) (B12) ?_
                  simp only [Act.put]
                  refine ZT 5 (some 15) (.bool AF) B12 ?_
                  simp only [Z1,Z2,Z3,Z4]
                  refine wpAnyH_done (by kernel_rfl) ?_ _
                  rw [show V.drew.setCells (W.heap.size + 1) 0 (layl (.slice va0 PL vc0) (.slice ya M yc) PP HV) = Z from HZ.out.symm]
                  refine hKR _ _ (wp_ret ?_)
                  show bodyPost Tryz.prog Tryz.f29 _ Exit.ret _ _
                  refine bodyPost_ret (results_two rfl rfl rfl (run_loadLr K12)) rfl ?_
                  cases AF
                  · exact ⟨S12, .inl ⟨HC9.out.trans (if_neg (by decide)), _, _, _, _, oneSl _ _ _, oneSl _ _ _, rfl⟩⟩
                  · have e9 : PP.y.length = M := hy9.out
                    have e10 : PP.y = y := hy10.out
                    rw [← e10, ← e9] at P12
                    refine ⟨S12, .inr ⟨⟨PP, HV, layY K bs y⟩, .slice va0 PL vc0, ya, yc, HC9.out.trans (if_pos rfl), ?_, G12, P12⟩⟩
                    rw [← e9]; rfl
                · have hE : HV = ed := by rw [← hHV]; simp only [if_true]; omega
                  clear hHV
                  go_upto_region 33 with fail
                  rename_i hKR
                  obtain ⟨V, hV⟩ : ∃ q, q = (w9.setCell ⟨XO, 8, none⟩ (.int .i64 (ed))) := ⟨_, rfl⟩
                  have B11 : Blk V.drew XO (layl (.slice va0 PL vc0) (.slice ya M yc) PP HV) 55 := by rw [hV, hE]; exact (B9.out.set 8 (.int .i64 (ed)))
                  have T10 : Turns XO w9 V := by rw [hV]; exact Turns.set w9 XO 8 _
                  rw [← hV]
                  clear hV c1 c6 c8 f8
                  have hX1 := HXO.out
                  have S11 : Seen w1 V.drew := (Seen.turns S9.out T10 (by omega)).drew
                  have K10 : Blk V (W.heap.size + 1) (layl (.slice none 0 0) (.slice none 0 0) zPi 0) 55 := KR9.out.turns T10 (by omega)
                  have K11 : Blk V.drew (W.heap.size + 1) (layl (.slice none 0 0) (.slice none 0 0) zPi 0) 55 := K10
                  have G11 := (gr_turns GR9.out B9.out (by decide) T10).seen (Seen.refl V).drew
                  have P11 := RP.seen (rp_turns' RP9.out B9.out (by decide) T10) (Seen.refl V).drew
                  have T12 := turns_sets V.drew (W.heap.size + 1) 0 (layl (.slice va0 PL vc0) (.slice ya M yc) PP HV)
                  have B12 := B11.turns T12 (show XO ≠ W.heap.size + 1 by omega)
                  obtain ⟨Z, hZ⟩ : ∃ q, q = V.drew.setCells (W.heap.size + 1) 0 (layl (.slice va0 PL vc0) (.slice ya M yc) PP HV) := ⟨_, rfl⟩
                  have HZ := Lib.hid hZ
                  have K12 : Blk Z (W.heap.size + 1) (layl (.slice va0 PL vc0) (.slice ya M yc) PP HV) 55 := by
                    have h : Blk (V.drew.setCells (W.heap.size + 1) 0 (layl (.slice va0 PL vc0) (.slice ya M yc) PP HV)) (W.heap.size + 1) (setsL (layl (.slice none 0 0) (.slice none 0 0) zPi 0) 0 (layl (.slice va0 PL vc0) (.slice ya M yc) PP HV)) 55 := block_sets K11 0 (layl (.slice va0 PL vc0) (.slice ya M yc) PP HV) rfl
                    rw [show setsL (layl (.slice none 0 0) (.slice none 0 0) zPi 0) 0 (layl (.slice va0 PL vc0) (.slice ya M yc) PP HV) = (layl (.slice va0 PL vc0) (.slice ya M yc) PP HV) from rfl] at h
                    rw [hZ]; exact h
                  have G12 : GR pdl 116 26 Z W.heap.size (.slice va0 PL vc0) (layY K bs y) := by rw [hZ]; exact row_more (gr_turns G11 K11 (by decide) T12) (by omega)
                  have P12 : RP Z W.heap.size (.slice ya M yc) y := by rw [hZ]; exact row_more (rp_turns' P11 K11 (by decide) T12) oB
                  have S12 : Seen W Z := by rw [hZ]; exact Seen.turns (S01.out.trans S11) T12 (by omega)
                  clear hZ
                  clear G11 P11 S11 T10 T12 K10 hE
                  refine wp_region_held_drew (S := fun w' => Blk w' XO (layl (.slice va0 PL vc0) (.slice ya M yc) PP HV) 55) (by kernel_rfl) B11 (fun _ => ?_)
                  refine ZU 0 (some 164) (layv (.slice va0 PL vc0) (.slice ya M yc) PP HV) (fun _ hS => run_by (Instr.loadAt 55 (.pointer (some ⟨XO, 0, none⟩))) (by kernel_rfl) (rda55 (vs := (layl (.slice va0 PL vc0) (.slice ya M yc) PP HV)) hS.range rfl)) B11 ?_
                  simp only [Z1,Z2,Z3,Z4]
                  refine ZT 1 (some 165) (.pointer (some ⟨XO, 8, none⟩)) B11 ?_
                  simp only [Z1,Z2,Z3,Z4]
                  refine ZU 2 (some 166) (.int .i64 HV) (fun _ hS => run_by (Instr.loadAt 2 (.pointer (some ⟨XO, 8, none⟩))) (by kernel_rfl) (rd2 (hS.cell 8))) B11 ?_
                  simp only [Z1,Z2,Z3,Z4]
                  refine ZC 3 (some 167) 52 #[.int .i64 HV] ?_
                  refine (HFI.out _).mono ?_
                  rintro e wz ⟨rfl, hwz⟩
                  subst hwz
                  refine ⟨_, rfl, B11, ?_⟩
                  simp only [Z1,Z2,Z3,Z4]
                  refine ZK 4 none (run_skip_by (Instr.storeAt 55 (.pointer (some ⟨W.heap.size + 1, 0, none⟩)) (layv (.slice va0 PL vc0) (.slice ya M yc) PP HV)) (by kernel_rfl) (wr55 (vs := (layl (.slice va0 PL vc0) (.slice ya M yc) PP HV)) K11 rfl (Nat.le_refl _) (layl_one (oneSl _ _ _) (oneSl _ _ _) _ _))) (B12) ?_
                  simp only [Act.put]
                  refine ZT 5 (some 15) (.bool AF) B12 ?_
                  simp only [Z1,Z2,Z3,Z4]
                  refine wpAnyH_done (by kernel_rfl) ?_ _
                  rw [show V.drew.setCells (W.heap.size + 1) 0 (layl (.slice va0 PL vc0) (.slice ya M yc) PP HV) = Z from HZ.out.symm]
                  refine hKR _ _ (wp_ret ?_)
                  show bodyPost Tryz.prog Tryz.f29 _ Exit.ret _ _
                  refine bodyPost_ret (results_two rfl rfl rfl (run_loadLr K12)) rfl ?_
                  cases AF
                  · exact ⟨S12, .inl ⟨HC9.out.trans (if_neg (by decide)), _, _, _, _, oneSl _ _ _, oneSl _ _ _, rfl⟩⟩
                  · have e9 : PP.y.length = M := hy9.out
                    have e10 : PP.y = y := hy10.out
                    rw [← e10, ← e9] at P12
                    refine ⟨S12, .inr ⟨⟨PP, HV, layY K bs y⟩, .slice va0 PL vc0, ya, yc, HC9.out.trans (if_pos rfl), ?_, G12, P12⟩⟩
                    rw [← e9]; rfl
            · obtain ⟨rfl, rfl⟩ := hA0 rfl
              have hE : HV = 0 := by rw [← hHV]; cases ob <;> kernel_rfl
              clear hHV
              go_upto_region 33 with fail
              rename_i hKR
              obtain ⟨V, hV⟩ : ∃ q, q = w9 := ⟨_, rfl⟩
              have B11 : Blk V.drew XO (layl (.slice va0 PL vc0) (.slice ya M yc) PP HV) 55 := by rw [hV, hE]; exact B9.out
              have T10 : Turns XO w9 V := by rw [hV]; exact turns_sets w9 XO 0 []
              rw [← show V = w9 from hV]
              clear hV c1 c6 c8 f8
              have hX1 := HXO.out
              have S11 : Seen w1 V.drew := (Seen.turns S9.out T10 (by omega)).drew
              have K10 : Blk V (W.heap.size + 1) (layl (.slice none 0 0) (.slice none 0 0) zPi 0) 55 := KR9.out.turns T10 (by omega)
              have K11 : Blk V.drew (W.heap.size + 1) (layl (.slice none 0 0) (.slice none 0 0) zPi 0) 55 := K10
              have G11 := (gr_turns GR9.out B9.out (by decide) T10).seen (Seen.refl V).drew
              have P11 := RP.seen (rp_turns' RP9.out B9.out (by decide) T10) (Seen.refl V).drew
              have T12 := turns_sets V.drew (W.heap.size + 1) 0 (layl (.slice va0 PL vc0) (.slice ya M yc) PP HV)
              have B12 := B11.turns T12 (show XO ≠ W.heap.size + 1 by omega)
              obtain ⟨Z, hZ⟩ : ∃ q, q = V.drew.setCells (W.heap.size + 1) 0 (layl (.slice va0 PL vc0) (.slice ya M yc) PP HV) := ⟨_, rfl⟩
              have HZ := Lib.hid hZ
              have K12 : Blk Z (W.heap.size + 1) (layl (.slice va0 PL vc0) (.slice ya M yc) PP HV) 55 := by
                have h : Blk (V.drew.setCells (W.heap.size + 1) 0 (layl (.slice va0 PL vc0) (.slice ya M yc) PP HV)) (W.heap.size + 1) (setsL (layl (.slice none 0 0) (.slice none 0 0) zPi 0) 0 (layl (.slice va0 PL vc0) (.slice ya M yc) PP HV)) 55 := block_sets K11 0 (layl (.slice va0 PL vc0) (.slice ya M yc) PP HV) rfl
                rw [show setsL (layl (.slice none 0 0) (.slice none 0 0) zPi 0) 0 (layl (.slice va0 PL vc0) (.slice ya M yc) PP HV) = (layl (.slice va0 PL vc0) (.slice ya M yc) PP HV) from rfl] at h
                rw [hZ]; exact h
              have G12 : GR pdl 116 26 Z W.heap.size (.slice va0 PL vc0) (layY K bs y) := by rw [hZ]; exact row_more (gr_turns G11 K11 (by decide) T12) (by omega)
              have P12 : RP Z W.heap.size (.slice ya M yc) y := by rw [hZ]; exact row_more (rp_turns' P11 K11 (by decide) T12) oB
              have S12 : Seen W Z := by rw [hZ]; exact Seen.turns (S01.out.trans S11) T12 (by omega)
              clear hZ
              clear G11 P11 S11 T10 T12 K10 hE
              refine wp_region_held_drew (S := fun w' => Blk w' XO (layl (.slice va0 PL vc0) (.slice ya M yc) PP HV) 55) (by kernel_rfl) B11 (fun _ => ?_)
              refine ZU 0 (some 164) (layv (.slice va0 PL vc0) (.slice ya M yc) PP HV) (fun _ hS => run_by (Instr.loadAt 55 (.pointer (some ⟨XO, 0, none⟩))) (by kernel_rfl) (rda55 (vs := (layl (.slice va0 PL vc0) (.slice ya M yc) PP HV)) hS.range rfl)) B11 ?_
              simp only [Z1,Z2,Z3,Z4]
              refine ZT 1 (some 165) (.pointer (some ⟨XO, 8, none⟩)) B11 ?_
              simp only [Z1,Z2,Z3,Z4]
              refine ZU 2 (some 166) (.int .i64 HV) (fun _ hS => run_by (Instr.loadAt 2 (.pointer (some ⟨XO, 8, none⟩))) (by kernel_rfl) (rd2 (hS.cell 8))) B11 ?_
              simp only [Z1,Z2,Z3,Z4]
              refine ZC 3 (some 167) 52 #[.int .i64 HV] ?_
              refine (HFI.out _).mono ?_
              rintro e wz ⟨rfl, hwz⟩
              subst hwz
              refine ⟨_, rfl, B11, ?_⟩
              simp only [Z1,Z2,Z3,Z4]
              refine ZK 4 none (run_skip_by (Instr.storeAt 55 (.pointer (some ⟨W.heap.size + 1, 0, none⟩)) (layv (.slice va0 PL vc0) (.slice ya M yc) PP HV)) (by kernel_rfl) (wr55 (vs := (layl (.slice va0 PL vc0) (.slice ya M yc) PP HV)) K11 rfl (Nat.le_refl _) (layl_one (oneSl _ _ _) (oneSl _ _ _) _ _))) (B12) ?_
              simp only [Act.put]
              refine ZT 5 (some 15) (.bool AF) B12 ?_
              simp only [Z1,Z2,Z3,Z4]
              refine wpAnyH_done (by kernel_rfl) ?_ _
              rw [show V.drew.setCells (W.heap.size + 1) 0 (layl (.slice va0 PL vc0) (.slice ya M yc) PP HV) = Z from HZ.out.symm]
              refine hKR _ _ (wp_ret ?_)
              show bodyPost Tryz.prog Tryz.f29 _ Exit.ret _ _
              refine bodyPost_ret (results_two rfl rfl rfl (run_loadLr K12)) rfl ?_
              cases AF
              · exact ⟨S12, .inl ⟨HC9.out.trans (if_neg (by decide)), _, _, _, _, oneSl _ _ _, oneSl _ _ _, rfl⟩⟩
              · have e9 : PP.y.length = M := hy9.out
                have e10 : PP.y = y := hy10.out
                rw [← e10, ← e9] at P12
                refine ⟨S12, .inr ⟨⟨PP, HV, layY K bs y⟩, .slice va0 PL vc0, ya, yc, HC9.out.trans (if_pos rfl), ?_, G12, P12⟩⟩
                rw [← e9]; rfl
end Go.Proofs.YtngeaigkafamiaaGreat

