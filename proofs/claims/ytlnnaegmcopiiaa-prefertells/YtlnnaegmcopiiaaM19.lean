/- Texts of the proof, merged: PfR. -/
import Derived.Test.YtlnnaegmcopiiaaM17
import Derived.Test.YtlnnaegmcopiiaaM18
import Derived.Test.YtlnnaegmcopiiaaM10
import Derived.Test.YtlnnaegmcopiiaaM13
/- Contract of the reference of layer 15; no conditions beyond those written in each theorem. -/
namespace Go.Proofs.Ytlnnaegmcopiiaa
open Go.ChangeShapes Go.WideShapes Go.ChangeAt Go.RowKit
set_option maxRecDepth 100000
theorem flowTo_in {l : List Nd} {m : Nat} (h : m < l.length) : flowTo l m l.length = flowV l m := by unfold flowV; rw [inB_nat h]; rfl
theorem styAt_nat {l : List Nd} {m : Nat} (h : m < l.length) : styAt l m = (nd l m).s := by unfold styAt; rw [inB_nat h]; rfl
/-- The reference's contract, for the nodes from some depth on. -/
def RfOK (l : List Nd) (w0 : World) (ad : Option Addr) (N cp : Nat) (k : Nat) : Prop :=
  ∀ n : Nat, n < N → N - n ≤ k → madeB l n = true → ∀ W, Seen w0 W → Calls Try.prog 9 #[.slice ad N cp, .int .i64 (n : Int)] W fun e w' => e = .returned (prA (prO l k n)) ∧ Seen W w'
set_option maxHeartbeats 8000000 in
theorem refContent_step {l : List Nd} {w0 : World} {ad : Option Addr} {N cp : Nat} {k : Nat} (hf : FormedT l) (hl : N ≤ 65535) (hNS : NS w0 ad N l) (hB : RfOK l w0 ad N cp k) : RfOK l w0 ad N cp (k + 1) := by
  intro n hn hk hm W hs
  have HN : Hid (l.length = N) := hNS.1
  have hnl : n < l.length := by have := HN.out; omega
  have HS := Lib.hid hs
  have HBB := Lib.hid hB
  have HFM := Lib.hid fun x (hx : x ∈ flowV l n) => flow_mem hf hx
  have HLF : Hid ((flowV l n).length ≤ 1000000) := by
    have h1 := kidsV_length l n
    have h2 := List.length_filter_le (flowF l) (kidsV l n)
    have := HN.out
    rw [flowV_kids]
    unfold Hid
    omega
  have HMD : Hid (∀ w, Seen w0 w → Calls Try.prog 23 #[.slice ad N cp, .int .i64 n] w fun e w' => e = .returned (.bool true) ∧ w' = w) := fun w h => by
    have := refMade_any ad N cp l n w (hNS.seen h) hf (by omega)
    rwa [inB_nat hnl, hm] at this
  have HFK : Hid (∀ w, Seen w0 w → Calls Try.prog 24 #[.slice ad N cp, .int .i64 n] w (RowI w (flowV l n))) := fun w h => by
    have := refFlow_any ad N cp l n w (hNS.seen h) hf (by omega)
    rwa [← HN.out, flowTo_in hnl, HN.out] at this
  have HPR := Lib.hid (show prO l (k + 1) n = bndP (styAt l n) (if (lat (styAt l n).lens 4).k = 1 then some (lat (styAt l n).lens 4).n else prW (fun k_1 => outP (styAt l k_1) (prO l k k_1)) (flowV l n) 0) from rfl)
  have hfs := styAt_full l n
  obtain ⟨b, off, rfl, hats⟩ := hNS.ats (by omega)
  have AN := Lib.hid ((hats n hn).seen hs)
  have HAT := Lib.hid hats
  rw [styAt_nat hnl] at HPR hfs
  obtain ⟨s, hss⟩ : ∃ s, (nd l n).s = s := ⟨_, rfl⟩
  rw [hss] at HPR hfs
  have HSS := Lib.hid hss
  have HKM : Hid (∀ x, x ∈ flowV l n → ∃ X : Nat, x = X ∧ X < N ∧ N - X ≤ k ∧ madeB l X = true) := fun x hx => by
    obtain ⟨m, h1, h2, h3, h4, _⟩ := HFM.out x hx
    have := HN.out
    exact ⟨m, h1, by omega, by omega, h4⟩
  obtain ⟨L, hL⟩ : ∃ L, flowV l n = L := ⟨_, rfl⟩
  rw [hL] at HFK HPR HLF HKM
  obtain ⟨R, hR⟩ : ∃ R, prW (fun q => outP (styAt l q) (prO l k q)) L 0 = R := ⟨_, rfl⟩
  rw [hR] at HPR
  have HR := Lib.hid hR
  have HF := Lib.hid hfs
  obtain ⟨RES, hRES⟩ : ∃ q, prO l (k + 1) n = q := ⟨_, rfl⟩
  rw [hRES] at HPR ⊢
  have hn' : (n : Int) < (N : Int) := by omega
  clear hRES hss hL hR hfs hs hNS hB hf hk hm HFM hats hnl
  have HBD : Hid (∀ x, bndP s (some x) = some (clampI x (uN (lat s.lens 6) 0) (uN (lat s.lens 7) 1125899906842624))) := fun x => rfl
  obtain ⟨⟨k4, n4⟩, hq4⟩ : ∃ q, lat s.lens 4 = q := ⟨_, rfl⟩
  have hk4 := Lib.hid hq4
  rw [hq4] at HPR
  clear hq4
  obtain ⟨⟨k6, n6⟩, hq6⟩ : ∃ q, lat s.lens 6 = q := ⟨_, rfl⟩
  have hk6 := Lib.hid hq6
  rw [hq6] at HBD
  clear hq6
  obtain ⟨⟨k7, n7⟩, hq7⟩ : ∃ q, lat s.lens 7 = q := ⟨_, rfl⟩
  have hk7 := Lib.hid hq7
  rw [hq7] at HBD
  clear hq7
  go_enter Try.func9, Try.ntmps9
  go_upto_region 4 with (first
    | (go_at_call 23; refine (HMD.out W HS.out).mono ?_; clear HMD; rintro e w1 ⟨rfl, hb⟩; rw [hb]; clear hb)
    | (refine wpList_loadNS rfl (.tmp 22) rfl b (off + n * 49) (nd l n) rfl AN.out ?_; clear AN)
    | (rw [zero_lit]; refine wpList_storeS rfl (.tmp 6) (.tmp 23) rfl W.heap.size zeroS (nd l n).s rfl rfl (nd l n).full zero_full (hs_new W zeroS) ?_; intro W5 b5 t5; (have SW := Lib.hid (Seen.fresh (Seen.refl W) t5)); (have KS : Hid (Hs W5 W.heap.size s) := by rw [← HSS.out]; exact b5); clear b5 t5))
  have ck : W5.cell? ⟨W.heap.size, 10, none⟩ = some (.int .i64 k4) := by rw [KS.out.at 10, (stl_len HF.out (i := 4) (by decide)).1, hk4.out]
  have cn : W5.cell? ⟨W.heap.size, 11, none⟩ = some (.int .i64 n4) := by rw [KS.out.at 11, (stl_len HF.out (i := 4) (by decide)).2, hk4.out]
  go_upto_region 6 with (go_at_call 24; refine (HFK.out W5 (HS.out.trans SW.out)).mono ?_; clear HFK; rintro e w7 ⟨u, rfl, hr, hb⟩; have S7 := Lib.hid (show Seen W5 w7 from hb); obtain ⟨ad2, c2, rfl, hzz, _⟩ := hr.slice; have HZ := Lib.hid hzz; clear hr hb hzz)
  have ck := S7.out.cell ck
  have cn := S7.out.cell cn
  by_cases h1 : k4 = 1
  · subst h1
    have HRS : Hid (Ending.returned (.tuple #[.int .i64 (clampI n4 (uN ⟨k6, n6⟩ 0) (uN ⟨k7, n7⟩ 1125899906842624)), .bool true]) = Ending.returned (prA RES)) := by
      unfold Hid; rw [HPR.out, if_pos rfl, HBD.out]; rfl
    clear HPR HBD HR HZ HBB HKM
    go_wp2_with fail
    clear ck cn
    go_loopw [7, 36] (fun q i wr => q = .int .i64 n4 ∧ i = .int .i64 0 ∧ Seen W5 wr) (fun _ i _ => 0)
    case atStart => exact ⟨rfl, rfl, S7.out⟩
    case round =>
      obtain ⟨rfl, rfl, hs⟩ := hrel
      have S8 := Lib.hid hs
      clear hs
      go_upto_region 19 with fail
      have acc0 : Seen W5 wr.drew := S8.out.drew
      refine wp_region_held_drew (S := fun w' => Seen W5 w') (by kernel_rfl) acc0 (fun _ => ?_)
      refine hTake 0 (some 95) (.int .i64 n4) (by kernel_rfl) (by kernel_rfl) (by kernel_rfl) (by kernel_rfl) (by kernel_rfl) (by kernel_rfl) (fun _ _ _ h => h) (fun w' hS => by kernel_rfl) acc0 ?_
      simp only [Act.put, List.setIfInBounds_toArray, List.set_cons_zero, List.set_cons_succ]
      refine hTake 1 (some 96) (.pointer (some ⟨W.heap.size, 14, none⟩)) (by kernel_rfl) (by kernel_rfl) (by kernel_rfl) (by kernel_rfl) (by kernel_rfl) (by kernel_rfl) (fun _ _ _ h => h) (fun w' hS => by kernel_rfl) acc0 ?_
      simp only [Act.put, List.setIfInBounds_toArray, List.set_cons_zero, List.set_cons_succ]
      refine hTake 2 (some 97) (.agg #[.int .i64 k6, .int .i64 n6]) (by kernel_rfl) (by kernel_rfl) (by kernel_rfl) (by kernel_rfl) (by kernel_rfl) (by kernel_rfl) (fun _ _ _ h => h) (fun w' hS => run_by (Instr.loadAt 35 (.pointer (some ⟨W.heap.size, 14, none⟩))) (by kernel_rfl) (ldLen (KS.out.seen hS) HF.out (i := 6) (by decide) rfl hk6.out)) acc0 ?_
      simp only [Act.put, List.setIfInBounds_toArray, List.set_cons_zero, List.set_cons_succ]
      refine hTake 4 (some 99) (.pointer (some ⟨W.heap.size, 16, none⟩)) (by kernel_rfl) (by kernel_rfl) (by kernel_rfl) (by kernel_rfl) (by kernel_rfl) (by kernel_rfl) (fun _ _ _ h => h) (fun w' hS => by kernel_rfl) acc0 ?_
      simp only [Act.put, List.setIfInBounds_toArray, List.set_cons_zero, List.set_cons_succ]
      refine hTake 5 (some 100) (.agg #[.int .i64 k7, .int .i64 n7]) (by kernel_rfl) (by kernel_rfl) (by kernel_rfl) (by kernel_rfl) (by kernel_rfl) (by kernel_rfl) (fun _ _ _ h => h) (fun w' hS => run_by (Instr.loadAt 35 (.pointer (some ⟨W.heap.size, 16, none⟩))) (by kernel_rfl) (ldLen (KS.out.seen hS) HF.out (i := 7) (by decide) rfl hk7.out)) acc0 ?_
      simp only [Act.put, List.setIfInBounds_toArray, List.set_cons_zero, List.set_cons_succ]
      refine hCall 3 (some 98) 26 #[.agg #[.int .i64 k6, .int .i64 n6], .int .i64 0] (by kernel_rfl) (by kernel_rfl) (by kernel_rfl) (by kernel_rfl) (by kernel_rfl) ?_
      refine (units_ref k6 n6 0 _).mono ?_
      rintro e wd1 ⟨rfl, hb⟩
      have acc1 : Seen W5 wd1 := Seen.next acc0 hb
      clear hb
      refine ⟨_, rfl, acc1, ?_⟩
      simp only [Act.put, List.setIfInBounds_toArray, List.set_cons_zero, List.set_cons_succ]
      refine hCall 6 (some 101) 26 #[.agg #[.int .i64 k7, .int .i64 n7], .int .i64 1125899906842624] (by kernel_rfl) (by kernel_rfl) (by kernel_rfl) (by kernel_rfl) (by kernel_rfl) ?_
      refine (units_ref k7 n7 1125899906842624 _).mono ?_
      rintro e wd2 ⟨rfl, hb⟩
      have acc2 : Seen W5 wd2 := Seen.next acc1 hb
      clear hb
      refine ⟨_, rfl, acc2, ?_⟩
      simp only [Act.put, List.setIfInBounds_toArray, List.set_cons_zero, List.set_cons_succ]
      refine hCall 7 (some 102) 27 #[.int .i64 n4, .int .i64 (uN ⟨k6, n6⟩ 0), .int .i64 (uN ⟨k7, n7⟩ 1125899906842624)] (by kernel_rfl) (by kernel_rfl) (by kernel_rfl) (by kernel_rfl) (by kernel_rfl) ?_
      refine (refClamp_seen n4 (uN ⟨k6, n6⟩ 0) (uN ⟨k7, n7⟩ 1125899906842624) _).mono ?_
      rintro e wd3 ⟨rfl, hb⟩
      have acc3 : Seen W5 wd3 := Seen.next acc2 hb
      clear hb
      refine ⟨_, rfl, acc3, ?_⟩
      simp only [Act.put, List.setIfInBounds_toArray, List.set_cons_zero, List.set_cons_succ]
      refine hTake 8 (some 4) (.int .i64 (clampI n4 (uN ⟨k6, n6⟩ 0) (uN ⟨k7, n7⟩ 1125899906842624))) (by kernel_rfl) (by kernel_rfl) (by kernel_rfl) (by kernel_rfl) (by kernel_rfl) (by kernel_rfl) (fun _ _ _ h => h) (fun w' hS => by kernel_rfl) acc3 ?_
      simp only [Act.put, List.setIfInBounds_toArray, List.set_cons_zero, List.set_cons_succ]
      refine hTake 9 (some 5) (.bool true) (by kernel_rfl) (by kernel_rfl) (by kernel_rfl) (by kernel_rfl) (by kernel_rfl) (by kernel_rfl) (fun _ _ _ h => h) (fun w' hS => by kernel_rfl) acc3 ?_
      simp only [Act.put, List.setIfInBounds_toArray, List.set_cons_zero, List.set_cons_succ]
      refine wpAnyH_done (by kernel_rfl) ?_ _
      have z1 := acc3
      go_wp2_with fail
      go_ret2
      exact ⟨HRS.out, SW.out.trans z1⟩
  · have h1b : (k4 == 1) = false := by simpa using h1
    have HPR2 := Lib.hid (HPR.out.trans (congrArg (bndP s) (if_neg h1)))
    clear HPR HSS
    have HMM := Lib.hid (show L.length = L.length from rfl)
    obtain ⟨M, hM⟩ : ∃ M, L.length = M := ⟨_, rfl⟩
    rw [hM] at HZ HLF ⊢
    have HM := Lib.hid hM
    clear hM HMM
    go_wp2_with fail
    clear ck cn
    go_loopw [7, 36] (fun q i wr => ∃ (t : Nat) (v : Int), i = .int .i64 t ∧ t ≤ M ∧ q = .int .i64 v ∧ Hid (prW (fun q => outP (styAt l q) (prO l k q)) (L.drop t) v = R ∧ True) ∧ Seen w7 wr) (fun _ i _ => M - (intOf i).toNat)
    case atStart => exact ⟨0, 0, rfl, by omega, rfl, ⟨HR.out, trivial⟩, Seen.refl _⟩
    case round =>
      obtain ⟨t, v, rfl, ht, rfl, HREL, hs⟩ := hrel
      have S8 := Lib.hid hs
      clear hs HR
      by_cases hlt : t < M
      · have ht' : (t : Int) < (M : Int) := by omega
        have HLT := Lib.hid hlt
        have hMb := HLF.out
        have hlK : t < L.length := by have := HM.out; omega
        obtain ⟨b2, off2, rfl, hc⟩ := HZ.out.cells (by omega)
        have c1 := S8.out.cell (hc t hlt)
        obtain ⟨X, hX, hX1, hX2, hX3⟩ := HKM.out _ (bat_mem hlK)
        have HP := Lib.hid (prW_cons (O := fun q => outP (styAt l q) (prO l k q)) hlK v)
        rw [HP.out] at HREL
        rw [hX] at c1 HREL
        have hXl : X < l.length := by have := HN.out; omega
        have hX' : (X : Int) < (N : Int) := by omega
        have HW := Lib.hid (HS.out.trans (SW.out.trans (S7.out.trans S8.out)))
        have AX := Lib.hid ((HAT.out X hX1).seen HW.out)
        have CK := Lib.hid c1
        have HC1 : Hid (∀ w', Seen w0 w' → Calls Try.prog 9 #[.slice (some ⟨b, off, none⟩) N cp, .int .i64 X] w' fun e w'' => e = .returned (prA (prO l k X)) ∧ Seen w' w'') := fun w' h' => HBB.out X hX1 hX2 hX3 w' h'
        simp only [styAt_nat hXl] at HREL
        obtain ⟨c, hcs⟩ : ∃ c, (nd l X).s = c := ⟨_, rfl⟩
        have HFC : Hid (Full c) := by rw [← hcs]; exact (nd l X).full
        rw [hcs] at HREL
        have HCS := Lib.hid hcs
        obtain ⟨o, ho⟩ : ∃ o, prO l k X = o := ⟨_, rfl⟩
        rw [ho] at HREL HC1
        clear hX hc hlK HP hcs ho hXl hX2 hX3 HBB HKM HZ HAT
        cases o with
        | none =>
          have HNO : Hid (Ending.returned (.tuple #[.int .i64 0, .bool false]) = Ending.returned (prA RES)) := by
            have e : none = R := HREL.out.1
            unfold Hid; rw [HPR2.out, ← e]; rfl
          have HC1 : Hid (∀ w', Seen w0 w' → Calls Try.prog 9 #[.slice (some ⟨b, off, none⟩) N cp, .int .i64 X] w' fun e w'' => e = .returned (.tuple #[.int .i64 0, .bool false]) ∧ Seen w' w'') := HC1
          clear HREL HPR2
          have HV := Lib.hid (show zsO c 0 = [uN (lat c.lens 13) 0, bat c.bord 3, uN (lat c.lens 17) 0, 0, uN (lat c.lens 15) 0, bat c.bord 1, uN (lat c.lens 11) 0] from rfl)
          obtain ⟨⟨k13, n13⟩, hq13⟩ : ∃ q, lat c.lens 13 = q := ⟨_, rfl⟩
          have hk13 := Lib.hid hq13
          rw [hq13] at HV
          clear hq13
          obtain ⟨⟨k17, n17⟩, hq17⟩ : ∃ q, lat c.lens 17 = q := ⟨_, rfl⟩
          have hk17 := Lib.hid hq17
          rw [hq17] at HV
          clear hq17
          obtain ⟨⟨k15, n15⟩, hq15⟩ : ∃ q, lat c.lens 15 = q := ⟨_, rfl⟩
          have hk15 := Lib.hid hq15
          rw [hq15] at HV
          clear hq15
          obtain ⟨⟨k11, n11⟩, hq11⟩ : ∃ q, lat c.lens 11 = q := ⟨_, rfl⟩
          have hk11 := Lib.hid hq11
          rw [hq11] at HV
          clear hq11
          obtain ⟨b3, hq3⟩ : ∃ q, bat c.bord 3 = q := ⟨_, rfl⟩
          have hb3 := Lib.hid hq3
          rw [hq3] at HV
          clear hq3
          obtain ⟨b1, hq1⟩ : ∃ q, bat c.bord 1 = q := ⟨_, rfl⟩
          have hb1 := Lib.hid hq1
          rw [hq1] at HV
          clear hq1
          obtain ⟨SN, hSN⟩ : ∃ q, sumN [uN ⟨k13, n13⟩ 0, b3, uN ⟨k17, n17⟩ 0, 0, uN ⟨k15, n15⟩ 0, b1, uN ⟨k11, n11⟩ 0] = q := ⟨_, rfl⟩
          obtain ⟨SB, hSB⟩ : ∃ q, sumB [uN ⟨k13, n13⟩ 0, b3, uN ⟨k17, n17⟩ 0, 0, uN ⟨k15, n15⟩ 0, b1, uN ⟨k11, n11⟩ 0] = q := ⟨_, rfl⟩
          have SUMC : ∀ (a : Option Addr) (m c : Nat) (zs : List Int) (w : World) (_ : zs = [uN ⟨k13, n13⟩ 0, b3, uN ⟨k17, n17⟩ 0, 0, uN ⟨k15, n15⟩ 0, b1, uN ⟨k11, n11⟩ 0]) (h : ZI w a m zs) (hn : m ≤ 4000), Calls Try.prog 25 #[.slice a m c] w fun e w' => e = .returned (.tuple #[.int .i64 SN, .bool SB]) ∧ w = w' := fun a m c zs w he h hn => by
            have := refSum_any a m c zs w h hn
            rw [he, hSN, hSB] at this
            exact this
          clear HV hSN hSB
          go_upto_region 13 with (first
            | (refine wpList_loadNS rfl (.tmp 45) rfl b (off + X * 49) (nd l X) rfl AX.out ?_; clear AX)
            | (rw [zero_lit]; refine wpList_storeS rfl (.tmp 10) (.tmp 46) rfl wr.heap.size zeroS (nd l X).s rfl rfl (nd l X).full zero_full (hs_new wr zeroS) ?_; intro V5 b5 t5; (have V5S := Lib.hid (Seen.fresh (Seen.refl wr) t5)); (have KC : Hid (Hs V5 wr.heap.size c) := by rw [← HCS.out]; exact b5); (have c2 := V5S.out.cell CK.out); clear b5 t5 c1)
            | (go_at_call 9; refine (HC1.out V5 (HW.out.trans V5S.out)).mono ?_; clear HC1 c2; rintro e V6 ⟨rfl, hb⟩; have V6S := Lib.hid (show Seen V5 V6 from hb); clear hb))
          have acc0 : Seen V5 V6.drew := V6S.out.drew
          clear V6S
          refine wp_region_held_drew (S := fun w' => Seen V5 w') (by kernel_rfl) acc0 (fun _ => ?_)
          refine hTake 0 (some 57) (.pointer (some ⟨wr.heap.size, 22, none⟩)) (by kernel_rfl) (by kernel_rfl) (by kernel_rfl) (by kernel_rfl) (by kernel_rfl) (by kernel_rfl) (fun _ _ _ h => h) (fun w' hS => by kernel_rfl) acc0 ?_
          simp only [Act.put, List.setIfInBounds_toArray, List.set_cons_zero, List.set_cons_succ]
          refine hTake 1 (some 58) (.pointer (some ⟨wr.heap.size, 28, none⟩)) (by kernel_rfl) (by kernel_rfl) (by kernel_rfl) (by kernel_rfl) (by kernel_rfl) (by kernel_rfl) (fun _ _ _ h => h) (fun w' hS => by kernel_rfl) acc0 ?_
          simp only [Act.put, List.setIfInBounds_toArray, List.set_cons_zero, List.set_cons_succ]
          refine hTake 2 (some 59) (.agg #[.int .i64 k13, .int .i64 n13]) (by kernel_rfl) (by kernel_rfl) (by kernel_rfl) (by kernel_rfl) (by kernel_rfl) (by kernel_rfl) (fun _ _ _ h => h) (fun w' hS => run_by (Instr.loadAt 35 (.pointer (some ⟨wr.heap.size, 28, none⟩))) (by kernel_rfl) (ldLen (KC.out.seen hS) HFC.out (i := 13) (by decide) rfl hk13.out)) acc0 ?_
          simp only [Act.put, List.setIfInBounds_toArray, List.set_cons_zero, List.set_cons_succ]
          refine hTake 4 (some 61) (.pointer (some ⟨wr.heap.size, 38, none⟩)) (by kernel_rfl) (by kernel_rfl) (by kernel_rfl) (by kernel_rfl) (by kernel_rfl) (by kernel_rfl) (fun _ _ _ h => h) (fun w' hS => by kernel_rfl) acc0 ?_
          simp only [Act.put, List.setIfInBounds_toArray, List.set_cons_zero, List.set_cons_succ]
          refine hTake 5 (some 62) (.pointer (some ⟨wr.heap.size, 41, none⟩)) (by kernel_rfl) (by kernel_rfl) (by kernel_rfl) (by kernel_rfl) (by kernel_rfl) (by kernel_rfl) (fun _ _ _ h => h) (fun w' hS => by kernel_rfl) acc0 ?_
          simp only [Act.put, List.setIfInBounds_toArray, List.set_cons_zero, List.set_cons_succ]
          refine hTake 6 (some 63) (.int .i64 b3) (by kernel_rfl) (by kernel_rfl) (by kernel_rfl) (by kernel_rfl) (by kernel_rfl) (by kernel_rfl) (fun _ _ _ h => h) (fun w' hS => run_by (Instr.loadAt 2 (.pointer (some ⟨wr.heap.size, 41, none⟩))) (by kernel_rfl) (ldBord (KC.out.seen hS) HFC.out (i := 3) (by decide) rfl hb3.out)) acc0 ?_
          simp only [Act.put, List.setIfInBounds_toArray, List.set_cons_zero, List.set_cons_succ]
          refine hTake 7 (some 64) (.pointer (some ⟨wr.heap.size, 30, none⟩)) (by kernel_rfl) (by kernel_rfl) (by kernel_rfl) (by kernel_rfl) (by kernel_rfl) (by kernel_rfl) (fun _ _ _ h => h) (fun w' hS => by kernel_rfl) acc0 ?_
          simp only [Act.put, List.setIfInBounds_toArray, List.set_cons_zero, List.set_cons_succ]
          refine hTake 8 (some 65) (.pointer (some ⟨wr.heap.size, 36, none⟩)) (by kernel_rfl) (by kernel_rfl) (by kernel_rfl) (by kernel_rfl) (by kernel_rfl) (by kernel_rfl) (fun _ _ _ h => h) (fun w' hS => by kernel_rfl) acc0 ?_
          simp only [Act.put, List.setIfInBounds_toArray, List.set_cons_zero, List.set_cons_succ]
          refine hTake 9 (some 66) (.agg #[.int .i64 k17, .int .i64 n17]) (by kernel_rfl) (by kernel_rfl) (by kernel_rfl) (by kernel_rfl) (by kernel_rfl) (by kernel_rfl) (fun _ _ _ h => h) (fun w' hS => run_by (Instr.loadAt 35 (.pointer (some ⟨wr.heap.size, 36, none⟩))) (by kernel_rfl) (ldLen (KC.out.seen hS) HFC.out (i := 17) (by decide) rfl hk17.out)) acc0 ?_
          simp only [Act.put, List.setIfInBounds_toArray, List.set_cons_zero, List.set_cons_succ]
          refine hTake 11 (some 68) (.int .i64 0) (by kernel_rfl) (by kernel_rfl) (by kernel_rfl) (by kernel_rfl) (by kernel_rfl) (by kernel_rfl) (fun _ _ _ h => h) (fun w' hS => by kernel_rfl) acc0 ?_
          simp only [Act.put, List.setIfInBounds_toArray, List.set_cons_zero, List.set_cons_succ]
          refine hTake 12 (some 69) (.pointer (some ⟨wr.heap.size, 30, none⟩)) (by kernel_rfl) (by kernel_rfl) (by kernel_rfl) (by kernel_rfl) (by kernel_rfl) (by kernel_rfl) (fun _ _ _ h => h) (fun w' hS => by kernel_rfl) acc0 ?_
          simp only [Act.put, List.setIfInBounds_toArray, List.set_cons_zero, List.set_cons_succ]
          refine hTake 13 (some 70) (.pointer (some ⟨wr.heap.size, 32, none⟩)) (by kernel_rfl) (by kernel_rfl) (by kernel_rfl) (by kernel_rfl) (by kernel_rfl) (by kernel_rfl) (fun _ _ _ h => h) (fun w' hS => by kernel_rfl) acc0 ?_
          simp only [Act.put, List.setIfInBounds_toArray, List.set_cons_zero, List.set_cons_succ]
          refine hTake 14 (some 71) (.agg #[.int .i64 k15, .int .i64 n15]) (by kernel_rfl) (by kernel_rfl) (by kernel_rfl) (by kernel_rfl) (by kernel_rfl) (by kernel_rfl) (fun _ _ _ h => h) (fun w' hS => run_by (Instr.loadAt 35 (.pointer (some ⟨wr.heap.size, 32, none⟩))) (by kernel_rfl) (ldLen (KC.out.seen hS) HFC.out (i := 15) (by decide) rfl hk15.out)) acc0 ?_
          simp only [Act.put, List.setIfInBounds_toArray, List.set_cons_zero, List.set_cons_succ]
          refine hTake 16 (some 73) (.pointer (some ⟨wr.heap.size, 38, none⟩)) (by kernel_rfl) (by kernel_rfl) (by kernel_rfl) (by kernel_rfl) (by kernel_rfl) (by kernel_rfl) (fun _ _ _ h => h) (fun w' hS => by kernel_rfl) acc0 ?_
          simp only [Act.put, List.setIfInBounds_toArray, List.set_cons_zero, List.set_cons_succ]
          refine hTake 17 (some 74) (.pointer (some ⟨wr.heap.size, 39, none⟩)) (by kernel_rfl) (by kernel_rfl) (by kernel_rfl) (by kernel_rfl) (by kernel_rfl) (by kernel_rfl) (fun _ _ _ h => h) (fun w' hS => by kernel_rfl) acc0 ?_
          simp only [Act.put, List.setIfInBounds_toArray, List.set_cons_zero, List.set_cons_succ]
          refine hTake 18 (some 75) (.int .i64 b1) (by kernel_rfl) (by kernel_rfl) (by kernel_rfl) (by kernel_rfl) (by kernel_rfl) (by kernel_rfl) (fun _ _ _ h => h) (fun w' hS => run_by (Instr.loadAt 2 (.pointer (some ⟨wr.heap.size, 39, none⟩))) (by kernel_rfl) (ldBord (KC.out.seen hS) HFC.out (i := 1) (by decide) rfl hb1.out)) acc0 ?_
          simp only [Act.put, List.setIfInBounds_toArray, List.set_cons_zero, List.set_cons_succ]
          refine hTake 19 (some 76) (.pointer (some ⟨wr.heap.size, 22, none⟩)) (by kernel_rfl) (by kernel_rfl) (by kernel_rfl) (by kernel_rfl) (by kernel_rfl) (by kernel_rfl) (fun _ _ _ h => h) (fun w' hS => by kernel_rfl) acc0 ?_
          simp only [Act.put, List.setIfInBounds_toArray, List.set_cons_zero, List.set_cons_succ]
          refine hTake 20 (some 77) (.pointer (some ⟨wr.heap.size, 24, none⟩)) (by kernel_rfl) (by kernel_rfl) (by kernel_rfl) (by kernel_rfl) (by kernel_rfl) (by kernel_rfl) (fun _ _ _ h => h) (fun w' hS => by kernel_rfl) acc0 ?_
          simp only [Act.put, List.setIfInBounds_toArray, List.set_cons_zero, List.set_cons_succ]
          refine hTake 21 (some 78) (.agg #[.int .i64 k11, .int .i64 n11]) (by kernel_rfl) (by kernel_rfl) (by kernel_rfl) (by kernel_rfl) (by kernel_rfl) (by kernel_rfl) (fun _ _ _ h => h) (fun w' hS => run_by (Instr.loadAt 35 (.pointer (some ⟨wr.heap.size, 24, none⟩))) (by kernel_rfl) (ldLen (KC.out.seen hS) HFC.out (i := 11) (by decide) rfl hk11.out)) acc0 ?_
          simp only [Act.put, List.setIfInBounds_toArray, List.set_cons_zero, List.set_cons_succ]
          refine hCall 3 (some 60) 26 #[.agg #[.int .i64 k13, .int .i64 n13], .int .i64 0] (by kernel_rfl) (by kernel_rfl) (by kernel_rfl) (by kernel_rfl) (by kernel_rfl) ?_
          refine (units_ref k13 n13 0 _).mono ?_
          rintro e wd1 ⟨rfl, hb⟩
          have acc1 : Seen V5 wd1 := Seen.next acc0 hb
          clear hb
          refine ⟨_, rfl, acc1, ?_⟩
          simp only [Act.put, List.setIfInBounds_toArray, List.set_cons_zero, List.set_cons_succ]
          refine hCall 10 (some 67) 26 #[.agg #[.int .i64 k17, .int .i64 n17], .int .i64 0] (by kernel_rfl) (by kernel_rfl) (by kernel_rfl) (by kernel_rfl) (by kernel_rfl) ?_
          refine (units_ref k17 n17 0 _).mono ?_
          rintro e wd2 ⟨rfl, hb⟩
          have acc2 : Seen V5 wd2 := Seen.next acc1 hb
          clear hb
          refine ⟨_, rfl, acc2, ?_⟩
          simp only [Act.put, List.setIfInBounds_toArray, List.set_cons_zero, List.set_cons_succ]
          refine hCall 15 (some 72) 26 #[.agg #[.int .i64 k15, .int .i64 n15], .int .i64 0] (by kernel_rfl) (by kernel_rfl) (by kernel_rfl) (by kernel_rfl) (by kernel_rfl) ?_
          refine (units_ref k15 n15 0 _).mono ?_
          rintro e wd3 ⟨rfl, hb⟩
          have acc3 : Seen V5 wd3 := Seen.next acc2 hb
          clear hb
          refine ⟨_, rfl, acc3, ?_⟩
          simp only [Act.put, List.setIfInBounds_toArray, List.set_cons_zero, List.set_cons_succ]
          refine hCall 22 (some 79) 26 #[.agg #[.int .i64 k11, .int .i64 n11], .int .i64 0] (by kernel_rfl) (by kernel_rfl) (by kernel_rfl) (by kernel_rfl) (by kernel_rfl) ?_
          refine (units_ref k11 n11 0 _).mono ?_
          rintro e wd4 ⟨rfl, hb⟩
          have acc4 : Seen V5 wd4 := Seen.next acc3 hb
          clear hb
          refine ⟨_, rfl, acc4, ?_⟩
          simp only [Act.put, List.setIfInBounds_toArray, List.set_cons_zero, List.set_cons_succ]
          refine hRun 23 (some 80) (.slice (some ⟨wd4.heap.size, 0, none⟩) 7 7) (by kernel_rfl) (by kernel_rfl) (by kernel_rfl) (by kernel_rfl) (by kernel_rfl) (show Seen V5 (wd4.alloc (.cells #[.int .i64 (uN ⟨k13, n13⟩ 0), .int .i64 b3, .int .i64 (uN ⟨k17, n17⟩ 0), .int .i64 0, .int .i64 (uN ⟨k15, n15⟩ 0), .int .i64 b1, .int .i64 (uN ⟨k11, n11⟩ 0)] 2)) from Seen.alloc acc4 _) ?_
          have acc5 := (show Seen V5 (wd4.alloc (.cells #[.int .i64 (uN ⟨k13, n13⟩ 0), .int .i64 b3, .int .i64 (uN ⟨k17, n17⟩ 0), .int .i64 0, .int .i64 (uN ⟨k15, n15⟩ 0), .int .i64 b1, .int .i64 (uN ⟨k11, n11⟩ 0)] 2)) from Seen.alloc acc4 _)
          simp only [Act.put, List.setIfInBounds_toArray, List.set_cons_zero, List.set_cons_succ]
          refine hCall 24 (some 81) 25 #[.slice (some ⟨wd4.heap.size, 0, none⟩) 7 7] (by kernel_rfl) (by kernel_rfl) (by kernel_rfl) (by kernel_rfl) (by kernel_rfl) ?_
          refine (SUMC _ _ 7 [uN ⟨k13, n13⟩ 0, b3, uN ⟨k17, n17⟩ 0, 0, uN ⟨k15, n15⟩ 0, b1, uN ⟨k11, n11⟩ 0] _ rfl (zi_seven wd4 (uN ⟨k13, n13⟩ 0) b3 (uN ⟨k17, n17⟩ 0) 0 (uN ⟨k15, n15⟩ 0) b1 (uN ⟨k11, n11⟩ 0) 2) (by decide)).mono ?_
          rintro e wd6 ⟨rfl, hb⟩
          subst hb
          refine ⟨_, rfl, acc5, ?_⟩
          simp only [Act.put, List.setIfInBounds_toArray, List.set_cons_zero, List.set_cons_succ]
          refine hTake 25 (some 56) (.tuple #[.int .i64 SN, .bool SB]) (by kernel_rfl) (by kernel_rfl) (by kernel_rfl) (by kernel_rfl) (by kernel_rfl) (by kernel_rfl) (fun _ _ _ h => h) (fun w' hS => by kernel_rfl) acc5 ?_
          simp only [Act.put, List.setIfInBounds_toArray, List.set_cons_zero, List.set_cons_succ]
          refine hTake 26 (some 82) (.int .i64 SN) (by kernel_rfl) (by kernel_rfl) (by kernel_rfl) (by kernel_rfl) (by kernel_rfl) (by kernel_rfl) (fun _ _ _ h => h) (fun w' hS => by kernel_rfl) acc5 ?_
          simp only [Act.put, List.setIfInBounds_toArray, List.set_cons_zero, List.set_cons_succ]
          refine hTake 27 (some 83) (.bool SB) (by kernel_rfl) (by kernel_rfl) (by kernel_rfl) (by kernel_rfl) (by kernel_rfl) (by kernel_rfl) (fun _ _ _ h => h) (fun w' hS => by kernel_rfl) acc5 ?_
          simp only [Act.put, List.setIfInBounds_toArray, List.set_cons_zero, List.set_cons_succ]
          refine hTake 28 (some 13) (.int .i64 SN) (by kernel_rfl) (by kernel_rfl) (by kernel_rfl) (by kernel_rfl) (by kernel_rfl) (by kernel_rfl) (fun _ _ _ h => h) (fun w' hS => by kernel_rfl) acc5 ?_
          simp only [Act.put, List.setIfInBounds_toArray, List.set_cons_zero, List.set_cons_succ]
          refine hTake 29 (some 14) (.bool SB) (by kernel_rfl) (by kernel_rfl) (by kernel_rfl) (by kernel_rfl) (by kernel_rfl) (by kernel_rfl) (fun _ _ _ h => h) (fun w' hS => by kernel_rfl) acc5 ?_
          simp only [Act.put, List.setIfInBounds_toArray, List.set_cons_zero, List.set_cons_succ]
          refine wpAnyH_done (by kernel_rfl) ?_ _
          have z1 := acc5
          have z3 := Lib.hid (SW.out.trans (S7.out.trans (S8.out.trans (V5S.out.trans z1))))
          clear z1
          cases SB
          · go_wp2_with fail
            go_ret2
            exact ⟨HNO.out, z3.out⟩
          · go_wp2_with fail
            go_ret2
            exact ⟨HNO.out, z3.out⟩
        | some x =>
          have HC1 : Hid (∀ w', Seen w0 w' → Calls Try.prog 9 #[.slice (some ⟨b, off, none⟩) N cp, .int .i64 X] w' fun e w'' => e = .returned (.tuple #[.int .i64 x, .bool true]) ∧ Seen w' w'') := HC1
          have HV := Lib.hid (show zsO c x = [uN (lat c.lens 13) 0, bat c.bord 3, uN (lat c.lens 17) 0, x, uN (lat c.lens 15) 0, bat c.bord 1, uN (lat c.lens 11) 0] from rfl)
          obtain ⟨⟨k13, n13⟩, hq13⟩ : ∃ q, lat c.lens 13 = q := ⟨_, rfl⟩
          have hk13 := Lib.hid hq13
          rw [hq13] at HV
          clear hq13
          obtain ⟨⟨k17, n17⟩, hq17⟩ : ∃ q, lat c.lens 17 = q := ⟨_, rfl⟩
          have hk17 := Lib.hid hq17
          rw [hq17] at HV
          clear hq17
          obtain ⟨⟨k15, n15⟩, hq15⟩ : ∃ q, lat c.lens 15 = q := ⟨_, rfl⟩
          have hk15 := Lib.hid hq15
          rw [hq15] at HV
          clear hq15
          obtain ⟨⟨k11, n11⟩, hq11⟩ : ∃ q, lat c.lens 11 = q := ⟨_, rfl⟩
          have hk11 := Lib.hid hq11
          rw [hq11] at HV
          clear hq11
          obtain ⟨b3, hq3⟩ : ∃ q, bat c.bord 3 = q := ⟨_, rfl⟩
          have hb3 := Lib.hid hq3
          rw [hq3] at HV
          clear hq3
          obtain ⟨b1, hq1⟩ : ∃ q, bat c.bord 1 = q := ⟨_, rfl⟩
          have hb1 := Lib.hid hq1
          rw [hq1] at HV
          clear hq1
          obtain ⟨SN, hSN⟩ : ∃ q, sumN [uN ⟨k13, n13⟩ 0, b3, uN ⟨k17, n17⟩ 0, x, uN ⟨k15, n15⟩ 0, b1, uN ⟨k11, n11⟩ 0] = q := ⟨_, rfl⟩
          obtain ⟨SB, hSB⟩ : ∃ q, sumB [uN ⟨k13, n13⟩ 0, b3, uN ⟨k17, n17⟩ 0, x, uN ⟨k15, n15⟩ 0, b1, uN ⟨k11, n11⟩ 0] = q := ⟨_, rfl⟩
          have SUMC : ∀ (a : Option Addr) (m c : Nat) (zs : List Int) (w : World) (_ : zs = [uN ⟨k13, n13⟩ 0, b3, uN ⟨k17, n17⟩ 0, x, uN ⟨k15, n15⟩ 0, b1, uN ⟨k11, n11⟩ 0]) (h : ZI w a m zs) (hn : m ≤ 4000), Calls Try.prog 25 #[.slice a m c] w fun e w' => e = .returned (.tuple #[.int .i64 SN, .bool SB]) ∧ w = w' := fun a m c zs w he h hn => by
            have := refSum_any a m c zs w h hn
            rw [he, hSN, hSB] at this
            exact this
          have HOP : Hid (outP c (some x) = (if SB then some SN else none) ∧ True) := by
            refine ⟨?_, trivial⟩
            show (if sumB (zsO c x) then some (sumN (zsO c x)) else none) = _
            rw [HV.out, hSB, hSN]
          rw [HOP.out.1] at HREL
          clear HOP
          clear HV hSN hSB
          go_upto_region 13 with (first
            | (refine wpList_loadNS rfl (.tmp 45) rfl b (off + X * 49) (nd l X) rfl AX.out ?_; clear AX)
            | (rw [zero_lit]; refine wpList_storeS rfl (.tmp 10) (.tmp 46) rfl wr.heap.size zeroS (nd l X).s rfl rfl (nd l X).full zero_full (hs_new wr zeroS) ?_; intro V5 b5 t5; (have V5S := Lib.hid (Seen.fresh (Seen.refl wr) t5)); (have KC : Hid (Hs V5 wr.heap.size c) := by rw [← HCS.out]; exact b5); (have c2 := V5S.out.cell CK.out); clear b5 t5 c1)
            | (go_at_call 9; refine (HC1.out V5 (HW.out.trans V5S.out)).mono ?_; clear HC1 c2; rintro e V6 ⟨rfl, hb⟩; have V6S := Lib.hid (show Seen V5 V6 from hb); clear hb))
          have acc0 : Seen V5 V6.drew := V6S.out.drew
          clear V6S
          refine wp_region_held_drew (S := fun w' => Seen V5 w') (by kernel_rfl) acc0 (fun _ => ?_)
          refine hTake 0 (some 57) (.pointer (some ⟨wr.heap.size, 22, none⟩)) (by kernel_rfl) (by kernel_rfl) (by kernel_rfl) (by kernel_rfl) (by kernel_rfl) (by kernel_rfl) (fun _ _ _ h => h) (fun w' hS => by kernel_rfl) acc0 ?_
          simp only [Act.put, List.setIfInBounds_toArray, List.set_cons_zero, List.set_cons_succ]
          refine hTake 1 (some 58) (.pointer (some ⟨wr.heap.size, 28, none⟩)) (by kernel_rfl) (by kernel_rfl) (by kernel_rfl) (by kernel_rfl) (by kernel_rfl) (by kernel_rfl) (fun _ _ _ h => h) (fun w' hS => by kernel_rfl) acc0 ?_
          simp only [Act.put, List.setIfInBounds_toArray, List.set_cons_zero, List.set_cons_succ]
          refine hTake 2 (some 59) (.agg #[.int .i64 k13, .int .i64 n13]) (by kernel_rfl) (by kernel_rfl) (by kernel_rfl) (by kernel_rfl) (by kernel_rfl) (by kernel_rfl) (fun _ _ _ h => h) (fun w' hS => run_by (Instr.loadAt 35 (.pointer (some ⟨wr.heap.size, 28, none⟩))) (by kernel_rfl) (ldLen (KC.out.seen hS) HFC.out (i := 13) (by decide) rfl hk13.out)) acc0 ?_
          simp only [Act.put, List.setIfInBounds_toArray, List.set_cons_zero, List.set_cons_succ]
          refine hTake 4 (some 61) (.pointer (some ⟨wr.heap.size, 38, none⟩)) (by kernel_rfl) (by kernel_rfl) (by kernel_rfl) (by kernel_rfl) (by kernel_rfl) (by kernel_rfl) (fun _ _ _ h => h) (fun w' hS => by kernel_rfl) acc0 ?_
          simp only [Act.put, List.setIfInBounds_toArray, List.set_cons_zero, List.set_cons_succ]
          refine hTake 5 (some 62) (.pointer (some ⟨wr.heap.size, 41, none⟩)) (by kernel_rfl) (by kernel_rfl) (by kernel_rfl) (by kernel_rfl) (by kernel_rfl) (by kernel_rfl) (fun _ _ _ h => h) (fun w' hS => by kernel_rfl) acc0 ?_
          simp only [Act.put, List.setIfInBounds_toArray, List.set_cons_zero, List.set_cons_succ]
          refine hTake 6 (some 63) (.int .i64 b3) (by kernel_rfl) (by kernel_rfl) (by kernel_rfl) (by kernel_rfl) (by kernel_rfl) (by kernel_rfl) (fun _ _ _ h => h) (fun w' hS => run_by (Instr.loadAt 2 (.pointer (some ⟨wr.heap.size, 41, none⟩))) (by kernel_rfl) (ldBord (KC.out.seen hS) HFC.out (i := 3) (by decide) rfl hb3.out)) acc0 ?_
          simp only [Act.put, List.setIfInBounds_toArray, List.set_cons_zero, List.set_cons_succ]
          refine hTake 7 (some 64) (.pointer (some ⟨wr.heap.size, 30, none⟩)) (by kernel_rfl) (by kernel_rfl) (by kernel_rfl) (by kernel_rfl) (by kernel_rfl) (by kernel_rfl) (fun _ _ _ h => h) (fun w' hS => by kernel_rfl) acc0 ?_
          simp only [Act.put, List.setIfInBounds_toArray, List.set_cons_zero, List.set_cons_succ]
          refine hTake 8 (some 65) (.pointer (some ⟨wr.heap.size, 36, none⟩)) (by kernel_rfl) (by kernel_rfl) (by kernel_rfl) (by kernel_rfl) (by kernel_rfl) (by kernel_rfl) (fun _ _ _ h => h) (fun w' hS => by kernel_rfl) acc0 ?_
          simp only [Act.put, List.setIfInBounds_toArray, List.set_cons_zero, List.set_cons_succ]
          refine hTake 9 (some 66) (.agg #[.int .i64 k17, .int .i64 n17]) (by kernel_rfl) (by kernel_rfl) (by kernel_rfl) (by kernel_rfl) (by kernel_rfl) (by kernel_rfl) (fun _ _ _ h => h) (fun w' hS => run_by (Instr.loadAt 35 (.pointer (some ⟨wr.heap.size, 36, none⟩))) (by kernel_rfl) (ldLen (KC.out.seen hS) HFC.out (i := 17) (by decide) rfl hk17.out)) acc0 ?_
          simp only [Act.put, List.setIfInBounds_toArray, List.set_cons_zero, List.set_cons_succ]
          refine hTake 11 (some 68) (.int .i64 x) (by kernel_rfl) (by kernel_rfl) (by kernel_rfl) (by kernel_rfl) (by kernel_rfl) (by kernel_rfl) (fun _ _ _ h => h) (fun w' hS => by kernel_rfl) acc0 ?_
          simp only [Act.put, List.setIfInBounds_toArray, List.set_cons_zero, List.set_cons_succ]
          refine hTake 12 (some 69) (.pointer (some ⟨wr.heap.size, 30, none⟩)) (by kernel_rfl) (by kernel_rfl) (by kernel_rfl) (by kernel_rfl) (by kernel_rfl) (by kernel_rfl) (fun _ _ _ h => h) (fun w' hS => by kernel_rfl) acc0 ?_
          simp only [Act.put, List.setIfInBounds_toArray, List.set_cons_zero, List.set_cons_succ]
          refine hTake 13 (some 70) (.pointer (some ⟨wr.heap.size, 32, none⟩)) (by kernel_rfl) (by kernel_rfl) (by kernel_rfl) (by kernel_rfl) (by kernel_rfl) (by kernel_rfl) (fun _ _ _ h => h) (fun w' hS => by kernel_rfl) acc0 ?_
          simp only [Act.put, List.setIfInBounds_toArray, List.set_cons_zero, List.set_cons_succ]
          refine hTake 14 (some 71) (.agg #[.int .i64 k15, .int .i64 n15]) (by kernel_rfl) (by kernel_rfl) (by kernel_rfl) (by kernel_rfl) (by kernel_rfl) (by kernel_rfl) (fun _ _ _ h => h) (fun w' hS => run_by (Instr.loadAt 35 (.pointer (some ⟨wr.heap.size, 32, none⟩))) (by kernel_rfl) (ldLen (KC.out.seen hS) HFC.out (i := 15) (by decide) rfl hk15.out)) acc0 ?_
          simp only [Act.put, List.setIfInBounds_toArray, List.set_cons_zero, List.set_cons_succ]
          refine hTake 16 (some 73) (.pointer (some ⟨wr.heap.size, 38, none⟩)) (by kernel_rfl) (by kernel_rfl) (by kernel_rfl) (by kernel_rfl) (by kernel_rfl) (by kernel_rfl) (fun _ _ _ h => h) (fun w' hS => by kernel_rfl) acc0 ?_
          simp only [Act.put, List.setIfInBounds_toArray, List.set_cons_zero, List.set_cons_succ]
          refine hTake 17 (some 74) (.pointer (some ⟨wr.heap.size, 39, none⟩)) (by kernel_rfl) (by kernel_rfl) (by kernel_rfl) (by kernel_rfl) (by kernel_rfl) (by kernel_rfl) (fun _ _ _ h => h) (fun w' hS => by kernel_rfl) acc0 ?_
          simp only [Act.put, List.setIfInBounds_toArray, List.set_cons_zero, List.set_cons_succ]
          refine hTake 18 (some 75) (.int .i64 b1) (by kernel_rfl) (by kernel_rfl) (by kernel_rfl) (by kernel_rfl) (by kernel_rfl) (by kernel_rfl) (fun _ _ _ h => h) (fun w' hS => run_by (Instr.loadAt 2 (.pointer (some ⟨wr.heap.size, 39, none⟩))) (by kernel_rfl) (ldBord (KC.out.seen hS) HFC.out (i := 1) (by decide) rfl hb1.out)) acc0 ?_
          simp only [Act.put, List.setIfInBounds_toArray, List.set_cons_zero, List.set_cons_succ]
          refine hTake 19 (some 76) (.pointer (some ⟨wr.heap.size, 22, none⟩)) (by kernel_rfl) (by kernel_rfl) (by kernel_rfl) (by kernel_rfl) (by kernel_rfl) (by kernel_rfl) (fun _ _ _ h => h) (fun w' hS => by kernel_rfl) acc0 ?_
          simp only [Act.put, List.setIfInBounds_toArray, List.set_cons_zero, List.set_cons_succ]
          refine hTake 20 (some 77) (.pointer (some ⟨wr.heap.size, 24, none⟩)) (by kernel_rfl) (by kernel_rfl) (by kernel_rfl) (by kernel_rfl) (by kernel_rfl) (by kernel_rfl) (fun _ _ _ h => h) (fun w' hS => by kernel_rfl) acc0 ?_
          simp only [Act.put, List.setIfInBounds_toArray, List.set_cons_zero, List.set_cons_succ]
          refine hTake 21 (some 78) (.agg #[.int .i64 k11, .int .i64 n11]) (by kernel_rfl) (by kernel_rfl) (by kernel_rfl) (by kernel_rfl) (by kernel_rfl) (by kernel_rfl) (fun _ _ _ h => h) (fun w' hS => run_by (Instr.loadAt 35 (.pointer (some ⟨wr.heap.size, 24, none⟩))) (by kernel_rfl) (ldLen (KC.out.seen hS) HFC.out (i := 11) (by decide) rfl hk11.out)) acc0 ?_
          simp only [Act.put, List.setIfInBounds_toArray, List.set_cons_zero, List.set_cons_succ]
          refine hCall 3 (some 60) 26 #[.agg #[.int .i64 k13, .int .i64 n13], .int .i64 0] (by kernel_rfl) (by kernel_rfl) (by kernel_rfl) (by kernel_rfl) (by kernel_rfl) ?_
          refine (units_ref k13 n13 0 _).mono ?_
          rintro e wd1 ⟨rfl, hb⟩
          have acc1 : Seen V5 wd1 := Seen.next acc0 hb
          clear hb
          refine ⟨_, rfl, acc1, ?_⟩
          simp only [Act.put, List.setIfInBounds_toArray, List.set_cons_zero, List.set_cons_succ]
          refine hCall 10 (some 67) 26 #[.agg #[.int .i64 k17, .int .i64 n17], .int .i64 0] (by kernel_rfl) (by kernel_rfl) (by kernel_rfl) (by kernel_rfl) (by kernel_rfl) ?_
          refine (units_ref k17 n17 0 _).mono ?_
          rintro e wd2 ⟨rfl, hb⟩
          have acc2 : Seen V5 wd2 := Seen.next acc1 hb
          clear hb
          refine ⟨_, rfl, acc2, ?_⟩
          simp only [Act.put, List.setIfInBounds_toArray, List.set_cons_zero, List.set_cons_succ]
          refine hCall 15 (some 72) 26 #[.agg #[.int .i64 k15, .int .i64 n15], .int .i64 0] (by kernel_rfl) (by kernel_rfl) (by kernel_rfl) (by kernel_rfl) (by kernel_rfl) ?_
          refine (units_ref k15 n15 0 _).mono ?_
          rintro e wd3 ⟨rfl, hb⟩
          have acc3 : Seen V5 wd3 := Seen.next acc2 hb
          clear hb
          refine ⟨_, rfl, acc3, ?_⟩
          simp only [Act.put, List.setIfInBounds_toArray, List.set_cons_zero, List.set_cons_succ]
          refine hCall 22 (some 79) 26 #[.agg #[.int .i64 k11, .int .i64 n11], .int .i64 0] (by kernel_rfl) (by kernel_rfl) (by kernel_rfl) (by kernel_rfl) (by kernel_rfl) ?_
          refine (units_ref k11 n11 0 _).mono ?_
          rintro e wd4 ⟨rfl, hb⟩
          have acc4 : Seen V5 wd4 := Seen.next acc3 hb
          clear hb
          refine ⟨_, rfl, acc4, ?_⟩
          simp only [Act.put, List.setIfInBounds_toArray, List.set_cons_zero, List.set_cons_succ]
          refine hRun 23 (some 80) (.slice (some ⟨wd4.heap.size, 0, none⟩) 7 7) (by kernel_rfl) (by kernel_rfl) (by kernel_rfl) (by kernel_rfl) (by kernel_rfl) (show Seen V5 (wd4.alloc (.cells #[.int .i64 (uN ⟨k13, n13⟩ 0), .int .i64 b3, .int .i64 (uN ⟨k17, n17⟩ 0), .int .i64 x, .int .i64 (uN ⟨k15, n15⟩ 0), .int .i64 b1, .int .i64 (uN ⟨k11, n11⟩ 0)] 2)) from Seen.alloc acc4 _) ?_
          have acc5 := (show Seen V5 (wd4.alloc (.cells #[.int .i64 (uN ⟨k13, n13⟩ 0), .int .i64 b3, .int .i64 (uN ⟨k17, n17⟩ 0), .int .i64 x, .int .i64 (uN ⟨k15, n15⟩ 0), .int .i64 b1, .int .i64 (uN ⟨k11, n11⟩ 0)] 2)) from Seen.alloc acc4 _)
          simp only [Act.put, List.setIfInBounds_toArray, List.set_cons_zero, List.set_cons_succ]
          refine hCall 24 (some 81) 25 #[.slice (some ⟨wd4.heap.size, 0, none⟩) 7 7] (by kernel_rfl) (by kernel_rfl) (by kernel_rfl) (by kernel_rfl) (by kernel_rfl) ?_
          refine (SUMC _ _ 7 [uN ⟨k13, n13⟩ 0, b3, uN ⟨k17, n17⟩ 0, x, uN ⟨k15, n15⟩ 0, b1, uN ⟨k11, n11⟩ 0] _ rfl (zi_seven wd4 (uN ⟨k13, n13⟩ 0) b3 (uN ⟨k17, n17⟩ 0) x (uN ⟨k15, n15⟩ 0) b1 (uN ⟨k11, n11⟩ 0) 2) (by decide)).mono ?_
          rintro e wd6 ⟨rfl, hb⟩
          subst hb
          refine ⟨_, rfl, acc5, ?_⟩
          simp only [Act.put, List.setIfInBounds_toArray, List.set_cons_zero, List.set_cons_succ]
          refine hTake 25 (some 56) (.tuple #[.int .i64 SN, .bool SB]) (by kernel_rfl) (by kernel_rfl) (by kernel_rfl) (by kernel_rfl) (by kernel_rfl) (by kernel_rfl) (fun _ _ _ h => h) (fun w' hS => by kernel_rfl) acc5 ?_
          simp only [Act.put, List.setIfInBounds_toArray, List.set_cons_zero, List.set_cons_succ]
          refine hTake 26 (some 82) (.int .i64 SN) (by kernel_rfl) (by kernel_rfl) (by kernel_rfl) (by kernel_rfl) (by kernel_rfl) (by kernel_rfl) (fun _ _ _ h => h) (fun w' hS => by kernel_rfl) acc5 ?_
          simp only [Act.put, List.setIfInBounds_toArray, List.set_cons_zero, List.set_cons_succ]
          refine hTake 27 (some 83) (.bool SB) (by kernel_rfl) (by kernel_rfl) (by kernel_rfl) (by kernel_rfl) (by kernel_rfl) (by kernel_rfl) (fun _ _ _ h => h) (fun w' hS => by kernel_rfl) acc5 ?_
          simp only [Act.put, List.setIfInBounds_toArray, List.set_cons_zero, List.set_cons_succ]
          refine hTake 28 (some 13) (.int .i64 SN) (by kernel_rfl) (by kernel_rfl) (by kernel_rfl) (by kernel_rfl) (by kernel_rfl) (by kernel_rfl) (fun _ _ _ h => h) (fun w' hS => by kernel_rfl) acc5 ?_
          simp only [Act.put, List.setIfInBounds_toArray, List.set_cons_zero, List.set_cons_succ]
          refine hTake 29 (some 14) (.bool SB) (by kernel_rfl) (by kernel_rfl) (by kernel_rfl) (by kernel_rfl) (by kernel_rfl) (by kernel_rfl) (fun _ _ _ h => h) (fun w' hS => by kernel_rfl) acc5 ?_
          simp only [Act.put, List.setIfInBounds_toArray, List.set_cons_zero, List.set_cons_succ]
          refine wpAnyH_done (by kernel_rfl) ?_ _
          have z1 := acc5
          have z3 := Lib.hid (S8.out.trans (V5S.out.trans z1))
          clear z1
          cases SB
          · have HNO : Hid (Ending.returned (.tuple #[.int .i64 0, .bool false]) = Ending.returned (prA RES)) := by
              have e : none = R := HREL.out.1
              unfold Hid; rw [HPR2.out, ← e]; rfl
            clear HREL
            have z4 := Lib.hid (SW.out.trans (S7.out.trans z3.out))
            go_wp2_with fail
            go_ret2
            exact ⟨HNO.out, z4.out⟩
          · by_cases hg : SN > v
            · have HR2 : Hid (prW (fun q => outP (styAt l q) (prO l k q)) (L.drop (t + 1)) SN = R ∧ True) := ⟨by rw [← HREL.out.1]; show _ = prW _ _ (max v SN); rw [show max v SN = SN by omega], trivial⟩
              clear HREL
              go_wp2_with fail
              go_roundw
              case rel => exact ⟨t + 1, SN, by go_num, by have := HLT.out; omega, rfl, HR2.out, z3.out⟩
              case measure => have := HLT.out; simp [intOf]; omega
            · have HR2 : Hid (prW (fun q => outP (styAt l q) (prO l k q)) (L.drop (t + 1)) v = R ∧ True) := ⟨by rw [← HREL.out.1]; show _ = prW _ _ (max v SN); rw [show max v SN = v by omega], trivial⟩
              clear HREL
              go_wp2_with fail
              go_roundw
              case rel => exact ⟨t + 1, v, by go_num, by have := HLT.out; omega, rfl, HR2.out, z3.out⟩
              case measure => have := HLT.out; simp [intOf]; omega
      · have ht' : ¬ (t : Int) < (M : Int) := by omega
        obtain rfl : t = M := by omega
        have hR := HREL.out.1
        rw [← HM.out, List.drop_length] at hR
        obtain rfl : some v = R := hR
        have HRS : Hid (Ending.returned (.tuple #[.int .i64 (clampI v (uN ⟨k6, n6⟩ 0) (uN ⟨k7, n7⟩ 1125899906842624)), .bool true]) = Ending.returned (prA RES)) := by
          unfold Hid; rw [HPR2.out, HBD.out]; rfl
        clear HREL HPR2 HBD HBB HKM HZ HAT
        go_upto_region 19 with fail
        have acc0 : Seen W5 wr.drew := (S7.out.trans S8.out).drew
        refine wp_region_held_drew (S := fun w' => Seen W5 w') (by kernel_rfl) acc0 (fun _ => ?_)
        refine hTake 0 (some 95) (.int .i64 v) (by kernel_rfl) (by kernel_rfl) (by kernel_rfl) (by kernel_rfl) (by kernel_rfl) (by kernel_rfl) (fun _ _ _ h => h) (fun w' hS => by kernel_rfl) acc0 ?_
        simp only [Act.put, List.setIfInBounds_toArray, List.set_cons_zero, List.set_cons_succ]
        refine hTake 1 (some 96) (.pointer (some ⟨W.heap.size, 14, none⟩)) (by kernel_rfl) (by kernel_rfl) (by kernel_rfl) (by kernel_rfl) (by kernel_rfl) (by kernel_rfl) (fun _ _ _ h => h) (fun w' hS => by kernel_rfl) acc0 ?_
        simp only [Act.put, List.setIfInBounds_toArray, List.set_cons_zero, List.set_cons_succ]
        refine hTake 2 (some 97) (.agg #[.int .i64 k6, .int .i64 n6]) (by kernel_rfl) (by kernel_rfl) (by kernel_rfl) (by kernel_rfl) (by kernel_rfl) (by kernel_rfl) (fun _ _ _ h => h) (fun w' hS => run_by (Instr.loadAt 35 (.pointer (some ⟨W.heap.size, 14, none⟩))) (by kernel_rfl) (ldLen (KS.out.seen hS) HF.out (i := 6) (by decide) rfl hk6.out)) acc0 ?_
        simp only [Act.put, List.setIfInBounds_toArray, List.set_cons_zero, List.set_cons_succ]
        refine hTake 4 (some 99) (.pointer (some ⟨W.heap.size, 16, none⟩)) (by kernel_rfl) (by kernel_rfl) (by kernel_rfl) (by kernel_rfl) (by kernel_rfl) (by kernel_rfl) (fun _ _ _ h => h) (fun w' hS => by kernel_rfl) acc0 ?_
        simp only [Act.put, List.setIfInBounds_toArray, List.set_cons_zero, List.set_cons_succ]
        refine hTake 5 (some 100) (.agg #[.int .i64 k7, .int .i64 n7]) (by kernel_rfl) (by kernel_rfl) (by kernel_rfl) (by kernel_rfl) (by kernel_rfl) (by kernel_rfl) (fun _ _ _ h => h) (fun w' hS => run_by (Instr.loadAt 35 (.pointer (some ⟨W.heap.size, 16, none⟩))) (by kernel_rfl) (ldLen (KS.out.seen hS) HF.out (i := 7) (by decide) rfl hk7.out)) acc0 ?_
        simp only [Act.put, List.setIfInBounds_toArray, List.set_cons_zero, List.set_cons_succ]
        refine hCall 3 (some 98) 26 #[.agg #[.int .i64 k6, .int .i64 n6], .int .i64 0] (by kernel_rfl) (by kernel_rfl) (by kernel_rfl) (by kernel_rfl) (by kernel_rfl) ?_
        refine (units_ref k6 n6 0 _).mono ?_
        rintro e wd1 ⟨rfl, hb⟩
        have acc1 : Seen W5 wd1 := Seen.next acc0 hb
        clear hb
        refine ⟨_, rfl, acc1, ?_⟩
        simp only [Act.put, List.setIfInBounds_toArray, List.set_cons_zero, List.set_cons_succ]
        refine hCall 6 (some 101) 26 #[.agg #[.int .i64 k7, .int .i64 n7], .int .i64 1125899906842624] (by kernel_rfl) (by kernel_rfl) (by kernel_rfl) (by kernel_rfl) (by kernel_rfl) ?_
        refine (units_ref k7 n7 1125899906842624 _).mono ?_
        rintro e wd2 ⟨rfl, hb⟩
        have acc2 : Seen W5 wd2 := Seen.next acc1 hb
        clear hb
        refine ⟨_, rfl, acc2, ?_⟩
        simp only [Act.put, List.setIfInBounds_toArray, List.set_cons_zero, List.set_cons_succ]
        refine hCall 7 (some 102) 27 #[.int .i64 v, .int .i64 (uN ⟨k6, n6⟩ 0), .int .i64 (uN ⟨k7, n7⟩ 1125899906842624)] (by kernel_rfl) (by kernel_rfl) (by kernel_rfl) (by kernel_rfl) (by kernel_rfl) ?_
        refine (refClamp_seen v (uN ⟨k6, n6⟩ 0) (uN ⟨k7, n7⟩ 1125899906842624) _).mono ?_
        rintro e wd3 ⟨rfl, hb⟩
        have acc3 : Seen W5 wd3 := Seen.next acc2 hb
        clear hb
        refine ⟨_, rfl, acc3, ?_⟩
        simp only [Act.put, List.setIfInBounds_toArray, List.set_cons_zero, List.set_cons_succ]
        refine hTake 8 (some 4) (.int .i64 (clampI v (uN ⟨k6, n6⟩ 0) (uN ⟨k7, n7⟩ 1125899906842624))) (by kernel_rfl) (by kernel_rfl) (by kernel_rfl) (by kernel_rfl) (by kernel_rfl) (by kernel_rfl) (fun _ _ _ h => h) (fun w' hS => by kernel_rfl) acc3 ?_
        simp only [Act.put, List.setIfInBounds_toArray, List.set_cons_zero, List.set_cons_succ]
        refine hTake 9 (some 5) (.bool true) (by kernel_rfl) (by kernel_rfl) (by kernel_rfl) (by kernel_rfl) (by kernel_rfl) (by kernel_rfl) (fun _ _ _ h => h) (fun w' hS => by kernel_rfl) acc3 ?_
        simp only [Act.put, List.setIfInBounds_toArray, List.set_cons_zero, List.set_cons_succ]
        refine wpAnyH_done (by kernel_rfl) ?_ _
        have z1 := acc3
        go_wp2_with fail
        go_ret2
        exact ⟨HRS.out, SW.out.trans z1⟩
end Go.Proofs.Ytlnnaegmcopiiaa
