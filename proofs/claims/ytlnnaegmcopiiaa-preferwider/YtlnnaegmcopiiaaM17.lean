/- Texts of the proof, merged: PfC. -/
import Derived.Test.YtlnnaegmcopiiaaM16
/- Contract of Content; no conditions beyond those written in each theorem. -/
namespace Go.Proofs.Ytlnnaegmcopiiaa
open Go.ChangeShapes Go.WideShapes Go.ChangeAt Go.RowKit
set_option maxRecDepth 100000
/-- Content's contract, for the nodes from some depth on. -/
def PrOK (l : List Nd) (w0 : World) (kv : Value) (k : Nat) : Prop :=
  ∀ n : Nat, n < l.length → l.length - n ≤ k → madeB l n = true → ∀ W, Seen w0 W → Calls Try.prog 8 #[kv, .int .i64 (n : Int)] W fun e w' => e = .returned (prA (prO l k n)) ∧ Seen W w'
set_option maxHeartbeats 4000000 in
theorem content_step {l : List Nd} {w0 : World} {kv : Value} {k : Nat} (hf : FormedT l) (hl : l.length ≤ 65535) (hKV : KV w0 kv l) (hB : PrOK l w0 kv k) : PrOK l w0 kv (k + 1) := by
  intro n hn hk hm W hs
  have HS := Lib.hid hs
  have HFM := Lib.hid fun x (hx : x ∈ flowV l n) => flow_mem hf hx
  have HLF : Hid ((flowV l n).length ≤ 1000000) := by
    have h1 := kidsV_length l n
    have h2 := List.length_filter_le (flowF l) (kidsV l n)
    rw [flowV_kids]
    unfold Hid
    omega
  obtain ⟨z, hz⟩ : ∃ z : Int, z = (n : Int) := ⟨_, rfl⟩
  have HMD : Hid (∀ w, Seen w0 w → Calls Try.prog 17 #[kv, .int .i64 z] w fun e w' => e = .returned (.bool true) ∧ Seen w w') := fun w h => by
    have := made_kin kv l z w (hKV.seen h)
    rwa [show (plAt l z).made = true by rw [hz, plAt_nat hn]; exact hm] at this
  have HST : Hid (∀ w, Seen w0 w → Calls Try.prog 18 #[kv, .int .i64 z] w fun e w' => e = .returned (sv (styAt l n)) ∧ Seen w w') := fun w h => by
    have := style_kin kv l z w (hKV.seen h)
    rwa [show styAt l z = styAt l n by rw [hz]] at this
  have HFK : Hid (∀ w, Seen w0 w → Calls Try.prog 20 #[kv, .int .i64 z] w (RowI w (flowV l n))) := fun w h => by
    have := flow_kin kv l z w (hKV.seen h)
    rwa [show flowV l z = flowV l n by rw [hz]] at this
  have HWD : Hid (∀ w, Seen w0 w → ∀ (a : Option Addr) (c : Nat), ZS w a (flowV l n).length (flowV l n) → Calls Try.prog 19 #[kv, .slice a (flowV l n).length c] w fun e w' => e = .returned (prA (prW (fun q => outP (styAt l q) (prO l k q)) (flowV l n) 0)) ∧ Seen w w') := fun w h a c hz' => by
    refine widest_any (fun q => outP (styAt l q) (prO l k q)) (flowV l n) a c w HLF.out hz' fun w1 h1 x hx => ?_
    obtain ⟨m, rfl, hm1, hm2, hm3, _⟩ := HFM.out x hx
    exact outerP_any hKV m (prO l k m) w1 (h.trans h1) fun w2 h2 => hB m hm2 (by omega) hm3 w2 h2
  have HPR := Lib.hid (show prO l (k + 1) n = bndP (styAt l n) (if (lat (styAt l n).lens 4).k = 1 then some (lat (styAt l n).lens 4).n else prW (fun k_1 => outP (styAt l k_1) (prO l k k_1)) (flowV l n) 0) from rfl)
  have hfs := styAt_full l n
  obtain ⟨s, hss⟩ : ∃ s, styAt l n = s := ⟨_, rfl⟩
  rw [hss] at HST HPR hfs
  obtain ⟨L, hL⟩ : ∃ L, flowV l n = L := ⟨_, rfl⟩
  rw [hL] at HFK HWD HPR
  obtain ⟨R, hR⟩ : ∃ R, prW (fun q => outP (styAt l q) (prO l k q)) L 0 = R := ⟨_, rfl⟩
  rw [hR] at HWD HPR
  have HF := Lib.hid hfs
  obtain ⟨RES, hRES⟩ : ∃ q, prO l (k + 1) n = q := ⟨_, rfl⟩
  rw [hRES] at HPR ⊢
  clear hRES
  rw [← hz]
  clear hz hss hL hR hfs hs hKV hB hf hl hn hk hm HFM HLF
  have HV : Hid (∀ x, bndP s (some x) = some (clampI x (uN (lat s.lens 6) 0) (uN (lat s.lens 7) 1125899906842624))) := fun x => rfl
  obtain ⟨⟨k4, n4⟩, hq4⟩ : ∃ q, lat s.lens 4 = q := ⟨_, rfl⟩
  have hk4 := Lib.hid hq4
  rw [hq4] at HPR
  clear hq4
  obtain ⟨⟨k6, n6⟩, hq6⟩ : ∃ q, lat s.lens 6 = q := ⟨_, rfl⟩
  have hk6 := Lib.hid hq6
  rw [hq6] at HV
  clear hq6
  obtain ⟨⟨k7, n7⟩, hq7⟩ : ∃ q, lat s.lens 7 = q := ⟨_, rfl⟩
  have hk7 := Lib.hid hq7
  rw [hq7] at HV
  clear hq7
  have l0 := HS.out.size
  go_enter Try.func8, Try.ntmps8
  go_upto_region 4 with (first
    | (go_at_call 17; refine (HMD.out W HS.out).mono ?_; clear HMD; rintro e w1 ⟨rfl, hb⟩; have S1 := Lib.hid hb; clear hb)
    | (go_at_call 18; refine (HST.out w1 (HS.out.trans S1.out)).mono ?_; clear HST; rintro e w4 ⟨rfl, hb⟩; have S4 := Lib.hid (S1.out.trans hb); clear hb S1)
    | (rw [zero_lit]; refine wpList_storeS rfl (.tmp 6) (.tmp 15) rfl w4.heap.size zeroS s rfl rfl HF.out zero_full (hs_new w4 zeroS) ?_
       intro W5 b5 t5
       have SW := Lib.hid (S4.out.trans (Seen.fresh (Seen.refl w4) t5))
       have KS := Lib.hid b5
       clear b5 t5 S4))
  have ck : W5.cell? ⟨w4.heap.size, 10, none⟩ = some (.int .i64 k4) := by rw [KS.out.at 10, (stl_len HF.out (i := 4) (by decide)).1, hk4.out]
  have cn : W5.cell? ⟨w4.heap.size, 11, none⟩ = some (.int .i64 n4) := by rw [KS.out.at 11, (stl_len HF.out (i := 4) (by decide)).2, hk4.out]
  by_cases h1 : k4 = 1
  · subst h1
    have HRS : Hid (Ending.returned (.tuple #[.int .i64 (clampI n4 (uN ⟨k6, n6⟩ 0) (uN ⟨k7, n7⟩ 1125899906842624)), .bool true]) = Ending.returned (prA RES)) := by
      unfold Hid; rw [HPR.out, if_pos rfl, HV.out]; rfl
    clear HWD HFK HV HPR
    go_upto_region 9 with fail
    obtain ⟨W6, hW6⟩ : ∃ W6, W6 = W5 := ⟨_, rfl⟩
    have acc0 : Seen W5 W6.drew := by rw [hW6]; exact (Seen.refl W5).drew
    rw [← hW6]
    clear ck cn hW6
    refine wp_region_held_drew (S := fun w' => Seen W5 w') (by kernel_rfl) acc0 (fun _ => ?_)
    refine hTake 0 (some 33) (.int .i64 n4) (by kernel_rfl) (by kernel_rfl) (by kernel_rfl) (by kernel_rfl) (by kernel_rfl) (by kernel_rfl) (fun _ _ _ h => h) (fun w' hS => by kernel_rfl) acc0 ?_
    simp only [Act.put, List.setIfInBounds_toArray, List.set_cons_zero, List.set_cons_succ]
    refine hTake 1 (some 34) (.pointer (some ⟨w4.heap.size, 14, none⟩)) (by kernel_rfl) (by kernel_rfl) (by kernel_rfl) (by kernel_rfl) (by kernel_rfl) (by kernel_rfl) (fun _ _ _ h => h) (fun w' hS => by kernel_rfl) acc0 ?_
    simp only [Act.put, List.setIfInBounds_toArray, List.set_cons_zero, List.set_cons_succ]
    refine hTake 2 (some 35) (.agg #[.int .i64 k6, .int .i64 n6]) (by kernel_rfl) (by kernel_rfl) (by kernel_rfl) (by kernel_rfl) (by kernel_rfl) (by kernel_rfl) (fun _ _ _ h => h) (fun w' hS => run_by (Instr.loadAt 35 (.pointer (some ⟨w4.heap.size, 14, none⟩))) (by kernel_rfl) (ldLen (KS.out.seen hS) HF.out (i := 6) (by decide) rfl hk6.out)) acc0 ?_
    simp only [Act.put, List.setIfInBounds_toArray, List.set_cons_zero, List.set_cons_succ]
    refine hTake 4 (some 37) (.pointer (some ⟨w4.heap.size, 16, none⟩)) (by kernel_rfl) (by kernel_rfl) (by kernel_rfl) (by kernel_rfl) (by kernel_rfl) (by kernel_rfl) (fun _ _ _ h => h) (fun w' hS => by kernel_rfl) acc0 ?_
    simp only [Act.put, List.setIfInBounds_toArray, List.set_cons_zero, List.set_cons_succ]
    refine hTake 5 (some 38) (.agg #[.int .i64 k7, .int .i64 n7]) (by kernel_rfl) (by kernel_rfl) (by kernel_rfl) (by kernel_rfl) (by kernel_rfl) (by kernel_rfl) (fun _ _ _ h => h) (fun w' hS => run_by (Instr.loadAt 35 (.pointer (some ⟨w4.heap.size, 16, none⟩))) (by kernel_rfl) (ldLen (KS.out.seen hS) HF.out (i := 7) (by decide) rfl hk7.out)) acc0 ?_
    simp only [Act.put, List.setIfInBounds_toArray, List.set_cons_zero, List.set_cons_succ]
    refine hCall 3 (some 36) 22 #[.agg #[.int .i64 k6, .int .i64 n6], .int .i64 0] (by kernel_rfl) (by kernel_rfl) (by kernel_rfl) (by kernel_rfl) (by kernel_rfl) ?_
    refine (units_in k6 n6 0 _).mono ?_
    rintro e wd1 ⟨rfl, hb⟩
    have acc1 : Seen W5 wd1 := Seen.next acc0 hb
    clear hb
    refine ⟨_, rfl, acc1, ?_⟩
    simp only [Act.put, List.setIfInBounds_toArray, List.set_cons_zero, List.set_cons_succ]
    refine hCall 6 (some 39) 22 #[.agg #[.int .i64 k7, .int .i64 n7], .int .i64 1125899906842624] (by kernel_rfl) (by kernel_rfl) (by kernel_rfl) (by kernel_rfl) (by kernel_rfl) ?_
    refine (units_in k7 n7 1125899906842624 _).mono ?_
    rintro e wd2 ⟨rfl, hb⟩
    have acc2 : Seen W5 wd2 := Seen.next acc1 hb
    clear hb
    refine ⟨_, rfl, acc2, ?_⟩
    simp only [Act.put, List.setIfInBounds_toArray, List.set_cons_zero, List.set_cons_succ]
    refine hCall 7 (some 40) 21 #[.int .i64 n4, .int .i64 (uN ⟨k6, n6⟩ 0), .int .i64 (uN ⟨k7, n7⟩ 1125899906842624)] (by kernel_rfl) (by kernel_rfl) (by kernel_rfl) (by kernel_rfl) (by kernel_rfl) ?_
    refine (clamp_seen n4 (uN ⟨k6, n6⟩ 0) (uN ⟨k7, n7⟩ 1125899906842624) _).mono ?_
    rintro e wd3 ⟨rfl, hb⟩
    have acc3 : Seen W5 wd3 := Seen.next acc2 hb
    clear hb
    refine ⟨_, rfl, acc3, ?_⟩
    simp only [Act.put, List.setIfInBounds_toArray, List.set_cons_zero, List.set_cons_succ]
    refine hTake 8 (some 4) (.int .i64 (clampI n4 (uN ⟨k6, n6⟩ 0) (uN ⟨k7, n7⟩ 1125899906842624))) (by kernel_rfl) (by kernel_rfl) (by kernel_rfl) (by kernel_rfl) (by kernel_rfl) (by kernel_rfl) (fun _ _ _ h => h) (fun w' hS => by kernel_rfl) acc3 ?_
    simp only [Act.put, List.setIfInBounds_toArray, List.set_cons_zero, List.set_cons_succ]
    refine hTake 9 (some 5) (.bool true) (by kernel_rfl) (by kernel_rfl) (by kernel_rfl) (by kernel_rfl) (by kernel_rfl) (by kernel_rfl) (fun _ _ _ h => h) (fun w' hS => by kernel_rfl) acc3 ?_
    simp only [Act.put, List.setIfInBounds_toArray, List.set_cons_zero, List.set_cons_succ]
    refine wpAnyH_done (by kernel_rfl) ?_ _
    have z1 := acc3
    go_wp2_with fail
    go_ret2
    exact ⟨HRS.out, SW.out.trans z1⟩
  · have h1b : (k4 == 1) = false := by simpa using h1
    have HPR2 := Lib.hid (HPR.out.trans (congrArg (bndP s) (if_neg h1)))
    clear HPR
    cases R with
    | none =>
      have HWD2 : Hid (∀ w, Seen w0 w → ∀ (a : Option Addr) (c : Nat), ZS w a L.length L → Calls Try.prog 19 #[kv, .slice a L.length c] w fun e w' => e = .returned (.tuple #[.int .i64 0, .bool false]) ∧ Seen w w') := HWD.out
      have HRS : Hid (Ending.returned (.tuple #[.int .i64 0, .bool false]) = Ending.returned (prA RES)) := by unfold Hid; rw [HPR2.out]; rfl
      clear HWD HV HPR2
      go_wp2_with (first
        | (go_at_call 20; refine (HFK.out W5 (HS.out.trans SW.out)).mono ?_; clear HFK; rintro e w7 ⟨u, rfl, hr, hb⟩; have S7 := Lib.hid (SW.out.trans hb); obtain ⟨ad, c, rfl, hzz, _⟩ := hr.slice; have HZ := Lib.hid hzz; clear hr hb hzz)
        | (go_at_call 19; refine (HWD2.out w7 (HS.out.trans S7.out) _ _ HZ.out).mono ?_; clear HWD2; rintro e w8 ⟨rfl, hb⟩; have S8 := Lib.hid (S7.out.trans hb); clear hb))
      go_ret2
      exact ⟨HRS.out, S8.out⟩
    | some x =>
      have HWD2 : Hid (∀ w, Seen w0 w → ∀ (a : Option Addr) (c : Nat), ZS w a L.length L → Calls Try.prog 19 #[kv, .slice a L.length c] w fun e w' => e = .returned (.tuple #[.int .i64 x, .bool true]) ∧ Seen w w') := HWD.out
      have HRS : Hid (Ending.returned (.tuple #[.int .i64 (clampI x (uN ⟨k6, n6⟩ 0) (uN ⟨k7, n7⟩ 1125899906842624)), .bool true]) = Ending.returned (prA RES)) := by
        unfold Hid; rw [HPR2.out, HV.out]; rfl
      clear HWD HV HPR2
      go_upto_region 9 with (first
        | (go_at_call 20; refine (HFK.out W5 (HS.out.trans SW.out)).mono ?_; clear HFK; rintro e w7 ⟨u, rfl, hr, hb⟩; have S7 := Lib.hid hb; obtain ⟨ad, c, rfl, hzz, _⟩ := hr.slice; have HZ := Lib.hid hzz; clear hr hb hzz)
        | (go_at_call 19; refine (HWD2.out w7 (HS.out.trans (SW.out.trans S7.out)) _ _ HZ.out).mono ?_; clear HWD2; rintro e W6 ⟨rfl, hb⟩; have S8 := Lib.hid (S7.out.trans hb); clear hb))
      have acc0 : Seen W5 W6.drew := S8.out.drew
      clear ck cn HZ S7
      refine wp_region_held_drew (S := fun w' => Seen W5 w') (by kernel_rfl) acc0 (fun _ => ?_)
      refine hTake 0 (some 33) (.int .i64 x) (by kernel_rfl) (by kernel_rfl) (by kernel_rfl) (by kernel_rfl) (by kernel_rfl) (by kernel_rfl) (fun _ _ _ h => h) (fun w' hS => by kernel_rfl) acc0 ?_
      simp only [Act.put, List.setIfInBounds_toArray, List.set_cons_zero, List.set_cons_succ]
      refine hTake 1 (some 34) (.pointer (some ⟨w4.heap.size, 14, none⟩)) (by kernel_rfl) (by kernel_rfl) (by kernel_rfl) (by kernel_rfl) (by kernel_rfl) (by kernel_rfl) (fun _ _ _ h => h) (fun w' hS => by kernel_rfl) acc0 ?_
      simp only [Act.put, List.setIfInBounds_toArray, List.set_cons_zero, List.set_cons_succ]
      refine hTake 2 (some 35) (.agg #[.int .i64 k6, .int .i64 n6]) (by kernel_rfl) (by kernel_rfl) (by kernel_rfl) (by kernel_rfl) (by kernel_rfl) (by kernel_rfl) (fun _ _ _ h => h) (fun w' hS => run_by (Instr.loadAt 35 (.pointer (some ⟨w4.heap.size, 14, none⟩))) (by kernel_rfl) (ldLen (KS.out.seen hS) HF.out (i := 6) (by decide) rfl hk6.out)) acc0 ?_
      simp only [Act.put, List.setIfInBounds_toArray, List.set_cons_zero, List.set_cons_succ]
      refine hTake 4 (some 37) (.pointer (some ⟨w4.heap.size, 16, none⟩)) (by kernel_rfl) (by kernel_rfl) (by kernel_rfl) (by kernel_rfl) (by kernel_rfl) (by kernel_rfl) (fun _ _ _ h => h) (fun w' hS => by kernel_rfl) acc0 ?_
      simp only [Act.put, List.setIfInBounds_toArray, List.set_cons_zero, List.set_cons_succ]
      refine hTake 5 (some 38) (.agg #[.int .i64 k7, .int .i64 n7]) (by kernel_rfl) (by kernel_rfl) (by kernel_rfl) (by kernel_rfl) (by kernel_rfl) (by kernel_rfl) (fun _ _ _ h => h) (fun w' hS => run_by (Instr.loadAt 35 (.pointer (some ⟨w4.heap.size, 16, none⟩))) (by kernel_rfl) (ldLen (KS.out.seen hS) HF.out (i := 7) (by decide) rfl hk7.out)) acc0 ?_
      simp only [Act.put, List.setIfInBounds_toArray, List.set_cons_zero, List.set_cons_succ]
      refine hCall 3 (some 36) 22 #[.agg #[.int .i64 k6, .int .i64 n6], .int .i64 0] (by kernel_rfl) (by kernel_rfl) (by kernel_rfl) (by kernel_rfl) (by kernel_rfl) ?_
      refine (units_in k6 n6 0 _).mono ?_
      rintro e wd1 ⟨rfl, hb⟩
      have acc1 : Seen W5 wd1 := Seen.next acc0 hb
      clear hb
      refine ⟨_, rfl, acc1, ?_⟩
      simp only [Act.put, List.setIfInBounds_toArray, List.set_cons_zero, List.set_cons_succ]
      refine hCall 6 (some 39) 22 #[.agg #[.int .i64 k7, .int .i64 n7], .int .i64 1125899906842624] (by kernel_rfl) (by kernel_rfl) (by kernel_rfl) (by kernel_rfl) (by kernel_rfl) ?_
      refine (units_in k7 n7 1125899906842624 _).mono ?_
      rintro e wd2 ⟨rfl, hb⟩
      have acc2 : Seen W5 wd2 := Seen.next acc1 hb
      clear hb
      refine ⟨_, rfl, acc2, ?_⟩
      simp only [Act.put, List.setIfInBounds_toArray, List.set_cons_zero, List.set_cons_succ]
      refine hCall 7 (some 40) 21 #[.int .i64 x, .int .i64 (uN ⟨k6, n6⟩ 0), .int .i64 (uN ⟨k7, n7⟩ 1125899906842624)] (by kernel_rfl) (by kernel_rfl) (by kernel_rfl) (by kernel_rfl) (by kernel_rfl) ?_
      refine (clamp_seen x (uN ⟨k6, n6⟩ 0) (uN ⟨k7, n7⟩ 1125899906842624) _).mono ?_
      rintro e wd3 ⟨rfl, hb⟩
      have acc3 : Seen W5 wd3 := Seen.next acc2 hb
      clear hb
      refine ⟨_, rfl, acc3, ?_⟩
      simp only [Act.put, List.setIfInBounds_toArray, List.set_cons_zero, List.set_cons_succ]
      refine hTake 8 (some 4) (.int .i64 (clampI x (uN ⟨k6, n6⟩ 0) (uN ⟨k7, n7⟩ 1125899906842624))) (by kernel_rfl) (by kernel_rfl) (by kernel_rfl) (by kernel_rfl) (by kernel_rfl) (by kernel_rfl) (fun _ _ _ h => h) (fun w' hS => by kernel_rfl) acc3 ?_
      simp only [Act.put, List.setIfInBounds_toArray, List.set_cons_zero, List.set_cons_succ]
      refine hTake 9 (some 5) (.bool true) (by kernel_rfl) (by kernel_rfl) (by kernel_rfl) (by kernel_rfl) (by kernel_rfl) (by kernel_rfl) (fun _ _ _ h => h) (fun w' hS => by kernel_rfl) acc3 ?_
      simp only [Act.put, List.setIfInBounds_toArray, List.set_cons_zero, List.set_cons_succ]
      refine wpAnyH_done (by kernel_rfl) ?_ _
      have z1 := acc3
      go_wp2_with fail
      go_ret2
      exact ⟨HRS.out, SW.out.trans z1⟩
end Go.Proofs.Ytlnnaegmcopiiaa
