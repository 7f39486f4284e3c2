/- Texts of the proof, merged: PfO, RowI. -/
import Derived.Test.YtlnnaegmcopiiaaM13
import Derived.Test.YtlnnaegmcopiiaaM14
import Derived.Deep.DeepCutAuto
import Derived.Test.YtlnnaegmcopiiaaM11
/- Contract of outer of layer 15; no conditions beyond those written in each theorem. -/
namespace Go.Proofs.Ytlnnaegmcopiiaa
open Go.ChangeShapes Go.WideShapes Go.ChangeAt Go.RowKit
set_option maxRecDepth 100000
set_option maxHeartbeats 4000000 in
theorem outerP_any {l : List Nd} {kv : Value} {w0 : World} (hKV : KV w0 kv l) (n : Int) (o : Option Int) (W : World) (hs : Seen w0 W)
    (HC : ∀ w', Seen w0 w' → Calls Try.prog 8 #[kv, .int .i64 n] w' fun e w'' => e = .returned (prA o) ∧ Seen w' w'') :
    Calls Try.prog 35 #[kv, .int .i64 n] W fun e w' => e = .returned (prA (outP (styAt l n) o)) ∧ Seen W w' := by
  have HS := Lib.hid hs
  have HST : Hid (∀ w, Seen w0 w → Calls Try.prog 18 #[kv, .int .i64 n] w fun e w' => e = .returned (sv (styAt l n)) ∧ Seen w w') := fun w h => style_kin kv l n w (hKV.seen h)
  have hfs := styAt_full l n
  obtain ⟨s, hss⟩ : ∃ s, styAt l n = s := ⟨_, rfl⟩
  rw [hss] at HST hfs ⊢
  have HF := Lib.hid hfs
  have HCC := Lib.hid HC
  clear hss hfs hs hKV HC
  cases o with
  | none =>
    have HC1 : Hid (Calls Try.prog 8 #[kv, .int .i64 n] W fun e w'' => e = .returned (.tuple #[.int .i64 0, .bool false]) ∧ Seen W w'') := HCC.out W HS.out
    show Calls Try.prog 35 #[kv, .int .i64 n] W fun e w' => e = .returned (.tuple #[.int .i64 0, .bool false]) ∧ Seen W w'
    clear HCC HST HF
    go_enter Try.func35, Try.ntmps35
    go_wp2_with (go_at_call 8; refine HC1.out.mono ?_; clear HC1; rintro e w1 ⟨rfl, hb⟩; have S1 := Lib.hid hb; clear hb)
    go_ret2
    exact ⟨rfl, S1.out⟩
  | some x =>
  have HC1 : Hid (Calls Try.prog 8 #[kv, .int .i64 n] W fun e w'' => e = .returned (.tuple #[.int .i64 x, .bool true]) ∧ Seen W w'') := HCC.out W HS.out
  have HV := Lib.hid (show zsO s x = [uN (lat s.lens 13) 0, bat s.bord 3, uN (lat s.lens 17) 0, x, uN (lat s.lens 15) 0, bat s.bord 1, uN (lat s.lens 11) 0] from rfl)
  obtain ⟨⟨k13, n13⟩, hq13⟩ : ∃ q, lat s.lens 13 = q := ⟨_, rfl⟩
  have hk13 := Lib.hid hq13
  rw [hq13] at HV
  clear hq13
  obtain ⟨⟨k17, n17⟩, hq17⟩ : ∃ q, lat s.lens 17 = q := ⟨_, rfl⟩
  have hk17 := Lib.hid hq17
  rw [hq17] at HV
  clear hq17
  obtain ⟨⟨k15, n15⟩, hq15⟩ : ∃ q, lat s.lens 15 = q := ⟨_, rfl⟩
  have hk15 := Lib.hid hq15
  rw [hq15] at HV
  clear hq15
  obtain ⟨⟨k11, n11⟩, hq11⟩ : ∃ q, lat s.lens 11 = q := ⟨_, rfl⟩
  have hk11 := Lib.hid hq11
  rw [hq11] at HV
  clear hq11
  obtain ⟨b3, hq3⟩ : ∃ q, bat s.bord 3 = q := ⟨_, rfl⟩
  have hb3 := Lib.hid hq3
  rw [hq3] at HV
  clear hq3
  obtain ⟨b1, hq1⟩ : ∃ q, bat s.bord 1 = q := ⟨_, rfl⟩
  have hb1 := Lib.hid hq1
  rw [hq1] at HV
  clear hq1
  have HRES : Hid (prA (outP s (some x)) = .tuple #[.int .i64 (sumN [uN ⟨k13, n13⟩ 0, b3, uN ⟨k17, n17⟩ 0, x, uN ⟨k15, n15⟩ 0, b1, uN ⟨k11, n11⟩ 0]), .bool (sumB [uN ⟨k13, n13⟩ 0, b3, uN ⟨k17, n17⟩ 0, x, uN ⟨k15, n15⟩ 0, b1, uN ⟨k11, n11⟩ 0])]) := by
    show prA (if sumB (zsO s x) then some (sumN (zsO s x)) else none) = _
    rw [HV.out]
    exact prA_sum _
  have HSUM := fun w h => sum_any (some ⟨w, 0, none⟩) 7 7 [uN ⟨k13, n13⟩ 0, b3, uN ⟨k17, n17⟩ 0, x, uN ⟨k15, n15⟩ 0, b1, uN ⟨k11, n11⟩ 0] h
  obtain ⟨SN, hSN⟩ : ∃ q, sumN [uN ⟨k13, n13⟩ 0, b3, uN ⟨k17, n17⟩ 0, x, uN ⟨k15, n15⟩ 0, b1, uN ⟨k11, n11⟩ 0] = q := ⟨_, rfl⟩
  obtain ⟨SB, hSB⟩ : ∃ q, sumB [uN ⟨k13, n13⟩ 0, b3, uN ⟨k17, n17⟩ 0, x, uN ⟨k15, n15⟩ 0, b1, uN ⟨k11, n11⟩ 0] = q := ⟨_, rfl⟩
  rw [hSN, hSB] at HRES
  have SUMC : ∀ (a : Option Addr) (m c : Nat) (zs : List Int) (w : World) (_ : zs = [uN ⟨k13, n13⟩ 0, b3, uN ⟨k17, n17⟩ 0, x, uN ⟨k15, n15⟩ 0, b1, uN ⟨k11, n11⟩ 0]) (h : ZI w a m zs) (hn : m ≤ 4000), Calls Try.prog 45 #[.slice a m c] w fun e w' => e = .returned (.tuple #[.int .i64 SN, .bool SB]) ∧ w = w' := fun a m c zs w he h hn => by
    have := sum_any a m c zs w h hn
    rw [he, hSN, hSB] at this
    exact this
  clear HV HCC hSN hSB HSUM
  rw [HRES.out]
  go_enter Try.func35, Try.ntmps35
  go_upto_region 5 with (first
    | (go_at_call 8; refine HC1.out.mono ?_; clear HC1; rintro e w1 ⟨rfl, hb⟩; have S1 := Lib.hid hb; clear hb)
    | (go_at_call 18; refine (HST.out w1 (HS.out.trans S1.out)).mono ?_; clear HST; rintro e w4 ⟨rfl, hb⟩; have S4 := Lib.hid (S1.out.trans hb); clear hb S1)
    | (rw [zero_lit]; refine wpList_storeS rfl (.tmp 8) (.tmp 19) rfl w4.heap.size zeroS s rfl rfl HF.out zero_full (hs_new w4 zeroS) ?_
       intro W5 b5 t5
       have SW := Lib.hid (S4.out.trans (Seen.fresh (Seen.refl w4) t5))
       have KS := Lib.hid b5
       clear b5 t5 S4))
  have acc0 : Seen W5 W5.drew := (Seen.refl W5).drew
  refine wp_region_held_drew (S := fun w' => Seen W5 w') (by kernel_rfl) acc0 (fun _ => ?_)
  refine hTake 0 (some 20) (.pointer (some ⟨w4.heap.size, 22, none⟩)) (by kernel_rfl) (by kernel_rfl) (by kernel_rfl) (by kernel_rfl) (by kernel_rfl) (by kernel_rfl) (fun _ _ _ h => h) (fun w' hS => by kernel_rfl) acc0 ?_
  simp only [Act.put, List.setIfInBounds_toArray, List.set_cons_zero, List.set_cons_succ]
  refine hTake 1 (some 21) (.pointer (some ⟨w4.heap.size, 28, none⟩)) (by kernel_rfl) (by kernel_rfl) (by kernel_rfl) (by kernel_rfl) (by kernel_rfl) (by kernel_rfl) (fun _ _ _ h => h) (fun w' hS => by kernel_rfl) acc0 ?_
  simp only [Act.put, List.setIfInBounds_toArray, List.set_cons_zero, List.set_cons_succ]
  refine hTake 2 (some 22) (.agg #[.int .i64 k13, .int .i64 n13]) (by kernel_rfl) (by kernel_rfl) (by kernel_rfl) (by kernel_rfl) (by kernel_rfl) (by kernel_rfl) (fun _ _ _ h => h) (fun w' hS => run_by (Instr.loadAt 35 (.pointer (some ⟨w4.heap.size, 28, none⟩))) (by kernel_rfl) (ldLen (KS.out.seen hS) HF.out (i := 13) (by decide) rfl hk13.out)) acc0 ?_
  simp only [Act.put, List.setIfInBounds_toArray, List.set_cons_zero, List.set_cons_succ]
  refine hTake 4 (some 24) (.pointer (some ⟨w4.heap.size, 38, none⟩)) (by kernel_rfl) (by kernel_rfl) (by kernel_rfl) (by kernel_rfl) (by kernel_rfl) (by kernel_rfl) (fun _ _ _ h => h) (fun w' hS => by kernel_rfl) acc0 ?_
  simp only [Act.put, List.setIfInBounds_toArray, List.set_cons_zero, List.set_cons_succ]
  refine hTake 5 (some 25) (.pointer (some ⟨w4.heap.size, 41, none⟩)) (by kernel_rfl) (by kernel_rfl) (by kernel_rfl) (by kernel_rfl) (by kernel_rfl) (by kernel_rfl) (fun _ _ _ h => h) (fun w' hS => by kernel_rfl) acc0 ?_
  simp only [Act.put, List.setIfInBounds_toArray, List.set_cons_zero, List.set_cons_succ]
  refine hTake 6 (some 26) (.int .i64 b3) (by kernel_rfl) (by kernel_rfl) (by kernel_rfl) (by kernel_rfl) (by kernel_rfl) (by kernel_rfl) (fun _ _ _ h => h) (fun w' hS => run_by (Instr.loadAt 2 (.pointer (some ⟨w4.heap.size, 41, none⟩))) (by kernel_rfl) (ldBord (KS.out.seen hS) HF.out (i := 3) (by decide) rfl hb3.out)) acc0 ?_
  simp only [Act.put, List.setIfInBounds_toArray, List.set_cons_zero, List.set_cons_succ]
  refine hTake 7 (some 27) (.pointer (some ⟨w4.heap.size, 30, none⟩)) (by kernel_rfl) (by kernel_rfl) (by kernel_rfl) (by kernel_rfl) (by kernel_rfl) (by kernel_rfl) (fun _ _ _ h => h) (fun w' hS => by kernel_rfl) acc0 ?_
  simp only [Act.put, List.setIfInBounds_toArray, List.set_cons_zero, List.set_cons_succ]
  refine hTake 8 (some 28) (.pointer (some ⟨w4.heap.size, 36, none⟩)) (by kernel_rfl) (by kernel_rfl) (by kernel_rfl) (by kernel_rfl) (by kernel_rfl) (by kernel_rfl) (fun _ _ _ h => h) (fun w' hS => by kernel_rfl) acc0 ?_
  simp only [Act.put, List.setIfInBounds_toArray, List.set_cons_zero, List.set_cons_succ]
  refine hTake 9 (some 29) (.agg #[.int .i64 k17, .int .i64 n17]) (by kernel_rfl) (by kernel_rfl) (by kernel_rfl) (by kernel_rfl) (by kernel_rfl) (by kernel_rfl) (fun _ _ _ h => h) (fun w' hS => run_by (Instr.loadAt 35 (.pointer (some ⟨w4.heap.size, 36, none⟩))) (by kernel_rfl) (ldLen (KS.out.seen hS) HF.out (i := 17) (by decide) rfl hk17.out)) acc0 ?_
  simp only [Act.put, List.setIfInBounds_toArray, List.set_cons_zero, List.set_cons_succ]
  refine hTake 11 (some 31) (.int .i64 x) (by kernel_rfl) (by kernel_rfl) (by kernel_rfl) (by kernel_rfl) (by kernel_rfl) (by kernel_rfl) (fun _ _ _ h => h) (fun w' hS => by kernel_rfl) acc0 ?_
  simp only [Act.put, List.setIfInBounds_toArray, List.set_cons_zero, List.set_cons_succ]
  refine hTake 12 (some 32) (.pointer (some ⟨w4.heap.size, 30, none⟩)) (by kernel_rfl) (by kernel_rfl) (by kernel_rfl) (by kernel_rfl) (by kernel_rfl) (by kernel_rfl) (fun _ _ _ h => h) (fun w' hS => by kernel_rfl) acc0 ?_
  simp only [Act.put, List.setIfInBounds_toArray, List.set_cons_zero, List.set_cons_succ]
  refine hTake 13 (some 33) (.pointer (some ⟨w4.heap.size, 32, none⟩)) (by kernel_rfl) (by kernel_rfl) (by kernel_rfl) (by kernel_rfl) (by kernel_rfl) (by kernel_rfl) (fun _ _ _ h => h) (fun w' hS => by kernel_rfl) acc0 ?_
  simp only [Act.put, List.setIfInBounds_toArray, List.set_cons_zero, List.set_cons_succ]
  refine hTake 14 (some 34) (.agg #[.int .i64 k15, .int .i64 n15]) (by kernel_rfl) (by kernel_rfl) (by kernel_rfl) (by kernel_rfl) (by kernel_rfl) (by kernel_rfl) (fun _ _ _ h => h) (fun w' hS => run_by (Instr.loadAt 35 (.pointer (some ⟨w4.heap.size, 32, none⟩))) (by kernel_rfl) (ldLen (KS.out.seen hS) HF.out (i := 15) (by decide) rfl hk15.out)) acc0 ?_
  simp only [Act.put, List.setIfInBounds_toArray, List.set_cons_zero, List.set_cons_succ]
  refine hTake 16 (some 36) (.pointer (some ⟨w4.heap.size, 38, none⟩)) (by kernel_rfl) (by kernel_rfl) (by kernel_rfl) (by kernel_rfl) (by kernel_rfl) (by kernel_rfl) (fun _ _ _ h => h) (fun w' hS => by kernel_rfl) acc0 ?_
  simp only [Act.put, List.setIfInBounds_toArray, List.set_cons_zero, List.set_cons_succ]
  refine hTake 17 (some 37) (.pointer (some ⟨w4.heap.size, 39, none⟩)) (by kernel_rfl) (by kernel_rfl) (by kernel_rfl) (by kernel_rfl) (by kernel_rfl) (by kernel_rfl) (fun _ _ _ h => h) (fun w' hS => by kernel_rfl) acc0 ?_
  simp only [Act.put, List.setIfInBounds_toArray, List.set_cons_zero, List.set_cons_succ]
  refine hTake 18 (some 38) (.int .i64 b1) (by kernel_rfl) (by kernel_rfl) (by kernel_rfl) (by kernel_rfl) (by kernel_rfl) (by kernel_rfl) (fun _ _ _ h => h) (fun w' hS => run_by (Instr.loadAt 2 (.pointer (some ⟨w4.heap.size, 39, none⟩))) (by kernel_rfl) (ldBord (KS.out.seen hS) HF.out (i := 1) (by decide) rfl hb1.out)) acc0 ?_
  simp only [Act.put, List.setIfInBounds_toArray, List.set_cons_zero, List.set_cons_succ]
  refine hTake 19 (some 39) (.pointer (some ⟨w4.heap.size, 22, none⟩)) (by kernel_rfl) (by kernel_rfl) (by kernel_rfl) (by kernel_rfl) (by kernel_rfl) (by kernel_rfl) (fun _ _ _ h => h) (fun w' hS => by kernel_rfl) acc0 ?_
  simp only [Act.put, List.setIfInBounds_toArray, List.set_cons_zero, List.set_cons_succ]
  refine hTake 20 (some 40) (.pointer (some ⟨w4.heap.size, 24, none⟩)) (by kernel_rfl) (by kernel_rfl) (by kernel_rfl) (by kernel_rfl) (by kernel_rfl) (by kernel_rfl) (fun _ _ _ h => h) (fun w' hS => by kernel_rfl) acc0 ?_
  simp only [Act.put, List.setIfInBounds_toArray, List.set_cons_zero, List.set_cons_succ]
  refine hTake 21 (some 41) (.agg #[.int .i64 k11, .int .i64 n11]) (by kernel_rfl) (by kernel_rfl) (by kernel_rfl) (by kernel_rfl) (by kernel_rfl) (by kernel_rfl) (fun _ _ _ h => h) (fun w' hS => run_by (Instr.loadAt 35 (.pointer (some ⟨w4.heap.size, 24, none⟩))) (by kernel_rfl) (ldLen (KS.out.seen hS) HF.out (i := 11) (by decide) rfl hk11.out)) acc0 ?_
  simp only [Act.put, List.setIfInBounds_toArray, List.set_cons_zero, List.set_cons_succ]
  refine hCall 3 (some 23) 22 #[.agg #[.int .i64 k13, .int .i64 n13], .int .i64 0] (by kernel_rfl) (by kernel_rfl) (by kernel_rfl) (by kernel_rfl) (by kernel_rfl) ?_
  refine (units_in k13 n13 0 _).mono ?_
  rintro e wd1 ⟨rfl, hb⟩
  have acc1 : Seen W5 wd1 := Seen.next acc0 hb
  clear hb
  refine ⟨_, rfl, acc1, ?_⟩
  simp only [Act.put, List.setIfInBounds_toArray, List.set_cons_zero, List.set_cons_succ]
  refine hCall 10 (some 30) 22 #[.agg #[.int .i64 k17, .int .i64 n17], .int .i64 0] (by kernel_rfl) (by kernel_rfl) (by kernel_rfl) (by kernel_rfl) (by kernel_rfl) ?_
  refine (units_in k17 n17 0 _).mono ?_
  rintro e wd2 ⟨rfl, hb⟩
  have acc2 : Seen W5 wd2 := Seen.next acc1 hb
  clear hb
  refine ⟨_, rfl, acc2, ?_⟩
  simp only [Act.put, List.setIfInBounds_toArray, List.set_cons_zero, List.set_cons_succ]
  refine hCall 15 (some 35) 22 #[.agg #[.int .i64 k15, .int .i64 n15], .int .i64 0] (by kernel_rfl) (by kernel_rfl) (by kernel_rfl) (by kernel_rfl) (by kernel_rfl) ?_
  refine (units_in k15 n15 0 _).mono ?_
  rintro e wd3 ⟨rfl, hb⟩
  have acc3 : Seen W5 wd3 := Seen.next acc2 hb
  clear hb
  refine ⟨_, rfl, acc3, ?_⟩
  simp only [Act.put, List.setIfInBounds_toArray, List.set_cons_zero, List.set_cons_succ]
  refine hCall 22 (some 42) 22 #[.agg #[.int .i64 k11, .int .i64 n11], .int .i64 0] (by kernel_rfl) (by kernel_rfl) (by kernel_rfl) (by kernel_rfl) (by kernel_rfl) ?_
  refine (units_in k11 n11 0 _).mono ?_
  rintro e wd4 ⟨rfl, hb⟩
  have acc4 : Seen W5 wd4 := Seen.next acc3 hb
  clear hb
  refine ⟨_, rfl, acc4, ?_⟩
  simp only [Act.put, List.setIfInBounds_toArray, List.set_cons_zero, List.set_cons_succ]
  refine hRun 23 (some 43) (.slice (some ⟨wd4.heap.size, 0, none⟩) 7 7) (by kernel_rfl) (by kernel_rfl) (by kernel_rfl) (by kernel_rfl) (by kernel_rfl) (show Seen W5 (wd4.alloc (.cells #[.int .i64 (uN ⟨k13, n13⟩ 0), .int .i64 b3, .int .i64 (uN ⟨k17, n17⟩ 0), .int .i64 x, .int .i64 (uN ⟨k15, n15⟩ 0), .int .i64 b1, .int .i64 (uN ⟨k11, n11⟩ 0)] 2)) from Seen.alloc acc4 _) ?_
  have acc5 := (show Seen W5 (wd4.alloc (.cells #[.int .i64 (uN ⟨k13, n13⟩ 0), .int .i64 b3, .int .i64 (uN ⟨k17, n17⟩ 0), .int .i64 x, .int .i64 (uN ⟨k15, n15⟩ 0), .int .i64 b1, .int .i64 (uN ⟨k11, n11⟩ 0)] 2)) from Seen.alloc acc4 _)
  simp only [Act.put, List.setIfInBounds_toArray, List.set_cons_zero, List.set_cons_succ]
  refine hCall 24 (some 44) 45 #[.slice (some ⟨wd4.heap.size, 0, none⟩) 7 7] (by kernel_rfl) (by kernel_rfl) (by kernel_rfl) (by kernel_rfl) (by kernel_rfl) ?_
  refine (SUMC _ _ 7 [uN ⟨k13, n13⟩ 0, b3, uN ⟨k17, n17⟩ 0, x, uN ⟨k15, n15⟩ 0, b1, uN ⟨k11, n11⟩ 0] _ rfl (zi_seven wd4 (uN ⟨k13, n13⟩ 0) b3 (uN ⟨k17, n17⟩ 0) x (uN ⟨k15, n15⟩ 0) b1 (uN ⟨k11, n11⟩ 0) 2) (by decide)).mono ?_
  rintro e wd6 ⟨rfl, hb⟩
  subst hb
  refine ⟨_, rfl, acc5, ?_⟩
  simp only [Act.put, List.setIfInBounds_toArray, List.set_cons_zero, List.set_cons_succ]
  refine hTake 25 (some 45) (.int .i64 SN) (by kernel_rfl) (by kernel_rfl) (by kernel_rfl) (by kernel_rfl) (by kernel_rfl) (by kernel_rfl) (fun _ _ _ h => h) (fun w' hS => by kernel_rfl) acc5 ?_
  simp only [Act.put, List.setIfInBounds_toArray, List.set_cons_zero, List.set_cons_succ]
  refine hTake 26 (some 46) (.bool SB) (by kernel_rfl) (by kernel_rfl) (by kernel_rfl) (by kernel_rfl) (by kernel_rfl) (by kernel_rfl) (fun _ _ _ h => h) (fun w' hS => by kernel_rfl) acc5 ?_
  simp only [Act.put, List.setIfInBounds_toArray, List.set_cons_zero, List.set_cons_succ]
  refine hTake 27 (some 4) (.int .i64 SN) (by kernel_rfl) (by kernel_rfl) (by kernel_rfl) (by kernel_rfl) (by kernel_rfl) (by kernel_rfl) (fun _ _ _ h => h) (fun w' hS => by kernel_rfl) acc5 ?_
  simp only [Act.put, List.setIfInBounds_toArray, List.set_cons_zero, List.set_cons_succ]
  refine hTake 28 (some 5) (.bool SB) (by kernel_rfl) (by kernel_rfl) (by kernel_rfl) (by kernel_rfl) (by kernel_rfl) (by kernel_rfl) (fun _ _ _ h => h) (fun w' hS => by kernel_rfl) acc5 ?_
  simp only [Act.put, List.setIfInBounds_toArray, List.set_cons_zero, List.set_cons_succ]
  refine wpAnyH_done (by kernel_rfl) ?_ _
  have z1 := acc5
  go_wp2_with fail
  go_ret2
  exact ⟨rfl, SW.out.trans z1⟩

end Go.Proofs.Ytlnnaegmcopiiaa

/- Rows of numbers: one number pushed, a row as a result, a row read; contract of the reference's Same for two rows of one list; no conditions beyond those written in each theorem. -/
namespace Go.Proofs.Ytlnnaegmcopiiaa
open Go.ChangeShapes Go.WideShapes Go.ChangeAt Go.RowKit
set_option maxRecDepth 100000
theorem info3z : (Try.prog.info? 3).map (fun i => (i.zero, i.size, i.bytes)) = some (some (.int .i64 0), 1, 8) := by kernel_rfl
theorem one_at (w : World) (u : Value) (t : TypeId) : ∀ j v, [u][j]? = some v → (w.alloc (.cells #[u] t)).cell? ((⟨w.heap.size, 0, none⟩ : Addr).add j) = some v := by
  intro j v h
  match j, h with
  | 0, h =>
    simp at h
    subst h
    rw [add_plain, Go.Joins.cell_of_block (World.alloc_heap_new w _)]; rfl
/-- The row of numbers that it owns. -/
def RI (w : World) (base : Nat) (v : Value) (l : List Int) : Prop := w.ownsRow base 3 1 v l.length (flatI l)
theorem RI.seen {w w' : World} {base : Nat} {v : Value} {l : List Int} (h : RI w base v l) (hs : Seen w w') : RI w' base v l := row_seen h hs
theorem RI.nil (w : World) (base : Nat) : RI w base (.slice none 0 0) [] := ⟨rfl, .inl ⟨rfl, rfl⟩⟩
/-- x = append(x, y). -/
theorem wpList_pushI {ops : Array Oper} {rest : List Oper} {op : Oper} {a : Act} {w : World} {Q : Exit → Act → World → Prop} (hgd : op.guard = none) (s x : Operand) (ho : op.op = .call { callee := .builtin .append, args := #[s, x], argTypes := #[58, 58] })
    (base : Nat) (v : Value) (l : List Int) (y : Int) (hs : a.eval s = v) (hx : a.eval x = .slice (some ⟨w.heap.size, 0, none⟩) 1 1) (hown : RI w base v l) (hl : l.length ≤ 1000000) (hb : base ≤ w.heap.size)
    (h : ∀ v' w', RI w' base v' (l ++ [y]) → Below base w w' → wpList Try.prog ops Q rest (a.put op.dst v') w') : wpList Try.prog ops Q (op :: rest) a (w.alloc (.cells #[.int .i64 y] 3)) := by
  obtain ⟨i0, hi, hz0, hz1, hz2⟩ := info_parts info3z
  refine wpList_append_own (P := Try.prog) _ hgd s x 58 ho base 3 i0 (.int .i64 0) 1 8 Try.underlying58 hi hz0 hz1 hz2 rfl (by decide) v l.length (flatI l) hs (hown.alloc _) ⟨w.heap.size, 0, none⟩ 1 1 [.int .i64 y] hx rfl (one_at _ _ _) (by intro u hu; rw [List.mem_singleton] at hu; subst hu; rfl) (by unfold maxLen; omega) (by omega) (by simp; omega) ?_
  intro v' w' h1 h2 _
  refine h v' w' ?_ ?_
  · unfold RI
    rw [flatI_append, List.length_append]
    exact h1
  · exact ((Below.refl base w).alloc hb _).grown h2 (by simp; omega) (fun g hg => (hown.lt g hg).1)
/-- The answer is a new row of these numbers; nothing old has turned. -/
def RowI (w : World) (l : List Int) (e : Ending) (w' : World) : Prop := ∃ v, e = .returned v ∧ RI w' w.heap.size v l ∧ Seen w w'
/-- A slice of n numbers reads as this list. -/
def ZS (w : World) (ad : Option Addr) (n : Nat) (l : List Int) : Prop := SL (fun x => [Value.int .i64 x]) 1 0 w ad n l
theorem ZS.seen {w w' : World} {ad : Option Addr} {n : Nat} {l : List Int} (h : ZS w ad n l) (hs : Seen w w') : ZS w' ad n l := SL.seen (fun _ => rfl) h hs
theorem ZS.cells {w : World} {ad : Option Addr} {n : Nat} {l : List Int} (h : ZS w ad n l) (h0 : 0 < n) : ∃ b off, ad = some ⟨b, off, none⟩ ∧ ∀ i, i < n → w.cell? ⟨b, off + i, none⟩ = some (.int .i64 (bat l i)) := by
  obtain ⟨b, off, e, hc⟩ := h.2 h0
  refine ⟨b, off, e, fun i hi => ?_⟩
  have := hc i hi 0 (by omega)
  rw [Nat.mul_one, Nat.add_zero] at this
  exact this
theorem RI.slice {w : World} {base : Nat} {v : Value} {l : List Int} (h : RI w base v l) : ∃ a c, v = .slice a l.length c ∧ ZS w a l.length l ∧ l.length ≤ c := by
  rcases h.2 with ⟨rfl, hn⟩ | ⟨g, cap, cur, rfl, hb, hh, h1, h2, h3, h4⟩
  · refine ⟨none, 0, by rw [hn], ⟨rfl, fun h => absurd h (by omega)⟩, by omega⟩
  · refine ⟨_, cap, rfl, ⟨rfl, fun _ => ⟨g, 0, rfl, fun i hi j hj => ?_⟩⟩, h1⟩
    obtain rfl : j = 0 := by omega
    have hc := World.ownsRow.cellAt h i (by omega)
    rw [Nat.zero_add, Nat.mul_one, Nat.add_zero, hc, flatI_at hi]
    rfl
end Go.Proofs.Ytlnnaegmcopiiaa
