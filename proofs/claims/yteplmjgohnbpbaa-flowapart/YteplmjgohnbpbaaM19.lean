/- Texts of the proof, merged: Try. -/
import Derived.Test.YteplmjgohnbpbaaM17
import Derived.Test.YteplmjgohnbpbaaM18
/- Contracts of (In).fits and (In).tryWide; no conditions beyond those written in each theorem. -/
namespace Go.Proofs.Yteplmjgohnbpbaa
open Go.ChangeShapes Go.WideShapes Go.ChangeAt Go.RowKit
set_option maxRecDepth 100000
set_option linter.unusedVariables false
set_option maxHeartbeats 2000000 in
theorem fitsIn_any (b : Bx) (w : World) :
    Calls Try.prog 92 #[bxv b] w fun e w' => e = .returned (.bool (okF b)) ∧ Seen w w' := by
  have o1 := fun w => or_any b.lf 0 w
  have o2 := fun w => or_any b.rt 0 w
  have HV := Lib.hid (show okF b = (fitsB b.base && fitsB b.ar && fitsB (orV b.lf 0) && fitsB (orV b.rt 0)) from rfl)
  have f1 := fun w => fits_eq b.base w
  have f2 := fun w => fits_eq b.ar w
  have f3 := fun w => fits_eq (orV b.lf 0) w
  have f4 := fun w => fits_eq (orV b.rt 0) w
  obtain ⟨x1, h1⟩ : ∃ x, fitsB b.base = x := ⟨_, rfl⟩
  obtain ⟨x2, h2⟩ : ∃ x, fitsB b.ar = x := ⟨_, rfl⟩
  obtain ⟨x3, h3⟩ : ∃ x, fitsB (orV b.lf 0) = x := ⟨_, rfl⟩
  obtain ⟨x4, h4⟩ : ∃ x, fitsB (orV b.rt 0) = x := ⟨_, rfl⟩
  rw [h1] at HV f1
  rw [h2] at HV f2
  rw [h3] at HV f3
  rw [h4] at HV f4
  obtain ⟨o, ho⟩ : ∃ x, okF b = x := ⟨_, rfl⟩
  rw [ho] at HV ⊢
  obtain ⟨L, hL⟩ : ∃ x, orV b.lf 0 = x := ⟨_, rfl⟩
  obtain ⟨R, hR⟩ : ∃ x, orV b.rt 0 = x := ⟨_, rfl⟩
  rw [hL] at o1 f3
  rw [hR] at o2 f4
  clear h1 h2 h3 h4 ho hL hR
  obtain ⟨W, hW⟩ : ∃ W, W = w.alloc (.cells (bxl b).toArray 150) := ⟨_, rfl⟩
  have kb : Blk W w.heap.size (bxl b) 150 := by rw [hW]; exact Blk.new w _ _
  have SW : Hid (Seen w W) := by rw [hW]; exact (Seen.refl w).alloc _
  have rb := kb.rulesB
  have sr := Seen.refl W
  clear kb
  cases x1 <;> cases x2 <;> cases x3
  all_goals
    go_enter Try.func92, Try.ntmps92
    go_upto_region 1 with fail
    rw [← hW]
    clear hW
    go_wp2_with (first
      | (go_at_call 76; refine (f1 _).mono ?_; clear f1; rintro e wa ⟨rfl, rfl⟩)
      | (go_at_call 76; refine (f2 _).mono ?_; clear f2; rintro e wa ⟨rfl, rfl⟩)
      | (go_at_call 39; refine (o1 _).mono ?_; clear o1; rintro e w1 ⟨rfl, hb⟩; replace sr := Seen.next sr hb; clear hb)
      | (go_at_call 76; refine (f3 _).mono ?_; clear f3; rintro e wa ⟨rfl, rfl⟩)
      | (go_at_call 39; refine (o2 _).mono ?_; clear o2; rintro e w2 ⟨rfl, hb⟩; replace sr := Seen.next sr hb; clear hb)
      | (go_at_call 76; refine (f4 _).mono ?_; clear f4; rintro e wa ⟨rfl, rfl⟩))
    go_ret
    exact ⟨by rw [HV.out]; rfl, SW.out.trans sr⟩
set_option maxHeartbeats 4000000 in
theorem tryWide_any (b : Bx) (s : Sz) (w : World) :
    Calls Try.prog 94 #[bxv b, szv s] w fun e w' => e = .returned (.tuple #[o3v (fillW b s), .int .i64 (fillW b s).w, .bool (tryB b s)]) ∧ Seen w w' := by
  have HV := Lib.hid (show tryB b s = (fitsB (fillW b s).l && fitsB (fillW b s).w && fitsB (fillW b s).r) from rfl)
  have fl := fun w => fill_any b s w
  obtain ⟨v, hv⟩ : ∃ x, tryB b s = x := ⟨_, rfl⟩
  rw [hv] at HV ⊢
  obtain ⟨o, ho⟩ : ∃ x, fillW b s = x := ⟨_, rfl⟩
  rw [ho] at HV fl ⊢
  obtain ⟨l, m, r⟩ := o
  simp only at HV ⊢
  have f1 := fun w => fits_eq l w
  have f2 := fun w => fits_eq m w
  have f3 := fun w => fits_eq r w
  obtain ⟨x1, h1⟩ : ∃ x, fitsB l = x := ⟨_, rfl⟩
  obtain ⟨x2, h2⟩ : ∃ x, fitsB m = x := ⟨_, rfl⟩
  obtain ⟨x3, h3⟩ : ∃ x, fitsB r = x := ⟨_, rfl⟩
  rw [h1] at HV f1
  rw [h2] at HV f2
  rw [h3] at HV f3
  clear h1 h2 h3 ho hv
  obtain ⟨W, hW⟩ : ∃ W, W = ((w.alloc (.cells (bxl b).toArray 150)).alloc (.cells #[.bool s.au, .int .i64 s.n] 24)).alloc (.cells #[.int .i64 0, .int .i64 0, .int .i64 0] 130) := ⟨_, rfl⟩
  have kb : Blk W w.heap.size (bxl b) 150 := by rw [hW]; exact ((Blk.new w _ _).alloc _).alloc _
  have ks : Blk W (w.heap.size + 1) [.bool s.au, .int .i64 s.n] 24 := by rw [hW]; simpa using (Blk.new (w.alloc (.cells (bxl b).toArray 150)) [.bool s.au, .int .i64 s.n] 24).alloc _
  have ko : Blk W (w.heap.size + 1 + 1) [.int .i64 0, .int .i64 0, .int .i64 0] 130 := by rw [hW]; simpa using Blk.new ((w.alloc (.cells (bxl b).toArray 150)).alloc (.cells #[.bool s.au, .int .i64 s.n] 24)) [.int .i64 0, .int .i64 0, .int .i64 0] 130
  have SW : Hid (Seen w W) := by rw [hW]; unfold Hid Seen; go_grown
  have HKO := Lib.hid ko
  have rb := kb.rulesB
  have rs := ks.rules2
  have sr := Seen.refl W
  clear kb ks ko
  go_enter Try.func94, Try.ntmps94
  go_upto_region 1 with fail
  rw [← hW]
  clear hW
  go_upto_region 2 with (go_at_call 100; refine (fl _).mono ?_; clear fl; rintro e w1 ⟨rfl, hb⟩; have s1 : Seen W w1 := Seen.next sr hb; clear hb sr)
  obtain ⟨V, hV⟩ : ∃ V, V = w1.alloc (.cells #[.int .i64 l, .int .i64 m, .int .i64 r] 130) := ⟨_, rfl⟩
  obtain ⟨A, hA⟩ : ∃ A, w1.heap.size = A := ⟨_, rfl⟩
  have kA : Blk V A [.int .i64 l, .int .i64 m, .int .i64 r] 130 := by rw [hV, ← hA]; exact Blk.new w1 _ _
  have sV : Seen W V := by rw [hV]; exact s1.alloc _
  have KO : Blk V (w.heap.size + 1 + 1) [.int .i64 0, .int .i64 0, .int .i64 0] 130 := HKO.out.seen sV
  have HSV : Hid (Seen w V) := SW.out.trans sV
  have hWA : w.heap.size + 1 + 1 < A := by have := (HKO.out.seen s1).lt; omega
  have n1 : ¬ A = w.heap.size + 1 + 1 := by omega
  have n2 : ¬ w.heap.size + 1 + 1 = A := by omega
  have HKV := Lib.hid KO
  rw [← hV, hA]
  clear HKO SW rb rs s1 sV hV hA KO
  obtain ⟨U, hU⟩ : ∃ U, U = (((V.drew.setCell ⟨w.heap.size + 1 + 1, 0, none⟩ (.int .i64 l)).setCell ⟨w.heap.size + 1 + 1, 1, none⟩ (.int .i64 m)).setCell ⟨w.heap.size + 1 + 1, 2, none⟩ (.int .i64 r)) := ⟨_, rfl⟩
  have stB : (Instr.storeAt 130 (.pointer (some ⟨w.heap.size + 1 + 1, 0, none⟩)) (.agg #[.int .i64 l, .int .i64 m, .int .i64 r])).run Try.prog V.drew = .ok () U := by
    rw [hU]
    exact st28 l m r HKV.out.drew
  have sB : Blk U A [.int .i64 l, .int .i64 m, .int .i64 r] 130 := by
    rw [hU]
    exact ((kA.drew.other (p := ⟨w.heap.size + 1 + 1, 0, none⟩) n2 _).other (p := ⟨w.heap.size + 1 + 1, 1, none⟩) n2 _).other (p := ⟨w.heap.size + 1 + 1, 2, none⟩) n2 _
  have z : Blk U (w.heap.size + 1 + 1) [.int .i64 l, .int .i64 m, .int .i64 r] 130 := by rw [hU]; exact ((HKV.out.drew.set 0 (.int .i64 l)).set 1 (.int .i64 m)).set 2 (.int .i64 r)
  have sU : Seen w U := by rw [hU]; exact Seen.set3 HSV.out.drew (by omega)
  have HU := Lib.hid sU
  have z0 := z.cell 0
  have z1 := z.cell 1
  have z2 := z.cell 2
  have sd := kA.drew
  clear hU z sU
  refine wp_region_held_drew (S := fun w' => Blk w' A [.int .i64 l, .int .i64 m, .int .i64 r] 130) (by kernel_rfl) sd (fun _ => ?_)
  cases x1 with
  | false =>
    refine hTake 0 (some 11) (.agg #[.int .i64 l, .int .i64 m, .int .i64 r]) (by kernel_rfl) (by kernel_rfl) (by kernel_rfl) (by kernel_rfl) (by kernel_rfl) (by kernel_rfl) (fun _ _ _ h => h) (fun w' hS => run_by (Instr.loadAt 130 (.pointer (some ⟨A, 0, none⟩))) (by kernel_rfl) (ld28 hS)) sd ?_
    simp only [Act.put, List.setIfInBounds_toArray, List.set_cons_zero, List.set_cons_succ]
    refine hTake 1 (some 12) (.pointer (some ⟨A, 1, none⟩)) (by kernel_rfl) (by kernel_rfl) (by kernel_rfl) (by kernel_rfl) (by kernel_rfl) (by kernel_rfl) (fun _ _ _ h => h) (fun w' hS => by kernel_rfl) sd ?_
    simp only [Act.put, List.setIfInBounds_toArray, List.set_cons_zero, List.set_cons_succ]
    refine hTake 2 (some 13) (.int .i64 m) (by kernel_rfl) (by kernel_rfl) (by kernel_rfl) (by kernel_rfl) (by kernel_rfl) (by kernel_rfl) (fun _ _ _ h => h) (fun w' hS => run_by (Instr.loadAt 2 (.pointer (some ⟨A, 1, none⟩))) (by kernel_rfl) (ldk1 hS)) sd ?_
    simp only [Act.put, List.setIfInBounds_toArray, List.set_cons_zero, List.set_cons_succ]
    refine hTake 3 (some 14) (.pointer (some ⟨A, 0, none⟩)) (by kernel_rfl) (by kernel_rfl) (by kernel_rfl) (by kernel_rfl) (by kernel_rfl) (by kernel_rfl) (fun _ _ _ h => h) (fun w' hS => by kernel_rfl) sd ?_
    simp only [Act.put, List.setIfInBounds_toArray, List.set_cons_zero, List.set_cons_succ]
    refine hTake 4 (some 15) (.int .i64 l) (by kernel_rfl) (by kernel_rfl) (by kernel_rfl) (by kernel_rfl) (by kernel_rfl) (by kernel_rfl) (fun _ _ _ h => h) (fun w' hS => run_by (Instr.loadAt 2 (.pointer (some ⟨A, 0, none⟩))) (by kernel_rfl) (ldk0 hS)) sd ?_
    simp only [Act.put, List.setIfInBounds_toArray, List.set_cons_zero, List.set_cons_succ]
    refine wpAnyH_ready (rs := [5]) (by kernel_rfl) (by simp) ?_
    refine aCall 5 (some 16) 76 #[.int .i64 l] (by kernel_rfl) (by kernel_rfl) (by kernel_rfl) (by kernel_rfl) ?_ ?_
    · refine (f1 _).mono ?_
      rintro _ _ ⟨rfl, rfl⟩
      refine ⟨_, rfl, sd, ?_⟩
      simp only [Act.put, List.setIfInBounds_toArray, List.set_cons_zero, List.set_cons_succ]
      refine hTake 6 (some 17) (.bool false) (by kernel_rfl) (by kernel_rfl) (by kernel_rfl) (by kernel_rfl) (by kernel_rfl) (by kernel_rfl) (fun _ _ _ h => h) (fun w' hS => by kernel_rfl) sd ?_
      simp only [Act.put, List.setIfInBounds_toArray, List.set_cons_zero, List.set_cons_succ]
      refine hTakeNoF 7 (some 18) (by kernel_rfl) (by kernel_rfl) (by kernel_rfl) (by kernel_rfl) (by kernel_rfl) (by kernel_rfl) (fun _ _ _ h => h) sd ?_
      simp only [Act.put, List.setIfInBounds_toArray, List.set_cons_zero, List.set_cons_succ]
      refine hTakeNoF 8 (some 19) (by kernel_rfl) (by kernel_rfl) (by kernel_rfl) (by kernel_rfl) (by kernel_rfl) (by kernel_rfl) (fun _ _ _ h => h) sd ?_
      simp only [Act.put, List.setIfInBounds_toArray, List.set_cons_zero, List.set_cons_succ]
      refine hTakeNoF 9 (some 20) (by kernel_rfl) (by kernel_rfl) (by kernel_rfl) (by kernel_rfl) (by kernel_rfl) (by kernel_rfl) (fun _ _ _ h => h) sd ?_
      simp only [Act.put, List.setIfInBounds_toArray, List.set_cons_zero, List.set_cons_succ]
      refine hTake 10 (some 21) (.bool false) (by kernel_rfl) (by kernel_rfl) (by kernel_rfl) (by kernel_rfl) (by kernel_rfl) (by kernel_rfl) (fun _ _ _ h => h) (fun w' hS => by kernel_rfl) sd ?_
      simp only [Act.put, List.setIfInBounds_toArray, List.set_cons_zero, List.set_cons_succ]
      refine hTake 11 (some 22) (.bool false) (by kernel_rfl) (by kernel_rfl) (by kernel_rfl) (by kernel_rfl) (by kernel_rfl) (by kernel_rfl) (fun _ _ _ h => h) (fun w' hS => by kernel_rfl) sd ?_
      simp only [Act.put, List.setIfInBounds_toArray, List.set_cons_zero, List.set_cons_succ]
      refine hTakeNoF 12 (some 23) (by kernel_rfl) (by kernel_rfl) (by kernel_rfl) (by kernel_rfl) (by kernel_rfl) (by kernel_rfl) (fun _ _ _ h => h) sd ?_
      simp only [Act.put, List.setIfInBounds_toArray, List.set_cons_zero, List.set_cons_succ]
      refine hTakeNoF 13 (some 24) (by kernel_rfl) (by kernel_rfl) (by kernel_rfl) (by kernel_rfl) (by kernel_rfl) (by kernel_rfl) (fun _ _ _ h => h) sd ?_
      simp only [Act.put, List.setIfInBounds_toArray, List.set_cons_zero, List.set_cons_succ]
      refine hTakeNoF 14 (some 25) (by kernel_rfl) (by kernel_rfl) (by kernel_rfl) (by kernel_rfl) (by kernel_rfl) (by kernel_rfl) (fun _ _ _ h => h) sd ?_
      simp only [Act.put, List.setIfInBounds_toArray, List.set_cons_zero, List.set_cons_succ]
      refine hTake 15 (some 26) (.bool false) (by kernel_rfl) (by kernel_rfl) (by kernel_rfl) (by kernel_rfl) (by kernel_rfl) (by kernel_rfl) (fun _ _ _ h => h) (fun w' hS => by kernel_rfl) sd ?_
      simp only [Act.put, List.setIfInBounds_toArray, List.set_cons_zero, List.set_cons_succ]
      refine wpAnyH_ready (rs := [16]) (by kernel_rfl) (by simp) ?_
      refine aSkip 16 none (by kernel_rfl) (by kernel_rfl) (by kernel_rfl) (run_skip_by (Instr.storeAt 130 (.pointer (some ⟨w.heap.size + 1 + 1, 0, none⟩)) (.agg #[.int .i64 l, .int .i64 m, .int .i64 r])) (by kernel_rfl) stB) sB ?_ ?_
      · simp only [Act.put]
        refine hTake 17 (some 5) (.int .i64 m) (by kernel_rfl) (by kernel_rfl) (by kernel_rfl) (by kernel_rfl) (by kernel_rfl) (by kernel_rfl) (fun _ _ _ h => h) (fun w' hS => by kernel_rfl) sB ?_
        simp only [Act.put, List.setIfInBounds_toArray, List.set_cons_zero, List.set_cons_succ]
        refine hTake 18 (some 6) (.bool false) (by kernel_rfl) (by kernel_rfl) (by kernel_rfl) (by kernel_rfl) (by kernel_rfl) (by kernel_rfl) (fun _ _ _ h => h) (fun w' hS => by kernel_rfl) sB ?_
        simp only [Act.put, List.setIfInBounds_toArray, List.set_cons_zero, List.set_cons_succ]
        refine wpAnyH_done (by kernel_rfl) ?_ _
        go_wp2_with fail
        refine bodyPost_ret (by simp [results, Try.results94, go_sem, z0, z1, z2]; try rfl) rfl ?_
        exact ⟨by rw [HV.out]; rfl, HU.out⟩
      exact AllReadyH.nil
    exact AllReadyH.nil
  | true =>
    cases x2 with
    | false =>
      refine hTake 0 (some 11) (.agg #[.int .i64 l, .int .i64 m, .int .i64 r]) (by kernel_rfl) (by kernel_rfl) (by kernel_rfl) (by kernel_rfl) (by kernel_rfl) (by kernel_rfl) (fun _ _ _ h => h) (fun w' hS => run_by (Instr.loadAt 130 (.pointer (some ⟨A, 0, none⟩))) (by kernel_rfl) (ld28 hS)) sd ?_
      simp only [Act.put, List.setIfInBounds_toArray, List.set_cons_zero, List.set_cons_succ]
      refine hTake 1 (some 12) (.pointer (some ⟨A, 1, none⟩)) (by kernel_rfl) (by kernel_rfl) (by kernel_rfl) (by kernel_rfl) (by kernel_rfl) (by kernel_rfl) (fun _ _ _ h => h) (fun w' hS => by kernel_rfl) sd ?_
      simp only [Act.put, List.setIfInBounds_toArray, List.set_cons_zero, List.set_cons_succ]
      refine hTake 2 (some 13) (.int .i64 m) (by kernel_rfl) (by kernel_rfl) (by kernel_rfl) (by kernel_rfl) (by kernel_rfl) (by kernel_rfl) (fun _ _ _ h => h) (fun w' hS => run_by (Instr.loadAt 2 (.pointer (some ⟨A, 1, none⟩))) (by kernel_rfl) (ldk1 hS)) sd ?_
      simp only [Act.put, List.setIfInBounds_toArray, List.set_cons_zero, List.set_cons_succ]
      refine hTake 3 (some 14) (.pointer (some ⟨A, 0, none⟩)) (by kernel_rfl) (by kernel_rfl) (by kernel_rfl) (by kernel_rfl) (by kernel_rfl) (by kernel_rfl) (fun _ _ _ h => h) (fun w' hS => by kernel_rfl) sd ?_
      simp only [Act.put, List.setIfInBounds_toArray, List.set_cons_zero, List.set_cons_succ]
      refine hTake 4 (some 15) (.int .i64 l) (by kernel_rfl) (by kernel_rfl) (by kernel_rfl) (by kernel_rfl) (by kernel_rfl) (by kernel_rfl) (fun _ _ _ h => h) (fun w' hS => run_by (Instr.loadAt 2 (.pointer (some ⟨A, 0, none⟩))) (by kernel_rfl) (ldk0 hS)) sd ?_
      simp only [Act.put, List.setIfInBounds_toArray, List.set_cons_zero, List.set_cons_succ]
      refine wpAnyH_ready (rs := [5]) (by kernel_rfl) (by simp) ?_
      refine aCall 5 (some 16) 76 #[.int .i64 l] (by kernel_rfl) (by kernel_rfl) (by kernel_rfl) (by kernel_rfl) ?_ ?_
      · refine (f1 _).mono ?_
        rintro _ _ ⟨rfl, rfl⟩
        refine ⟨_, rfl, sd, ?_⟩
        simp only [Act.put, List.setIfInBounds_toArray, List.set_cons_zero, List.set_cons_succ]
        refine hTake 6 (some 17) (.bool true) (by kernel_rfl) (by kernel_rfl) (by kernel_rfl) (by kernel_rfl) (by kernel_rfl) (by kernel_rfl) (fun _ _ _ h => h) (fun w' hS => by kernel_rfl) sd ?_
        simp only [Act.put, List.setIfInBounds_toArray, List.set_cons_zero, List.set_cons_succ]
        refine hTake 7 (some 18) (.pointer (some ⟨A, 1, none⟩)) (by kernel_rfl) (by kernel_rfl) (by kernel_rfl) (by kernel_rfl) (by kernel_rfl) (by kernel_rfl) (fun _ _ _ h => h) (fun w' hS => by kernel_rfl) sd ?_
        simp only [Act.put, List.setIfInBounds_toArray, List.set_cons_zero, List.set_cons_succ]
        refine hTake 8 (some 19) (.int .i64 m) (by kernel_rfl) (by kernel_rfl) (by kernel_rfl) (by kernel_rfl) (by kernel_rfl) (by kernel_rfl) (fun _ _ _ h => h) (fun w' hS => run_by (Instr.loadAt 2 (.pointer (some ⟨A, 1, none⟩))) (by kernel_rfl) (ldk1 hS)) sd ?_
        simp only [Act.put, List.setIfInBounds_toArray, List.set_cons_zero, List.set_cons_succ]
        refine wpAnyH_ready (rs := [9]) (by kernel_rfl) (by simp) ?_
        refine aCall 9 (some 20) 76 #[.int .i64 m] (by kernel_rfl) (by kernel_rfl) (by kernel_rfl) (by kernel_rfl) ?_ ?_
        · refine (f2 _).mono ?_
          rintro _ _ ⟨rfl, rfl⟩
          refine ⟨_, rfl, sd, ?_⟩
          simp only [Act.put, List.setIfInBounds_toArray, List.set_cons_zero, List.set_cons_succ]
          refine hTake 10 (some 21) (.bool false) (by kernel_rfl) (by kernel_rfl) (by kernel_rfl) (by kernel_rfl) (by kernel_rfl) (by kernel_rfl) (fun _ _ _ h => h) (fun w' hS => by kernel_rfl) sd ?_
          simp only [Act.put, List.setIfInBounds_toArray, List.set_cons_zero, List.set_cons_succ]
          refine hTake 11 (some 22) (.bool false) (by kernel_rfl) (by kernel_rfl) (by kernel_rfl) (by kernel_rfl) (by kernel_rfl) (by kernel_rfl) (fun _ _ _ h => h) (fun w' hS => by kernel_rfl) sd ?_
          simp only [Act.put, List.setIfInBounds_toArray, List.set_cons_zero, List.set_cons_succ]
          refine hTakeNoF 12 (some 23) (by kernel_rfl) (by kernel_rfl) (by kernel_rfl) (by kernel_rfl) (by kernel_rfl) (by kernel_rfl) (fun _ _ _ h => h) sd ?_
          simp only [Act.put, List.setIfInBounds_toArray, List.set_cons_zero, List.set_cons_succ]
          refine hTakeNoF 13 (some 24) (by kernel_rfl) (by kernel_rfl) (by kernel_rfl) (by kernel_rfl) (by kernel_rfl) (by kernel_rfl) (fun _ _ _ h => h) sd ?_
          simp only [Act.put, List.setIfInBounds_toArray, List.set_cons_zero, List.set_cons_succ]
          refine hTakeNoF 14 (some 25) (by kernel_rfl) (by kernel_rfl) (by kernel_rfl) (by kernel_rfl) (by kernel_rfl) (by kernel_rfl) (fun _ _ _ h => h) sd ?_
          simp only [Act.put, List.setIfInBounds_toArray, List.set_cons_zero, List.set_cons_succ]
          refine hTake 15 (some 26) (.bool false) (by kernel_rfl) (by kernel_rfl) (by kernel_rfl) (by kernel_rfl) (by kernel_rfl) (by kernel_rfl) (fun _ _ _ h => h) (fun w' hS => by kernel_rfl) sd ?_
          simp only [Act.put, List.setIfInBounds_toArray, List.set_cons_zero, List.set_cons_succ]
          refine wpAnyH_ready (rs := [16]) (by kernel_rfl) (by simp) ?_
          refine aSkip 16 none (by kernel_rfl) (by kernel_rfl) (by kernel_rfl) (run_skip_by (Instr.storeAt 130 (.pointer (some ⟨w.heap.size + 1 + 1, 0, none⟩)) (.agg #[.int .i64 l, .int .i64 m, .int .i64 r])) (by kernel_rfl) stB) sB ?_ ?_
          · simp only [Act.put]
            refine hTake 17 (some 5) (.int .i64 m) (by kernel_rfl) (by kernel_rfl) (by kernel_rfl) (by kernel_rfl) (by kernel_rfl) (by kernel_rfl) (fun _ _ _ h => h) (fun w' hS => by kernel_rfl) sB ?_
            simp only [Act.put, List.setIfInBounds_toArray, List.set_cons_zero, List.set_cons_succ]
            refine hTake 18 (some 6) (.bool false) (by kernel_rfl) (by kernel_rfl) (by kernel_rfl) (by kernel_rfl) (by kernel_rfl) (by kernel_rfl) (fun _ _ _ h => h) (fun w' hS => by kernel_rfl) sB ?_
            simp only [Act.put, List.setIfInBounds_toArray, List.set_cons_zero, List.set_cons_succ]
            refine wpAnyH_done (by kernel_rfl) ?_ _
            go_wp2_with fail
            refine bodyPost_ret (by simp [results, Try.results94, go_sem, z0, z1, z2]; try rfl) rfl ?_
            exact ⟨by rw [HV.out]; rfl, HU.out⟩
          exact AllReadyH.nil
        exact AllReadyH.nil
      exact AllReadyH.nil
    | true =>
      refine hTake 0 (some 11) (.agg #[.int .i64 l, .int .i64 m, .int .i64 r]) (by kernel_rfl) (by kernel_rfl) (by kernel_rfl) (by kernel_rfl) (by kernel_rfl) (by kernel_rfl) (fun _ _ _ h => h) (fun w' hS => run_by (Instr.loadAt 130 (.pointer (some ⟨A, 0, none⟩))) (by kernel_rfl) (ld28 hS)) sd ?_
      simp only [Act.put, List.setIfInBounds_toArray, List.set_cons_zero, List.set_cons_succ]
      refine hTake 1 (some 12) (.pointer (some ⟨A, 1, none⟩)) (by kernel_rfl) (by kernel_rfl) (by kernel_rfl) (by kernel_rfl) (by kernel_rfl) (by kernel_rfl) (fun _ _ _ h => h) (fun w' hS => by kernel_rfl) sd ?_
      simp only [Act.put, List.setIfInBounds_toArray, List.set_cons_zero, List.set_cons_succ]
      refine hTake 2 (some 13) (.int .i64 m) (by kernel_rfl) (by kernel_rfl) (by kernel_rfl) (by kernel_rfl) (by kernel_rfl) (by kernel_rfl) (fun _ _ _ h => h) (fun w' hS => run_by (Instr.loadAt 2 (.pointer (some ⟨A, 1, none⟩))) (by kernel_rfl) (ldk1 hS)) sd ?_
      simp only [Act.put, List.setIfInBounds_toArray, List.set_cons_zero, List.set_cons_succ]
      refine hTake 3 (some 14) (.pointer (some ⟨A, 0, none⟩)) (by kernel_rfl) (by kernel_rfl) (by kernel_rfl) (by kernel_rfl) (by kernel_rfl) (by kernel_rfl) (fun _ _ _ h => h) (fun w' hS => by kernel_rfl) sd ?_
      simp only [Act.put, List.setIfInBounds_toArray, List.set_cons_zero, List.set_cons_succ]
      refine hTake 4 (some 15) (.int .i64 l) (by kernel_rfl) (by kernel_rfl) (by kernel_rfl) (by kernel_rfl) (by kernel_rfl) (by kernel_rfl) (fun _ _ _ h => h) (fun w' hS => run_by (Instr.loadAt 2 (.pointer (some ⟨A, 0, none⟩))) (by kernel_rfl) (ldk0 hS)) sd ?_
      simp only [Act.put, List.setIfInBounds_toArray, List.set_cons_zero, List.set_cons_succ]
      refine wpAnyH_ready (rs := [5]) (by kernel_rfl) (by simp) ?_
      refine aCall 5 (some 16) 76 #[.int .i64 l] (by kernel_rfl) (by kernel_rfl) (by kernel_rfl) (by kernel_rfl) ?_ ?_
      · refine (f1 _).mono ?_
        rintro _ _ ⟨rfl, rfl⟩
        refine ⟨_, rfl, sd, ?_⟩
        simp only [Act.put, List.setIfInBounds_toArray, List.set_cons_zero, List.set_cons_succ]
        refine hTake 6 (some 17) (.bool true) (by kernel_rfl) (by kernel_rfl) (by kernel_rfl) (by kernel_rfl) (by kernel_rfl) (by kernel_rfl) (fun _ _ _ h => h) (fun w' hS => by kernel_rfl) sd ?_
        simp only [Act.put, List.setIfInBounds_toArray, List.set_cons_zero, List.set_cons_succ]
        refine hTake 7 (some 18) (.pointer (some ⟨A, 1, none⟩)) (by kernel_rfl) (by kernel_rfl) (by kernel_rfl) (by kernel_rfl) (by kernel_rfl) (by kernel_rfl) (fun _ _ _ h => h) (fun w' hS => by kernel_rfl) sd ?_
        simp only [Act.put, List.setIfInBounds_toArray, List.set_cons_zero, List.set_cons_succ]
        refine hTake 8 (some 19) (.int .i64 m) (by kernel_rfl) (by kernel_rfl) (by kernel_rfl) (by kernel_rfl) (by kernel_rfl) (by kernel_rfl) (fun _ _ _ h => h) (fun w' hS => run_by (Instr.loadAt 2 (.pointer (some ⟨A, 1, none⟩))) (by kernel_rfl) (ldk1 hS)) sd ?_
        simp only [Act.put, List.setIfInBounds_toArray, List.set_cons_zero, List.set_cons_succ]
        refine wpAnyH_ready (rs := [9]) (by kernel_rfl) (by simp) ?_
        refine aCall 9 (some 20) 76 #[.int .i64 m] (by kernel_rfl) (by kernel_rfl) (by kernel_rfl) (by kernel_rfl) ?_ ?_
        · refine (f2 _).mono ?_
          rintro _ _ ⟨rfl, rfl⟩
          refine ⟨_, rfl, sd, ?_⟩
          simp only [Act.put, List.setIfInBounds_toArray, List.set_cons_zero, List.set_cons_succ]
          refine hTake 10 (some 21) (.bool true) (by kernel_rfl) (by kernel_rfl) (by kernel_rfl) (by kernel_rfl) (by kernel_rfl) (by kernel_rfl) (fun _ _ _ h => h) (fun w' hS => by kernel_rfl) sd ?_
          simp only [Act.put, List.setIfInBounds_toArray, List.set_cons_zero, List.set_cons_succ]
          refine hTake 11 (some 22) (.bool true) (by kernel_rfl) (by kernel_rfl) (by kernel_rfl) (by kernel_rfl) (by kernel_rfl) (by kernel_rfl) (fun _ _ _ h => h) (fun w' hS => by kernel_rfl) sd ?_
          simp only [Act.put, List.setIfInBounds_toArray, List.set_cons_zero, List.set_cons_succ]
          refine hTake 12 (some 23) (.pointer (some ⟨A, 2, none⟩)) (by kernel_rfl) (by kernel_rfl) (by kernel_rfl) (by kernel_rfl) (by kernel_rfl) (by kernel_rfl) (fun _ _ _ h => h) (fun w' hS => by kernel_rfl) sd ?_
          simp only [Act.put, List.setIfInBounds_toArray, List.set_cons_zero, List.set_cons_succ]
          refine hTake 13 (some 24) (.int .i64 r) (by kernel_rfl) (by kernel_rfl) (by kernel_rfl) (by kernel_rfl) (by kernel_rfl) (by kernel_rfl) (fun _ _ _ h => h) (fun w' hS => run_by (Instr.loadAt 2 (.pointer (some ⟨A, 2, none⟩))) (by kernel_rfl) (ldk2 hS)) sd ?_
          simp only [Act.put, List.setIfInBounds_toArray, List.set_cons_zero, List.set_cons_succ]
          refine wpAnyH_ready (rs := [14]) (by kernel_rfl) (by simp) ?_
          refine aCall 14 (some 25) 76 #[.int .i64 r] (by kernel_rfl) (by kernel_rfl) (by kernel_rfl) (by kernel_rfl) ?_ ?_
          · refine (f3 _).mono ?_
            rintro _ _ ⟨rfl, rfl⟩
            refine ⟨_, rfl, sd, ?_⟩
            simp only [Act.put, List.setIfInBounds_toArray, List.set_cons_zero, List.set_cons_succ]
            refine hTake 15 (some 26) (.bool x3) (by kernel_rfl) (by kernel_rfl) (by kernel_rfl) (by kernel_rfl) (by kernel_rfl) (by kernel_rfl) (fun _ _ _ h => h) (fun w' hS => by kernel_rfl) sd ?_
            simp only [Act.put, List.setIfInBounds_toArray, List.set_cons_zero, List.set_cons_succ]
            refine wpAnyH_ready (rs := [16]) (by kernel_rfl) (by simp) ?_
            refine aSkip 16 none (by kernel_rfl) (by kernel_rfl) (by kernel_rfl) (run_skip_by (Instr.storeAt 130 (.pointer (some ⟨w.heap.size + 1 + 1, 0, none⟩)) (.agg #[.int .i64 l, .int .i64 m, .int .i64 r])) (by kernel_rfl) stB) sB ?_ ?_
            · simp only [Act.put]
              refine hTake 17 (some 5) (.int .i64 m) (by kernel_rfl) (by kernel_rfl) (by kernel_rfl) (by kernel_rfl) (by kernel_rfl) (by kernel_rfl) (fun _ _ _ h => h) (fun w' hS => by kernel_rfl) sB ?_
              simp only [Act.put, List.setIfInBounds_toArray, List.set_cons_zero, List.set_cons_succ]
              refine hTake 18 (some 6) (.bool x3) (by kernel_rfl) (by kernel_rfl) (by kernel_rfl) (by kernel_rfl) (by kernel_rfl) (by kernel_rfl) (fun _ _ _ h => h) (fun w' hS => by kernel_rfl) sB ?_
              simp only [Act.put, List.setIfInBounds_toArray, List.set_cons_zero, List.set_cons_succ]
              refine wpAnyH_done (by kernel_rfl) ?_ _
              go_wp2_with fail
              refine bodyPost_ret (by simp [results, Try.results94, go_sem, z0, z1, z2]; try rfl) rfl ?_
              exact ⟨by rw [HV.out]; rfl, HU.out⟩
            exact AllReadyH.nil
          exact AllReadyH.nil
        exact AllReadyH.nil
      exact AllReadyH.nil
end Go.Proofs.Yteplmjgohnbpbaa
