/- Texts of the proof, merged: FAwake, FWithNil. -/
import Derived.Test.YteplmjgohnbpbaaM35
import Derived.Test.YteplmjgohnbpbaaM40
import Derived.Test.YteplmjgohnbpbaaM26
import Derived.Test.YteplmjgohnbpbaaM23
import Derived.Test.YteplmjgohnbpbaaM25
/- Contract of the law's own awake; no conditions beyond those written in each theorem. -/
namespace Go.Proofs.Yteplmjgohnbpbaa
open Go.ChangeShapes Go.WideShapes Go.ChangeAt Go.RowKit
set_option maxRecDepth 100000
/-- The node that the law's awake makes. -/
def plainN (p : Int) : Nd := ⟨plainK 4, p, plain_full (Nat.le_refl 4)⟩
theorem plain_tree : FormedT [plainN (-1)] := by
  refine ⟨by decide, fun i hi => ?_⟩
  obtain rfl : i = 0 := by simpa using hi
  exact ⟨(okAt0 _).2 rfl, plain_formed⟩
theorem plain_check : checkT [plainN (-1)] = 0 := by
  refine check0 (decide_eq_true plain_tree) (decide_eq_true ⟨by decide, fun i hi => ?_⟩)
  obtain rfl : i = 0 := by simpa using hi
  rw [deep_root plain_tree]
  exact ⟨by decide, plain_within⟩
theorem check_formed {l : List Nd} (h : checkT l = 0) : FormedT l := by
  unfold checkT at h
  cases hf : formedT l
  · rw [hf] at h; simp at h
  · exact of_decide_eq_true hf
theorem KK.kv {w : World} {B G H : Nat} {l : List Nd} (h : KK w B G H l (endN l)) (hf : FormedT l) (hl : l.length ≤ 65535) : KV w (.pointer (some ⟨B, 0, none⟩)) l := .inr ⟨hf, hl, B, G, H, rfl, h⟩
theorem plain_flow : (flowO [plainN (-1)] 0 ⟨640, ⟨false, 480⟩, false⟩).map (fun b => b.f.w) = some 640 := by kernel_rfl
set_option maxHeartbeats 4000000 in
theorem awake_any14 (w : World) : Calls Try.prog 6 #[] w fun e w' => e = .returned (.bool true) ∧ Seen w w' := by
  obtain ⟨b, hb, hw⟩ : ∃ b, flowO [plainN (-1)] 0 ⟨640, ⟨false, 480⟩, false⟩ = some b ∧ b.f.w = 640 := by
    have h := plain_flow
    cases e : flowO [plainN (-1)] 0 ⟨640, ⟨false, 480⟩, false⟩ with
    | none => rw [e] at h; cases h
    | some b => rw [e] at h; exact ⟨b, rfl, by simpa using h⟩
  have HB := Lib.hid hb
  have HW := Lib.hid hw
  clear hb hw
  go_enter Try.func6, Try.ntmps6
  go_upto_region 5 with (first
    | (go_at_call 15; refine (plain_any w).mono ?_; rintro _ w1 ⟨rfl, hs1⟩; have S1 : Hid (Seen w w1) := hs1; clear hs1)
    | (refine wpList_buildN rfl (.tmp 7) (.const (.int .i64 (-1))) rfl (plainK 4) (plain_full (Nat.le_refl 4)) (-1) rfl rfl ?_)
    | (refine wpList_buildS1 rfl (.tmp 8) rfl (plainN (-1)) rfl ?_
       obtain ⟨W, hW⟩ : ∃ W, W = w1.alloc (.cells (ndl (plainN (-1))).toArray 41) := ⟨_, rfl⟩
       rw [← hW]
       have S2 : Hid (Seen w W) := by rw [hW]; exact S1.out.alloc _
       have N2 : Hid (NS W (some ⟨w1.heap.size, 0, none⟩) 1 [plainN (-1)]) := by
         obtain ⟨a, c, e, h, _, _⟩ := ns_of_own (new_rowN w1 (plainN (-1)) 0 (Nat.zero_le _)) rfl
         cases e
         rw [hW]; exact h
       clear hW)
    | (go_at_call 8; refine (of_yes _ 1 1 _ W N2.out plain_check plain_tree (by omega)).mono ?_; rintro _ w3 ⟨B, G, H, rfl, _, hk3, hs3⟩; have S3 : Hid (Seen w w3) := S2.out.trans hs3; have K3 := Lib.hid (hk3.kv plain_tree (by decide)); clear hs3 hk3)
    | (go_at_call 12; refine (flowBox_any w3 (by decide) K3.out 0 640 false 480 false).mono ?_
       rintro e w4 ⟨hs4, hr⟩
       obtain ⟨va, vc, ra, rc, rfl⟩ : ∃ va vc ra rc, e = Ending.returned (.tuple #[frv b.f, layv (.slice va b.l.length vc) (.slice ra b.p.y.length rc) b.p b.hi, .bool true]) := by
         rcases hr with ⟨h, _⟩ | ⟨b', v, a, c, h, he, hg, _⟩
         · rw [HB.out] at h; cases h
         · obtain rfl : b = b' := by rw [HB.out] at h; simpa using h
           obtain ⟨va, vc, rfl, -, -⟩ := hg.slice pdl_length zPd
           exact ⟨va, vc, a, c, he⟩
       have S4 := Lib.hid (S3.out.trans hs4)
       clear hs4 hr)
    | (refine wpList_storeF rfl (.tmp 3) (.tmp 19) rfl w4.heap.size zFr b.f rfl rfl (by simpa using (blk_zero w4).alloc (.cells #[.slice none 0 0, .slice none 0 0, .int .i64 0, .int .i64 0, .int .i64 0, .int .i64 0, .int .i64 0, .bool false, .int .i64 0] 53)) ?_; intro W9 b9 t9)
    | (refine wpList_storeL rfl (.tmp 4) (.tmp 20) rfl (w4.heap.size + 1) zlay (.slice va b.l.length vc) (.slice ra b.p.y.length rc) (oneS _ _ _) (oneS _ _ _) b.p b.hi rfl rfl rfl ((show Blk ((w4.alloc (.cells #[.int .i64 0, .int .i64 0, .int .i64 0, .int .i64 0, .int .i64 0, .int .i64 0, .int .i64 0, .int .i64 0, .int .i64 0, .int .i64 0, .int .i64 0, .int .i64 0, .int .i64 0, .int .i64 0, .int .i64 0, .int .i64 0, .bool false, .int .i64 0, .int .i64 0, .int .i64 0, .int .i64 0, .int .i64 0, .int .i64 0, .bool false, .int .i64 0] 47)).alloc (.cells #[.slice none 0 0, .slice none 0 0, .int .i64 0, .int .i64 0, .int .i64 0, .int .i64 0, .int .i64 0, .bool false, .int .i64 0] 53)) (w4.heap.size + 1) zlay 53 by simpa using blk_zlay (w4.alloc (.cells #[.int .i64 0, .int .i64 0, .int .i64 0, .int .i64 0, .int .i64 0, .int .i64 0, .int .i64 0, .int .i64 0, .int .i64 0, .int .i64 0, .int .i64 0, .int .i64 0, .int .i64 0, .int .i64 0, .int .i64 0, .int .i64 0, .bool false, .int .i64 0, .int .i64 0, .int .i64 0, .int .i64 0, .int .i64 0, .int .i64 0, .bool false, .int .i64 0] 47))).turns t9 (by omega)) ?_; intro W10 b10 t10))
  have y2 : W10.cell? ⟨w4.heap.size, 2, none⟩ = some (.int .i64 640) := by rw [← HW.out]; exact (b9.turns t10 (by omega)).cell 2
  have SW := Lib.hid ((((S4.out.alloc _).alloc _).turns t9 (by have := S4.out.size; omega)).turns t10 (by have := S4.out.size; omega))
  clear b9 b10 t9 t10
  go_wp2_with fail
  go_ret
  exact ⟨rfl, SW.out⟩
end Go.Proofs.Yteplmjgohnbpbaa

/- Contract of With on the nil Kin; no conditions beyond those written in each theorem. -/
namespace Go.Proofs.Yteplmjgohnbpbaa
open Go.ChangeShapes Go.WideShapes Go.ChangeAt Go.RowKit
set_option maxRecDepth 100000
set_option maxHeartbeats 4000000 in
theorem withNil_any (W : World) (n cw : Int) (cau : Bool) (cn : Int) (op : Bool) : Calls Try.prog 14 #[.pointer none, .int .i64 n, .int .i64 cw, .agg #[.bool cau, .int .i64 cn], .bool op] W fun e W' => e = .returned (.tuple #[frv zFr, .bool false]) ∧ Seen W W' := by
  have K : Hid (∀ w', KV w' (.pointer none) []) := fun w' => .inl ⟨rfl, rfl⟩
  have hno : ∀ i, inB [] i = false := fun i => by unfold inB; simp
  have HP : Hid (∀ w', Calls Try.prog 25 #[.pointer none, .int .i64 n] w' fun e w'' => e = .returned (.int .i64 (-1)) ∧ Seen w' w'') := fun w' => by
    have := parent_kin _ [] n w' (K.out w'); rw [plAt_no (hno n)] at this; exact this
  have HY : Hid (∀ w', Calls Try.prog 26 #[.pointer none, .int .i64 (-1)] w' fun e w'' => e = .returned (sv zeroS) ∧ Seen w' w'') := fun w' => by
    have := style_kin _ [] (-1) w' (K.out w')
    unfold styAt at this
    rw [hno] at this; exact this
  have HO : Hid (∀ w', Calls Try.prog 27 #[.pointer none, .int .i64 n] w' fun e w'' => e = .returned (.bool false) ∧ Seen w' w'') := fun w' => by
    have := out_kin _ [] n w' (K.out w'); rw [plAt_no (hno n)] at this; exact this
  clear K hno
  obtain ⟨W2, hW2⟩ : ∃ W2, W2 = (W.alloc (.cells #[.bool cau, .int .i64 cn] 24)).alloc (.cells #[.int .i64 0, .int .i64 0, .int .i64 0, .int .i64 0, .int .i64 0, .int .i64 0, .int .i64 0, .int .i64 0, .int .i64 0, .int .i64 0, .int .i64 0, .int .i64 0, .int .i64 0, .int .i64 0, .int .i64 0, .int .i64 0, .bool false, .int .i64 0, .int .i64 0, .int .i64 0, .int .i64 0, .int .i64 0, .int .i64 0, .bool false, .int .i64 0] 47) := ⟨_, rfl⟩
  have k8 : Blk W2 W.heap.size [.bool cau, .int .i64 cn] 24 := by rw [hW2]; exact (Blk.new W [.bool cau, .int .i64 cn] 24).alloc _
  have k1 : Blk W2 (W.heap.size + 1) (frl zFr) 47 := by rw [hW2]; simpa using blk_zero (W.alloc (.cells #[.bool cau, .int .i64 cn] 24))
  have S2 : Hid (Seen W W2) := by rw [hW2]; exact ((Seen.refl W).alloc _).alloc _
  have K1 := Lib.hid k1
  have l1 := k1.lt
  have K8 := Lib.hid k8
  clear k1 k8
  go_enter Try.func14, Try.ntmps14
  go_upto_region 1 with fail
  rw [← hW2]
  clear hW2
  go_upto_region 2 with (go_at_call 25; refine (HP.out _).mono ?_; rintro e w3 ⟨rfl, hb⟩; have S3 := Lib.hid (show Seen W2 w3 from hb); clear hb)
  go_cut [13] (fun u wx => Seen W2 wx : Value → World → Prop)
  case first =>
    have s30 : Seen W2 w3.drew := S3.out.trans (Seen.refl w3).drew
    refine wp_region_held_drew (S := fun w' => Seen W2 w') (by kernel_rfl) s30 (fun _ => ?_)
    refine hTake 0 (some 23) (.int .i64 cw) (by kernel_rfl) (by kernel_rfl) (by kernel_rfl) (by kernel_rfl) (by kernel_rfl) (by kernel_rfl) (fun _ _ _ h => h) (fun w' hS => by kernel_rfl) s30 ?_
    simp only [Act.put, List.setIfInBounds_toArray, List.set_cons_zero, List.set_cons_succ]
    refine hTake 1 (some 24) (.agg #[.bool cau, .int .i64 cn]) (by kernel_rfl) (by kernel_rfl) (by kernel_rfl) (by kernel_rfl) (by kernel_rfl) (by kernel_rfl) (fun _ _ _ h => h) (fun w' hS => run_by (Instr.loadAt 24 (.pointer (some ⟨W.heap.size, 0, none⟩))) (by kernel_rfl) (lda24 (vs := [.bool cau, .int .i64 cn]) (Blk.range (Blk.seen K8.out hS)) rfl)) s30 ?_
    simp only [Act.put, List.setIfInBounds_toArray, List.set_cons_zero, List.set_cons_succ]
    refine hTake 2 (some 25) (.pointer none) (by kernel_rfl) (by kernel_rfl) (by kernel_rfl) (by kernel_rfl) (by kernel_rfl) (by kernel_rfl) (fun _ _ _ h => h) (fun w' hS => by kernel_rfl) s30 ?_
    simp only [Act.put, List.setIfInBounds_toArray, List.set_cons_zero, List.set_cons_succ]
    refine hTake 3 (some 26) (.int .i64 (-1)) (by kernel_rfl) (by kernel_rfl) (by kernel_rfl) (by kernel_rfl) (by kernel_rfl) (by kernel_rfl) (fun _ _ _ h => h) (fun w' hS => by kernel_rfl) s30 ?_
    simp only [Act.put, List.setIfInBounds_toArray, List.set_cons_zero, List.set_cons_succ]
    refine wpAnyH_ready (rs := [4, 7]) (by kernel_rfl) (by simp) ?_
    refine aCall 4 (some 27) 26 #[.pointer none, .int .i64 (-1)] (by kernel_rfl) (by kernel_rfl) (by kernel_rfl) (by kernel_rfl) ?_ ?_
    · refine (HY.out _).mono ?_
      rintro e wd1 ⟨rfl, hb⟩
      have ss1 : Seen W2 wd1 := Seen.trans s30 hb
      clear hb
      refine ⟨_, rfl, ss1, ?_⟩
      simp only [Act.put, List.setIfInBounds_toArray, List.set_cons_zero, List.set_cons_succ]
      refine hTake 5 (some 28) (.bool false) (by kernel_rfl) (by kernel_rfl) (by kernel_rfl) (by kernel_rfl) (by kernel_rfl) (by kernel_rfl) (fun _ _ _ h => h) (fun w' hS => by kernel_rfl) ss1 ?_
      simp only [Act.put, List.setIfInBounds_toArray, List.set_cons_zero, List.set_cons_succ]
      refine hTake 6 (some 29) (.agg #[.int .i64 cw, .bool cau, .int .i64 cn, .bool false]) (by kernel_rfl) (by kernel_rfl) (by kernel_rfl) (by kernel_rfl) (by kernel_rfl) (by kernel_rfl) (fun _ _ _ h => h) (fun w' hS => by kernel_rfl) ss1 ?_
      simp only [Act.put, List.setIfInBounds_toArray, List.set_cons_zero, List.set_cons_succ]
      refine hRun 7 (some 13) (.pointer (some ⟨wd1.heap.size, 0, none⟩)) (by kernel_rfl) (by kernel_rfl) (by kernel_rfl) (by kernel_rfl) (by kernel_rfl) (show Seen W2 (wd1.alloc (.cells #[.int .i64 0, .bool false, .int .i64 0, .bool false] 81)) from Seen.alloc ss1 _) ?_
      obtain ⟨wm2, hm2⟩ : ∃ x, x = wd1.alloc (.cells #[.int .i64 0, .bool false, .int .i64 0, .bool false] 81) := ⟨_, rfl⟩
      rw [← hm2]
      have ss2 : Seen W2 wm2 := by rw [hm2]; exact Seen.alloc ss1 _
      have kx2 : Blk wm2 wd1.heap.size [.int .i64 0, .bool false, .int .i64 0, .bool false] 81 := by rw [hm2]; exact Blk.new _ [.int .i64 0, .bool false, .int .i64 0, .bool false] 81
      have ltx : W2.heap.size ≤ wd1.heap.size := Below.size ss1
      clear hm2
      simp only [Act.put, List.setIfInBounds_toArray, List.set_cons_zero, List.set_cons_succ]
      refine hSkip 8 none (by kernel_rfl) (by kernel_rfl) (by kernel_rfl) (by kernel_rfl) (run_skip_by (Instr.storeAt 81 (.pointer (some ⟨wd1.heap.size, 0, none⟩)) (.agg #[.int .i64 cw, .bool cau, .int .i64 cn, .bool false])) (by kernel_rfl) (stC (vs := [.int .i64 cw, .bool cau, .int .i64 cn, .bool false]) kx2 (Nat.le_refl 4) sz81 (by intro u hu; simp at hu; rcases hu with rfl | rfl | rfl | rfl <;> rfl))) ((Seen.turns ss2 (turns_sets _ (wd1.heap.size) 0 [.int .i64 cw, .bool cau, .int .i64 cn, .bool false]) ltx)) ?_
      simp only [Act.put]
      refine wpAnyH_done (by kernel_rfl) ?_ _
      have z1 : Seen W2 _ := (Seen.turns ss2 (turns_sets _ (wd1.heap.size) 0 [.int .i64 cw, .bool cau, .int .i64 cn, .bool false]) ltx)
      go_wp2_with fail
      go_meet
      exact z1
    refine aRun 7 (some 13) (.pointer (some ⟨w3.drew.heap.size, 0, none⟩)) (by kernel_rfl) (by kernel_rfl) (by kernel_rfl) (by kernel_rfl) (show Seen W2 (w3.drew.alloc (.cells #[.int .i64 0, .bool false, .int .i64 0, .bool false] 81)) from Seen.alloc s30 _) ?_ ?_
    · obtain ⟨wm1, hm1⟩ : ∃ x, x = w3.drew.alloc (.cells #[.int .i64 0, .bool false, .int .i64 0, .bool false] 81) := ⟨_, rfl⟩
      rw [← hm1]
      have ss1 : Seen W2 wm1 := by rw [hm1]; exact Seen.alloc s30 _
      have kx1 : Blk wm1 w3.drew.heap.size [.int .i64 0, .bool false, .int .i64 0, .bool false] 81 := by rw [hm1]; exact Blk.new _ [.int .i64 0, .bool false, .int .i64 0, .bool false] 81
      have ltx : W2.heap.size ≤ w3.drew.heap.size := Below.size s30
      clear hm1
      simp only [Act.put, List.setIfInBounds_toArray, List.set_cons_zero, List.set_cons_succ]
      refine hCall 4 (some 27) 26 #[.pointer none, .int .i64 (-1)] (by kernel_rfl) (by kernel_rfl) (by kernel_rfl) (by kernel_rfl) (by kernel_rfl) ?_
      refine (HY.out _).mono ?_
      rintro e wd2 ⟨rfl, hb⟩
      have ss2 : Seen W2 wd2 := Seen.trans ss1 hb
      have kx2 := Blk.seen kx1 hb
      clear hb
      refine ⟨_, rfl, ss2, ?_⟩
      simp only [Act.put, List.setIfInBounds_toArray, List.set_cons_zero, List.set_cons_succ]
      refine hTake 5 (some 28) (.bool false) (by kernel_rfl) (by kernel_rfl) (by kernel_rfl) (by kernel_rfl) (by kernel_rfl) (by kernel_rfl) (fun _ _ _ h => h) (fun w' hS => by kernel_rfl) ss2 ?_
      simp only [Act.put, List.setIfInBounds_toArray, List.set_cons_zero, List.set_cons_succ]
      refine hTake 6 (some 29) (.agg #[.int .i64 cw, .bool cau, .int .i64 cn, .bool false]) (by kernel_rfl) (by kernel_rfl) (by kernel_rfl) (by kernel_rfl) (by kernel_rfl) (by kernel_rfl) (fun _ _ _ h => h) (fun w' hS => by kernel_rfl) ss2 ?_
      simp only [Act.put, List.setIfInBounds_toArray, List.set_cons_zero, List.set_cons_succ]
      refine hSkip 8 none (by kernel_rfl) (by kernel_rfl) (by kernel_rfl) (by kernel_rfl) (run_skip_by (Instr.storeAt 81 (.pointer (some ⟨w3.drew.heap.size, 0, none⟩)) (.agg #[.int .i64 cw, .bool cau, .int .i64 cn, .bool false])) (by kernel_rfl) (stC (vs := [.int .i64 cw, .bool cau, .int .i64 cn, .bool false]) kx2 (Nat.le_refl 4) sz81 (by intro u hu; simp at hu; rcases hu with rfl | rfl | rfl | rfl <;> rfl))) ((Seen.turns ss2 (turns_sets _ (w3.drew.heap.size) 0 [.int .i64 cw, .bool cau, .int .i64 cn, .bool false]) ltx)) ?_
      simp only [Act.put]
      refine wpAnyH_done (by kernel_rfl) ?_ _
      have z1 : Seen W2 _ := (Seen.turns ss2 (turns_sets _ (w3.drew.heap.size) 0 [.int .i64 cw, .bool cau, .int .i64 cn, .bool false]) ltx)
      go_wp2_with fail
      go_meet
      exact z1
    exact AllReadyH.nil

  have SC := Lib.hid (show Seen W2 wc from hcut)
  clear hcut
  go_wp2_with (first
    | (go_at_call 27; refine (HO.out _).mono ?_; rintro e w5 ⟨rfl, hb⟩; have S5 := Lib.hid (show Seen W2 w5 from SC.out.trans hb); clear hb; have K15 := Blk.seen K1.out S5.out)
    | (refine wpList_buildF0 rfl rfl ?_)
    | (refine wpList_storeF rfl (.tmp 10) (.tmp 39) rfl (W.heap.size + 1) zFr zFr rfl rfl K15 ?_; intro Wa ba ta))
  refine bodyPost_ret (results_two rfl rfl rfl (run_loadF ba)) rfl ?_
  exact ⟨rfl, (S2.out.trans S5.out).turns ta (by omega)⟩
end Go.Proofs.Yteplmjgohnbpbaa
