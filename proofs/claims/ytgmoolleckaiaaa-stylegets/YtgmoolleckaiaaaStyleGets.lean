/- Proved: for all bytes b the law StyleGets returns true, and its argument reads afterwards as before; no conditions. -/
import Derived.Test.YtgmoolleckaiaaaRows
import Derived.WalkKit
import Derived.Test.YtgmoolleckaiaaaGetsBase
import Derived.Test.YtgmoolleckaiaaaRefFormed
import Derived.ProofKit
import Derived.OpenShut
import Derived.ShutString
import Derived.ChangeOld
import Derived.Below
namespace Go.Proofs.Ytgmoolleckaiaaa.styleGets
open Go.ChangeShapes Go.WideShapes Go.ChangeAt Go.RowKit
set_option linter.unusedVariables false

theorem own : ownKnob Try.prog.godebug = none := by kernel_rfl
theorem laidOut : laidOutB Try.prog = true := by kernel_rfl


set_option maxRecDepth 100000 in
set_option maxHeartbeats 8000000 in
theorem walk (ad : Option Addr) (n c : Nat) (l : List Int) (w : World) (ol : BS w ad n l ∧ Bytes8 l ∧ n ≤ c ∧ (ad = none → c = 0)) :
    Calls Try.prog 5 #[.slice ad n c] w fun e w' => e = .returned (.bool true) ∧ Below w.heap.size w w' := by
  have HL := Lib.hid ol
  clear ol
  by_cases hn : 1000 < n
  · have hn' : (n : Int) > 1000 := by omega
    go_enter Try.func5, Try.ntmps5
    go_wp2_with (first
      | (go_at_call 7; refine (awake_any w).mono ?_; rintro _ w1 ⟨rfl, b1⟩; have S1 : Hid (Seen w w1) := b1
         clear b1)
      | (go_at_call 7; refine (awake_any w1).mono ?_; rintro _ w2 ⟨rfl, b2⟩; have S2 : Hid (Seen w w2) := S1.out.trans b2
         clear b2))
    go_ret
    exact ⟨rfl, S2.out⟩
  have hn' : ¬ (n : Int) > 1000 := by omega
  obtain ⟨bE, hbE⟩ : ∃ bE, (getE ⟨l, false⟩).bad = bE := ⟨_, rfl⟩
  have HbE := Lib.hid (And.intro hbE trivial)
  clear hbE
  have fl : Hid (0 = 0) := rfl
  have fl2 : Hid (0 = 0) := rfl
  go_enter Try.func5, Try.ntmps5
  go_upto_region 6 with (first
    | (go_at_call 7; refine (awake_any w).mono ?_; rintro _ w1 ⟨rfl, b1⟩; have S1 : Hid (Seen w w1) := b1
       clear b1)
    | (go_at_call 14; refine (newIn_any ad n c l w1 (HL.out.1.seen S1.out) HL.out.2.1 HL.out.2.2.2 (by omega)).mono ?_; rintro _ w2 ⟨B, K, rfl, hi2, hk2, hs2⟩
       have I2 : Hid (IT K B ⟨l, false⟩ w2) := hi2
       have S2 : Hid (Seen w w2) := S1.out.trans hs2
       have HBw : Hid (w.heap.size ≤ B) := Nat.le_trans S1.out.size (hk2 B hi2.1)
       clear hi2 hk2 hs2)
    | (go_at_call 16; refine (get_any I2.out).mono ?_; rintro _ w3 ⟨rfl, ht3, hi3⟩
       have I3 := Lib.hid hi3
       have S3 : Hid (Seen w w3) := S2.out.turns ht3 HBw.out
       clear ht3 hi3)
    | (have gg := I3.out; clear gg; clear fl; rw [zero_lit]; refine wpList_storeS rfl (.tmp 4) (.tmp 18) rfl w3.heap.size zeroS (getV ⟨l, false⟩) rfl rfl (getV_full _) zero_full (hs_new w3 zeroS) ?_
       intro w4 hs4 ht4
       have X4 := Lib.hid hs4
       have S34 : Hid (Seen w3 w4) := ((Seen.refl w3).alloc _).turns ht4 (Nat.le_refl _)
       clear hs4 ht4)
    | (go_at_call 19; refine (refFrom_any (t := ⟨l, false⟩) (w := w4) (a := ad) (N := n) (c := c) ⟨HL.out.1.seen (S3.out.trans S34.out), HL.out.2.1, HL.out.2.2.1, fun h => by cases h⟩).mono ?_; rintro _ w5 ⟨a5, N5, c5, rfl, hs5, hr5⟩
       rw [HbE.out.1]
       have S5 := Lib.hid hs5
       have R5 := Lib.hid hr5
       clear hs5 hr5)
    | (have gg := S5.out; clear gg; clear fl2; rw [zero_lit]; refine wpList_storeS rfl (.tmp 5) (.tmp 23) rfl w5.heap.size zeroS (getV ⟨l, false⟩) rfl rfl (getV_full _) zero_full (alloc_at (hs_new w5 zeroS) _) ?_
       intro w6 hs6 ht6
       have X6 := Lib.hid hs6
       have S56 : Hid (Seen w5 w6) := (((Seen.refl w5).alloc _).alloc _).turns ht6 (Nat.le_refl _)
       have hn6 := World.alloc_heap_new (w5.alloc (.cells (stl zeroS).toArray 27)) (.cells #[.slice none 0 0, .bool false] 43)
       rw [alloc_size] at hn6
       have Z6 : Hid (w6.heap[w5.heap.size + 1]? = some (.cells #[.slice none 0 0, .bool false] 43)) := (ht6.block _ (heap_lt hn6) (by omega)).trans hn6
       obtain ⟨z0, z1, zf, _⟩ := cells2 Z6.out
       clear hs6 ht6 hn6))
  obtain ⟨w7, hw7⟩ : ∃ w7, w7 = (w6.setCell ⟨w5.heap.size + 1, 0, none⟩ (.slice a5 N5 c5)).setCell ⟨w5.heap.size + 1, 1, none⟩ (.bool bE) := ⟨_, rfl⟩
  have hZ : w7.heap[w5.heap.size + 1]? = some (.cells #[.slice a5 N5 c5, .bool bE] 43) := by rw [hw7]; exact set2 Z6.out
  have S57 : Seen w5 w7 := by rw [hw7]; exact (S56.out.set (by omega) _ _).set (by omega) _ _
  have hX5 : Hs w7 w5.heap.size (getV ⟨l, false⟩) := by
    have h1 : (w6.setCell ⟨w5.heap.size + 1, 0, none⟩ (.slice a5 N5 c5)).heap[w5.heap.size]? = some (.cells (stl (getV ⟨l, false⟩)).toArray 27) := hso X6.out (by omega)
    rw [hw7]; exact hso h1 (by omega)
  rw [← hw7]
  clear hw7 z0 z1 zf Z6
  obtain ⟨V, hV⟩ : ∃ V, V = w7.drew := ⟨_, rfl⟩
  have S5V : Seen w5 V := by rw [hV]; exact S57.drew
  have hX5 : Hs V w5.heap.size (getV ⟨l, false⟩) := by rw [hV]; exact hX5
  have hX4 : Hs V w3.heap.size (getV ⟨l, false⟩) := X4.out.seen (S5.out.trans S5V)
  have IV : IT K B (getE ⟨l, false⟩) V := I3.out.seen (S34.out.trans (S5.out.trans S5V))
  have hZV : V.heap[w5.heap.size + 1]? = some (.cells #[.slice a5 N5 c5, .bool bE] 43) := by rw [hV]; exact hZ
  obtain ⟨z0, z1, _, _⟩ := cells2 hZV
  have SV : Seen w V := S3.out.trans (S34.out.trans (S5.out.trans S5V))
  have HN5 : Hid (((getE ⟨l, false⟩).l.length : Int) = (N5 : Int)) := by
    have h5 := (R5.out w ⟨HL.out.1, HL.out.2.1, HL.out.2.2.1, fun h => by cases h⟩).bs.1
    unfold Hid; omega
  have HbE2 : Hid ((getE ⟨l, false⟩).bad = bE) := HbE.out.1
  clear S57 hZ
  refine wp_region_held_drew (S := fun w' => w' = V) (by kernel_rfl) hV.symm (fun _ => ?_)
  rw [← hV]
  refine hTake 0 (some 25) (sv (getV ⟨l, false⟩)) (by kernel_rfl) (by kernel_rfl) (by kernel_rfl) (by kernel_rfl) (by kernel_rfl) (by kernel_rfl) (fun _ _ _ h => h) (fun w' hS => by subst hS; exact run_by (Instr.loadAt 27 (.pointer (some ⟨w3.heap.size, 0, none⟩))) (by kernel_rfl) (run_loadAtS hX4 (getV_full _))) rfl ?_
  simp only [Act.put, List.setIfInBounds_toArray, List.set_cons_zero, List.set_cons_succ]
  refine hTake 1 (some 26) (sv (getV ⟨l, false⟩)) (by kernel_rfl) (by kernel_rfl) (by kernel_rfl) (by kernel_rfl) (by kernel_rfl) (by kernel_rfl) (fun _ _ _ h => h) (fun w' hS => by subst hS; exact run_by (Instr.loadAt 27 (.pointer (some ⟨w5.heap.size, 0, none⟩))) (by kernel_rfl) (run_loadAtS hX5 (getV_full _))) rfl ?_
  simp only [Act.put, List.setIfInBounds_toArray, List.set_cons_zero, List.set_cons_succ]
  refine hTake 2 (some 27) (.bool false) (by kernel_rfl) (by kernel_rfl) (by kernel_rfl) (by kernel_rfl) (by kernel_rfl) (by kernel_rfl) (fun _ _ _ h => h) (fun w' hS => run_by _ (by kernel_rfl) (sty_neq (getV ⟨l, false⟩) (getV_full _) (.tmp 25) (.tmp 26) _)) rfl ?_
  simp only [Act.put, List.setIfInBounds_toArray, List.set_cons_zero, List.set_cons_succ]
  refine hTake 3 (some 28) (.bool false) (by kernel_rfl) (by kernel_rfl) (by kernel_rfl) (by kernel_rfl) (by kernel_rfl) (by kernel_rfl) (fun _ _ _ h => h) (fun w' hS => by kernel_rfl) rfl ?_
  simp only [Act.put, List.setIfInBounds_toArray, List.set_cons_zero, List.set_cons_succ]
  refine hTake 4 (some 29) (.pointer (some ⟨B, 0, none⟩)) (by kernel_rfl) (by kernel_rfl) (by kernel_rfl) (by kernel_rfl) (by kernel_rfl) (by kernel_rfl) (fun _ _ _ h => h) (fun w' hS => by kernel_rfl) rfl ?_
  simp only [Act.put, List.setIfInBounds_toArray, List.set_cons_zero, List.set_cons_succ]
  refine hTake 6 (some 31) (.pointer (some ⟨w5.heap.size + 1, 1, none⟩)) (by kernel_rfl) (by kernel_rfl) (by kernel_rfl) (by kernel_rfl) (by kernel_rfl) (by kernel_rfl) (fun _ _ _ h => h) (fun w' hS => run_by (Instr.fieldAt 43 (.pointer (some ⟨w5.heap.size + 1, 0, none⟩)) 1) (by kernel_rfl) (run_field1 _ _)) rfl ?_
  simp only [Act.put, List.setIfInBounds_toArray, List.set_cons_zero, List.set_cons_succ]
  refine hTake 7 (some 32) (.bool bE) (by kernel_rfl) (by kernel_rfl) (by kernel_rfl) (by kernel_rfl) (by kernel_rfl) (by kernel_rfl) (fun _ _ _ h => h) (fun w' hS => by subst hS; exact run_by (Instr.loadAt 4 (.pointer (some ⟨w5.heap.size + 1, 1, none⟩))) (by kernel_rfl) (run_loadBo z1)) rfl ?_
  simp only [Act.put, List.setIfInBounds_toArray, List.set_cons_zero, List.set_cons_succ]
  refine hCall 5 (some 30) 17 #[.pointer (some ⟨B, 0, none⟩)] (by kernel_rfl) (by kernel_rfl) (by kernel_rfl) (by kernel_rfl) (by kernel_rfl) ?_
  refine (bad_any IV).mono ?_
  rintro _ v1 ⟨rfl, hv1⟩
  refine ⟨_, rfl, hv1, ?_⟩
  rw [hv1]
  clear hv1
  rw [HbE2.out]
  simp only [Act.put, List.setIfInBounds_toArray, List.set_cons_zero, List.set_cons_succ]
  refine hTake 8 (some 33) (.bool false) (by kernel_rfl) (by kernel_rfl) (by kernel_rfl) (by kernel_rfl) (by kernel_rfl) (by kernel_rfl) (fun _ _ _ h => h) (fun w' hS => run_by _ (by kernel_rfl) (bool_neq bE (.tmp 30) (.tmp 32) _)) rfl ?_
  simp only [Act.put, List.setIfInBounds_toArray, List.set_cons_zero, List.set_cons_succ]
  refine hTake 9 (some 34) (.bool false) (by kernel_rfl) (by kernel_rfl) (by kernel_rfl) (by kernel_rfl) (by kernel_rfl) (by kernel_rfl) (fun _ _ _ h => h) (fun w' hS => by kernel_rfl) rfl ?_
  simp only [Act.put, List.setIfInBounds_toArray, List.set_cons_zero, List.set_cons_succ]
  refine hTake 10 (some 35) (.bool false) (by kernel_rfl) (by kernel_rfl) (by kernel_rfl) (by kernel_rfl) (by kernel_rfl) (by kernel_rfl) (fun _ _ _ h => h) (fun w' hS => by kernel_rfl) rfl ?_
  simp only [Act.put, List.setIfInBounds_toArray, List.set_cons_zero, List.set_cons_succ]
  refine hTake 11 (some 36) (.pointer (some ⟨B, 0, none⟩)) (by kernel_rfl) (by kernel_rfl) (by kernel_rfl) (by kernel_rfl) (by kernel_rfl) (by kernel_rfl) (fun _ _ _ h => h) (fun w' hS => by kernel_rfl) rfl ?_
  simp only [Act.put, List.setIfInBounds_toArray, List.set_cons_zero, List.set_cons_succ]
  refine hTake 13 (some 38) (.pointer (some ⟨w5.heap.size + 1, 0, none⟩)) (by kernel_rfl) (by kernel_rfl) (by kernel_rfl) (by kernel_rfl) (by kernel_rfl) (by kernel_rfl) (fun _ _ _ h => h) (fun w' hS => run_by (Instr.fieldAt 43 (.pointer (some ⟨w5.heap.size + 1, 0, none⟩)) 0) (by kernel_rfl) (run_field0 _ _)) rfl ?_
  simp only [Act.put, List.setIfInBounds_toArray, List.set_cons_zero, List.set_cons_succ]
  refine hTake 14 (some 39) (.slice a5 N5 c5) (by kernel_rfl) (by kernel_rfl) (by kernel_rfl) (by kernel_rfl) (by kernel_rfl) (by kernel_rfl) (fun _ _ _ h => h) (fun w' hS => by subst hS; exact run_by (Instr.loadAt 30 (.pointer (some ⟨w5.heap.size + 1, 0, none⟩))) (by kernel_rfl) (run_loadSl z0)) rfl ?_
  simp only [Act.put, List.setIfInBounds_toArray, List.set_cons_zero, List.set_cons_succ]
  refine hTake 15 (some 40) (.int .i64 N5) (by kernel_rfl) (by kernel_rfl) (by kernel_rfl) (by kernel_rfl) (by kernel_rfl) (by kernel_rfl) (fun _ _ _ h => h) (fun w' hS => by kernel_rfl) rfl ?_
  simp only [Act.put, List.setIfInBounds_toArray, List.set_cons_zero, List.set_cons_succ]
  refine hCall 12 (some 37) 18 #[.pointer (some ⟨B, 0, none⟩)] (by kernel_rfl) (by kernel_rfl) (by kernel_rfl) (by kernel_rfl) (by kernel_rfl) ?_
  refine (left_any IV).mono ?_
  rintro _ v2 ⟨rfl, hv2⟩
  refine ⟨_, rfl, hv2, ?_⟩
  rw [hv2]
  clear hv2
  rw [HN5.out]
  simp only [Act.put, List.setIfInBounds_toArray, List.set_cons_zero, List.set_cons_succ]
  refine hTake 16 (some 41) (.bool false) (by kernel_rfl) (by kernel_rfl) (by kernel_rfl) (by kernel_rfl) (by kernel_rfl) (by kernel_rfl) (fun _ _ _ h => h) (fun w' hS => run_by _ (by kernel_rfl) (int_neq N5 (.tmp 37) (.tmp 40) _)) rfl ?_
  simp only [Act.put, List.setIfInBounds_toArray, List.set_cons_zero, List.set_cons_succ]
  refine hTake 17 (some 42) (.bool false) (by kernel_rfl) (by kernel_rfl) (by kernel_rfl) (by kernel_rfl) (by kernel_rfl) (by kernel_rfl) (fun _ _ _ h => h) (fun w' hS => by kernel_rfl) rfl ?_
  simp only [Act.put, List.setIfInBounds_toArray, List.set_cons_zero, List.set_cons_succ]
  refine wpAnyH_done (by kernel_rfl) ?_ _
  go_upto_region 8 with fail
  obtain ⟨V2, hV2⟩ : ∃ V2, V2 = V.drew := ⟨_, rfl⟩
  have sd : Seen V V.drew := (Seen.refl V).drew
  cases hbe : bE
  · rw [hbe] at z1 HbE2
    have hgo : getOk ⟨l, false⟩ = true := by
      cases hg : getOk ⟨l, false⟩
      · have := (getV_no hg).2
        have h2 := HbE2.out
        rw [this] at h2
        cases h2
      · rfl
    obtain ⟨_, hl, _, hfm⟩ := get_eats (s := ⟨l, false⟩) HL.out.2.1 hgo
    have hP : FormedP (getV ⟨l, false⟩) := of_decide_eq_true (p := FormedP (getV ⟨l, false⟩)) hfm
    have HPos : Hid (0 ≤ (getV ⟨l, false⟩).pos ∧ (getV ⟨l, false⟩).pos ≤ 3) := ⟨hP.2.2.2.2.1, hP.2.2.2.2.2.1⟩
    have hl' : l = encS (getV ⟨l, false⟩) ++ (getE ⟨l, false⟩).l := hl
    have hlen := congrArg List.length hl'
    rw [List.length_append] at hlen
    have hkpos := encS_pos (getV ⟨l, false⟩)
    have htake : l.take (encS (getV ⟨l, false⟩)).length = encS (getV ⟨l, false⟩) := by
      have := congrArg (List.take (encS (getV ⟨l, false⟩)).length) hl'
      rw [this, List.take_left]
    obtain ⟨k, hkk⟩ : ∃ k, (encS (getV ⟨l, false⟩)).length = k := ⟨_, rfl⟩
    rw [hkk] at hlen hkpos htake
    have hnl : l.length = n := HL.out.1.1
    have hk : n = k + N5 := by have := HN5.out; omega
    have hkn : k ≤ n := by omega
    obtain ⟨gb, go, rfl, _⟩ := HL.out.1.2 (by omega)
    have HBk : Hid (BS V (some ⟨gb, go, none⟩) k (encS (getV ⟨l, false⟩))) := by
      have := head_bs (HL.out.1.seen SV) hkn
      rw [htake] at this
      exact this
    have hcap : n ≤ c := HL.out.2.2.1
    have rh : ∀ w', (Instr.sliceAt 30 (.slice (some ⟨gb, go, none⟩) n c) none (some (.int .i64 (k : Int))) none).run Try.prog w' = .ok (.slice (some ⟨gb, go, none⟩) k c) w' := fun w' => by
      have := run_headAt (some ⟨gb, go, none⟩) n c k (by omega) w'
      rw [headA_some] at this
      exact this
    refine wp_region_held_drew (S := fun w' => Seen V w') (by kernel_rfl) sd (fun _ => ?_)
    refine hTake 0 (some 43) (.pointer (some ⟨w5.heap.size + 1, 1, none⟩)) (by kernel_rfl) (by kernel_rfl) (by kernel_rfl) (by kernel_rfl) (by kernel_rfl) (by kernel_rfl) (fun _ _ _ h => h) (fun w' hS => run_by (Instr.fieldAt 43 (.pointer (some ⟨w5.heap.size + 1, 0, none⟩)) 1) (by kernel_rfl) (run_field1 _ _)) sd ?_
    simp only [Act.put, List.setIfInBounds_toArray, List.set_cons_zero, List.set_cons_succ]
    refine hTake 1 (some 44) (.bool false) (by kernel_rfl) (by kernel_rfl) (by kernel_rfl) (by kernel_rfl) (by kernel_rfl) (by kernel_rfl) (fun _ _ _ h => h) (fun w' hS => run_by (Instr.loadAt 4 (.pointer (some ⟨w5.heap.size + 1, 1, none⟩))) (by kernel_rfl) (run_loadBo (hS.cell z1))) sd ?_
    simp only [Act.put, List.setIfInBounds_toArray, List.set_cons_zero, List.set_cons_succ]
    refine hTake 2 (some 45) (.bool false) (by kernel_rfl) (by kernel_rfl) (by kernel_rfl) (by kernel_rfl) (by kernel_rfl) (by kernel_rfl) (fun _ _ _ h => h) (fun w' hS => by kernel_rfl) sd ?_
    simp only [Act.put, List.setIfInBounds_toArray, List.set_cons_zero, List.set_cons_succ]
    refine hTake 3 (some 46) (sv (getV ⟨l, false⟩)) (by kernel_rfl) (by kernel_rfl) (by kernel_rfl) (by kernel_rfl) (by kernel_rfl) (by kernel_rfl) (fun _ _ _ h => h) (fun w' hS => run_by (Instr.loadAt 27 (.pointer (some ⟨w3.heap.size, 0, none⟩))) (by kernel_rfl) (run_loadAtS (hX4.seen hS) (getV_full _))) sd ?_
    simp only [Act.put, List.setIfInBounds_toArray, List.set_cons_zero, List.set_cons_succ]
    refine hTake 6 (some 49) (.slice (some ⟨gb, go, none⟩) n c) (by kernel_rfl) (by kernel_rfl) (by kernel_rfl) (by kernel_rfl) (by kernel_rfl) (by kernel_rfl) (fun _ _ _ h => h) (fun w' hS => by kernel_rfl) sd ?_
    simp only [Act.put, List.setIfInBounds_toArray, List.set_cons_zero, List.set_cons_succ]
    refine hTake 7 (some 50) (.slice (some ⟨gb, go, none⟩) n c) (by kernel_rfl) (by kernel_rfl) (by kernel_rfl) (by kernel_rfl) (by kernel_rfl) (by kernel_rfl) (fun _ _ _ h => h) (fun w' hS => by kernel_rfl) sd ?_
    simp only [Act.put, List.setIfInBounds_toArray, List.set_cons_zero, List.set_cons_succ]
    refine hTake 8 (some 51) (.int .i64 n) (by kernel_rfl) (by kernel_rfl) (by kernel_rfl) (by kernel_rfl) (by kernel_rfl) (by kernel_rfl) (fun _ _ _ h => h) (fun w' hS => by kernel_rfl) sd ?_
    simp only [Act.put, List.setIfInBounds_toArray, List.set_cons_zero, List.set_cons_succ]
    refine hTake 9 (some 52) (.pointer (some ⟨w5.heap.size + 1, 0, none⟩)) (by kernel_rfl) (by kernel_rfl) (by kernel_rfl) (by kernel_rfl) (by kernel_rfl) (by kernel_rfl) (fun _ _ _ h => h) (fun w' hS => run_by (Instr.fieldAt 43 (.pointer (some ⟨w5.heap.size + 1, 0, none⟩)) 0) (by kernel_rfl) (run_field0 _ _)) sd ?_
    simp only [Act.put, List.setIfInBounds_toArray, List.set_cons_zero, List.set_cons_succ]
    refine hTake 10 (some 53) (.slice a5 N5 c5) (by kernel_rfl) (by kernel_rfl) (by kernel_rfl) (by kernel_rfl) (by kernel_rfl) (by kernel_rfl) (fun _ _ _ h => h) (fun w' hS => run_by (Instr.loadAt 30 (.pointer (some ⟨w5.heap.size + 1, 0, none⟩))) (by kernel_rfl) (run_loadSl (hS.cell z0))) sd ?_
    simp only [Act.put, List.setIfInBounds_toArray, List.set_cons_zero, List.set_cons_succ]
    refine hTake 11 (some 54) (.int .i64 N5) (by kernel_rfl) (by kernel_rfl) (by kernel_rfl) (by kernel_rfl) (by kernel_rfl) (by kernel_rfl) (fun _ _ _ h => h) (fun w' hS => by kernel_rfl) sd ?_
    simp only [Act.put, List.setIfInBounds_toArray, List.set_cons_zero, List.set_cons_succ]
    refine hTake 12 (some 55) (.int .i64 k) (by kernel_rfl) (by kernel_rfl) (by kernel_rfl) (by kernel_rfl) (by kernel_rfl) (by kernel_rfl) (fun _ _ _ h => h) (fun w' hS => run_by _ (by kernel_rfl) (int_sub n N5 k hk (by omega) (.tmp 51) (.tmp 54) _)) sd ?_
    simp only [Act.put, List.setIfInBounds_toArray, List.set_cons_zero, List.set_cons_succ]
    refine hTake 13 (some 56) (.slice (some ⟨gb, go, none⟩) k c) (by kernel_rfl) (by kernel_rfl) (by kernel_rfl) (by kernel_rfl) (by kernel_rfl) (by kernel_rfl) (fun _ _ _ h => h) (fun w' hS => run_by (Instr.sliceAt 30 (.slice (some ⟨gb, go, none⟩) n c) none (some (.int .i64 k)) none) (by kernel_rfl) (rh _)) sd ?_
    simp only [Act.put, List.setIfInBounds_toArray, List.set_cons_zero, List.set_cons_succ]
    refine hTake 14 (some 57) (.string (strOfNums (encS (getV ⟨l, false⟩)))) (by kernel_rfl) (by kernel_rfl) (by kernel_rfl) (by kernel_rfl) (by kernel_rfl) (by kernel_rfl) (fun _ _ _ h => h) (fun w' hS => run_by (convert 30 9 (.slice (some ⟨gb, go, none⟩) k c)) (by kernel_rfl) (conv_bs (HBk.out.seen hS) hkpos)) sd ?_
    simp only [Act.put, List.setIfInBounds_toArray, List.set_cons_zero, List.set_cons_succ]
    refine hCall 4 (some 47) 15 #[sv (getV ⟨l, false⟩)] (by kernel_rfl) (by kernel_rfl) (by kernel_rfl) (by kernel_rfl) (by kernel_rfl) ?_
    refine (refBytes_any (getV ⟨l, false⟩) (getV_full _) HPos.out _).mono ?_
    rintro _ w8 ⟨⟨v8, rfl, ho8⟩, hs8⟩
    have s8 : Seen V w8 := sd.trans hs8
    refine ⟨v8, rfl, s8, ?_⟩
    simp only [Act.put, List.setIfInBounds_toArray, List.set_cons_zero, List.set_cons_succ]
    refine hRun 5 (some 48) (.string (strOfNums (encS (getV ⟨l, false⟩)))) (by kernel_rfl) (by kernel_rfl) (by kernel_rfl) (by kernel_rfl) (run_by (convert 30 9 v8) (by kernel_rfl) (conv_own ho8 rfl w8 (Seen.refl w8))) s8 ?_
    simp only [Act.put, List.setIfInBounds_toArray, List.set_cons_zero, List.set_cons_succ]
    refine hTake 15 (some 58) (.bool true) (by kernel_rfl) (by kernel_rfl) (by kernel_rfl) (by kernel_rfl) (by kernel_rfl) (by kernel_rfl) (fun _ _ _ h => h) (fun w' hS => run_by _ (by kernel_rfl) (str_eql (strOfNums (encS (getV ⟨l, false⟩))) (.tmp 48) (.tmp 57) _)) s8 ?_
    simp only [Act.put, List.setIfInBounds_toArray, List.set_cons_zero, List.set_cons_succ]
    refine hTake 16 (some 59) (.bool true) (by kernel_rfl) (by kernel_rfl) (by kernel_rfl) (by kernel_rfl) (by kernel_rfl) (by kernel_rfl) (fun _ _ _ h => h) (fun w' hS => by kernel_rfl) s8 ?_
    simp only [Act.put, List.setIfInBounds_toArray, List.set_cons_zero, List.set_cons_succ]
    refine hTake 17 (some 2) (.bool true) (by kernel_rfl) (by kernel_rfl) (by kernel_rfl) (by kernel_rfl) (by kernel_rfl) (by kernel_rfl) (fun _ _ _ h => h) (fun w' hS => by kernel_rfl) s8 ?_
    simp only [Act.put, List.setIfInBounds_toArray, List.set_cons_zero, List.set_cons_succ]
    refine wpAnyH_done (by kernel_rfl) ?_ _
    clear hl hl' hlen htake hfm hgo hP hkk hk hnl
    go_wp2_with fail
    go_ret
    exact ⟨rfl, SV.trans s8⟩
  · rw [hbe] at z1
    refine wp_region_held_drew (S := fun w' => Seen V w') (by kernel_rfl) sd (fun _ => ?_)
    refine hTake 0 (some 43) (.pointer (some ⟨w5.heap.size + 1, 1, none⟩)) (by kernel_rfl) (by kernel_rfl) (by kernel_rfl) (by kernel_rfl) (by kernel_rfl) (by kernel_rfl) (fun _ _ _ h => h) (fun w' hS => run_by (Instr.fieldAt 43 (.pointer (some ⟨w5.heap.size + 1, 0, none⟩)) 1) (by kernel_rfl) (run_field1 _ _)) sd ?_
    simp only [Act.put, List.setIfInBounds_toArray, List.set_cons_zero, List.set_cons_succ]
    refine hTake 1 (some 44) (.bool true) (by kernel_rfl) (by kernel_rfl) (by kernel_rfl) (by kernel_rfl) (by kernel_rfl) (by kernel_rfl) (fun _ _ _ h => h) (fun w' hS => run_by (Instr.loadAt 4 (.pointer (some ⟨w5.heap.size + 1, 1, none⟩))) (by kernel_rfl) (run_loadBo (hS.cell z1))) sd ?_
    simp only [Act.put, List.setIfInBounds_toArray, List.set_cons_zero, List.set_cons_succ]
    refine hTake 2 (some 45) (.bool true) (by kernel_rfl) (by kernel_rfl) (by kernel_rfl) (by kernel_rfl) (by kernel_rfl) (by kernel_rfl) (fun _ _ _ h => h) (fun w' hS => by kernel_rfl) sd ?_
    simp only [Act.put, List.setIfInBounds_toArray, List.set_cons_zero, List.set_cons_succ]
    refine hTakeNo 3 (some 46) (by kernel_rfl) (by kernel_rfl) (by kernel_rfl) (by kernel_rfl) (by kernel_rfl) (by kernel_rfl) (fun _ _ _ h => h) sd ?_
    simp only [Act.put, List.setIfInBounds_toArray, List.set_cons_zero, List.set_cons_succ]
    refine hTakeNo 4 (some 47) (by kernel_rfl) (by kernel_rfl) (by kernel_rfl) (by kernel_rfl) (by kernel_rfl) (by kernel_rfl) (fun _ _ _ h => h) sd ?_
    simp only [Act.put, List.setIfInBounds_toArray, List.set_cons_zero, List.set_cons_succ]
    refine hTakeNo 5 (some 48) (by kernel_rfl) (by kernel_rfl) (by kernel_rfl) (by kernel_rfl) (by kernel_rfl) (by kernel_rfl) (fun _ _ _ h => h) sd ?_
    simp only [Act.put, List.setIfInBounds_toArray, List.set_cons_zero, List.set_cons_succ]
    refine hTakeNo 6 (some 49) (by kernel_rfl) (by kernel_rfl) (by kernel_rfl) (by kernel_rfl) (by kernel_rfl) (by kernel_rfl) (fun _ _ _ h => h) sd ?_
    simp only [Act.put, List.setIfInBounds_toArray, List.set_cons_zero, List.set_cons_succ]
    refine hTakeNo 7 (some 50) (by kernel_rfl) (by kernel_rfl) (by kernel_rfl) (by kernel_rfl) (by kernel_rfl) (by kernel_rfl) (fun _ _ _ h => h) sd ?_
    simp only [Act.put, List.setIfInBounds_toArray, List.set_cons_zero, List.set_cons_succ]
    refine hTakeNo 8 (some 51) (by kernel_rfl) (by kernel_rfl) (by kernel_rfl) (by kernel_rfl) (by kernel_rfl) (by kernel_rfl) (fun _ _ _ h => h) sd ?_
    simp only [Act.put, List.setIfInBounds_toArray, List.set_cons_zero, List.set_cons_succ]
    refine hTakeNo 9 (some 52) (by kernel_rfl) (by kernel_rfl) (by kernel_rfl) (by kernel_rfl) (by kernel_rfl) (by kernel_rfl) (fun _ _ _ h => h) sd ?_
    simp only [Act.put, List.setIfInBounds_toArray, List.set_cons_zero, List.set_cons_succ]
    refine hTakeNo 10 (some 53) (by kernel_rfl) (by kernel_rfl) (by kernel_rfl) (by kernel_rfl) (by kernel_rfl) (by kernel_rfl) (fun _ _ _ h => h) sd ?_
    simp only [Act.put, List.setIfInBounds_toArray, List.set_cons_zero, List.set_cons_succ]
    refine hTakeNo 11 (some 54) (by kernel_rfl) (by kernel_rfl) (by kernel_rfl) (by kernel_rfl) (by kernel_rfl) (by kernel_rfl) (fun _ _ _ h => h) sd ?_
    simp only [Act.put, List.setIfInBounds_toArray, List.set_cons_zero, List.set_cons_succ]
    refine hTakeNo 12 (some 55) (by kernel_rfl) (by kernel_rfl) (by kernel_rfl) (by kernel_rfl) (by kernel_rfl) (by kernel_rfl) (fun _ _ _ h => h) sd ?_
    simp only [Act.put, List.setIfInBounds_toArray, List.set_cons_zero, List.set_cons_succ]
    refine hTakeNo 13 (some 56) (by kernel_rfl) (by kernel_rfl) (by kernel_rfl) (by kernel_rfl) (by kernel_rfl) (by kernel_rfl) (fun _ _ _ h => h) sd ?_
    simp only [Act.put, List.setIfInBounds_toArray, List.set_cons_zero, List.set_cons_succ]
    refine hTakeNo 14 (some 57) (by kernel_rfl) (by kernel_rfl) (by kernel_rfl) (by kernel_rfl) (by kernel_rfl) (by kernel_rfl) (fun _ _ _ h => h) sd ?_
    simp only [Act.put, List.setIfInBounds_toArray, List.set_cons_zero, List.set_cons_succ]
    refine hTakeNo 15 (some 58) (by kernel_rfl) (by kernel_rfl) (by kernel_rfl) (by kernel_rfl) (by kernel_rfl) (by kernel_rfl) (fun _ _ _ h => h) sd ?_
    simp only [Act.put, List.setIfInBounds_toArray, List.set_cons_zero, List.set_cons_succ]
    refine hTake 16 (some 59) (.bool true) (by kernel_rfl) (by kernel_rfl) (by kernel_rfl) (by kernel_rfl) (by kernel_rfl) (by kernel_rfl) (fun _ _ _ h => h) (fun w' hS => by kernel_rfl) sd ?_
    simp only [Act.put, List.setIfInBounds_toArray, List.set_cons_zero, List.set_cons_succ]
    refine hTake 17 (some 2) (.bool true) (by kernel_rfl) (by kernel_rfl) (by kernel_rfl) (by kernel_rfl) (by kernel_rfl) (by kernel_rfl) (fun _ _ _ h => h) (fun w' hS => by kernel_rfl) sd ?_
    simp only [Act.put, List.setIfInBounds_toArray, List.set_cons_zero, List.set_cons_succ]
    refine wpAnyH_done (by kernel_rfl) ?_ _
    go_wp2_with fail
    go_ret
    exact ⟨rfl, SV.trans sd⟩

/-! ### The row's step. -/
set_option maxRecDepth 100000 in
theorem lifted (os : Os) (started : os.Started) (H : Type) (enc : TypeId × Value → H) :
    ReturnsInHanded {} Try.checked os 5 .any (Rows.styleGetsSpec.pre6 enc Try.prog Try.f5 Rows.styleGetsRow.domain false) (Rows.styleGetsSpec.post enc Try.prog Try.f5 false true false false) := by
  refine returnsInHanded_of_change (C := Try.checked) own started (by kernel_rfl) Try.func5
    (ChangeSpec.witness6 (enc := enc) (C := Try.checked) false ⟨#[], #[.slice none 0 0], []⟩ 8 (by kernel_rfl) (by kernel_rfl) (by kernel_rfl) (by kernel_rfl)) ?_
  intro W base args ds gs before hval0 hW hcnd _
  have hval : ∀ (j : Nat) t v, Try.f5.params[j]? = some t → args[j]? = some v → Value.okWide Try.prog W .any base t v := hval0
  have hW' := hW
  obtain ⟨p, q, hA0, hV, rfl, hfz, hnd⟩ := hW
  have hA : DataW.TrodAll enc Try.prog W 0 (fun _ => true) true Try.f5.params.toList args.toList ds p := hA0
  rw [Try.params5] at hA hval
  obtain ⟨v0, vs0, d0, ds0, p0, q0, hargs, rfl, rfl, h0, r0⟩ := trodAll_cons hA
  obtain ⟨rfl, rfl, rfl⟩ := trodAll_nil r0
  obtain rfl : args = #[v0] := by cases args; simp_all
  obtain ⟨rfl, rfl⟩ := trodVars_none hV
  have k0 := h0
  have lt0 : ∀ x ∈ p0, x.block < W.heap.size := by obtain ⟨m, hm⟩ := k0; exact DataW.trod_lt m _ _ _ hm
  obtain ⟨a0, len0, cap0, g0, rfl, o0⟩ := open_bytes (hval 0 30 v0 rfl rfl) h0
  clear hA0 hval0
  refine (walk a0 len0 cap0 g0 W o0).mono fun e W' ⟨he, bel⟩ => ?_
  subst he
  exact ⟨_, rfl, _, _, _, [], _, [], hW', trodAll_mk1 (shut_bool Try.underlying4 _), (trodAll_cons_mk (Below.trod laidOut (by kernel_rfl) (of_decide_eq_true (by kernel_rfl)) k0 bel lt0) trodAll_mk0), rfl, bel.frame _, fun h => by cases h⟩

theorem over : Rows.styleGetsRow.holds Try.pinned (OpenSpec.ofChange Rows.styleGetsSpec) :=
  OpenClaim.holds_of_wide 5 Try.f5 rfl rfl rfl rfl rfl rfl rfl ⟨rfl, rfl, rfl, rfl, rfl⟩ rfl rfl rfl rfl rfl (by kernel_rfl) Try.func5 (by kernel_rfl)
    (of_decide_eq_true (by kernel_rfl)) (by unfold Func.isWrapper; first | (rw [if_pos (by decide +kernel)]; kernel_rfl) | (rw [if_neg (by decide +kernel)]; exact ⟨rfl, rfl⟩))
    (fun os started H enc _ => lifted os started H enc)

/-- The statement. -/
theorem proved : Rows.StyleGetsSaid := over
#print axioms proved
end Go.Proofs.Ytgmoolleckaiaaa.styleGets
