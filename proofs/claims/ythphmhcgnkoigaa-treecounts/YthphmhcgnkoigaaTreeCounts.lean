/- Proved: for every list of nodes and all numbers the law TreeCounts returns true, and its arguments read afterwards as before; no conditions. -/
import Derived.Test.YthphmhcgnkoigaaRows
import Derived.WalkKit
import Derived.Test.YthphmhcgnkoigaaAwakeT
import Derived.Test.YthphmhcgnkoigaaDecBack
import Derived.Test.YthphmhcgnkoigaaRefBytesT
import Derived.Test.YthphmhcgnkoigaaHandC
import Derived.Test.YthphmhcgnkoigaaChain
import Derived.ProofKit
import Derived.OpenShut
import Derived.ShutString
import Derived.ChangeOld
import Derived.Below
namespace Go.Proofs.Ythphmhcgnkoigaa.treeCounts
open Go.ChangeShapes Go.WideShapes Go.ChangeAt Go.RowKit
set_option linter.unusedVariables false

theorem own : ownKnob Try.prog.godebug = none := by kernel_rfl
theorem laidOut : laidOutB Try.prog = true := by kernel_rfl


set_option maxRecDepth 100000 in
set_option maxHeartbeats 16000000 in
theorem walk (a : Option Addr) (n c : Nat) (l : List Nd) (gi bi : Int) (w : World) (o : NS w a n l ∧ (∀ q ∈ l, OkN q) ∧ n ≤ c ∧ (a = none → c = 0)) (og : 0 ≤ gi ∧ gi < 256) (ob : 0 ≤ bi ∧ bi < 256) :
    Calls Try.prog 6 #[.slice a n c, .int .u8 gi, .int .u8 bi] w fun e w' => e = .returned (.bool true) ∧ Below w.heap.size w w' := by
  obtain ⟨i0, hi, hz0, hz1, hz2⟩ := info_parts info5
  have HS := Lib.hid o.1
  have HO := Lib.hid o.2.1
  have HN : Hid (l.length = n) := o.1.1
  obtain ⟨g, hgg⟩ : ∃ g : Nat, gi = (g : Int) := ⟨gi.toNat, by omega⟩
  subst hgg
  have hg256 : g < 256 := by omega
  have HOB := Lib.hid ob
  clear o og ob
  by_cases hbig : (n : Int) > 40
  · go_enter Try.func6, Try.ntmps6
    have A0 := Lib.hid (awakeT_any w)
    go_wp2_with (first
      | (go_at_call 8; refine A0.out.mono ?_; clear A0; rintro _ w1 ⟨rfl, hs1⟩; have S1 : Hid (Seen w w1) := hs1; clear hs1)
      | (go_at_call 8; refine (awakeT_any w1).mono ?_; rintro _ w2 ⟨rfl, hs2⟩; have S2 : Hid (Seen w w2) := S1.out.trans hs2
         clear hs2))
    go_ret
    exact ⟨rfl, S2.out⟩
  obtain ⟨fb, hfb⟩ : ∃ fb, formedT l = fb := ⟨_, rfl⟩
  have HB := Lib.hid (And.intro hfb trivial)
  clear hfb
  cases fb
  · go_enter Try.func6, Try.ntmps6
    have A0 := Lib.hid (awakeT_any w)
    go_wp2_with (first
      | (go_at_call 8; refine A0.out.mono ?_; clear A0; rintro _ w1 ⟨rfl, hs1⟩; have S1 : Hid (Seen w w1) := hs1; clear hs1)
      | (go_at_call 10; refine (refFormedT_any a n c l w1 (HS.out.seen S1.out) (by omega)).mono ?_; rintro _ w2 ⟨rfl, hs2⟩; rw [HB.out.1]; have S2 : Hid (Seen w w2) := S1.out.trans hs2
         clear hs2)
      | (go_at_call 8; refine (awakeT_any w2).mono ?_; rintro _ w3 ⟨rfl, hs3⟩; have S3 : Hid (Seen w w3) := S2.out.trans hs3
         clear hs3))
    go_ret
    exact ⟨rfl, S3.out⟩
  have HT : Hid (FormedT l) := of_decide_eq_true (p := FormedT l) HB.out.1
  have hn0 : 0 < n := by have := HT.out.1; have := HN.out; omega
  have hlen : (encT l).length ≤ 4 + 223 * n := by have := outT_len l l.length; rw [HN.out] at this; unfold encT; rw [HN.out]; exact this
  obtain ⟨L, hL⟩ : ∃ L, (encT l).length = L := ⟨_, rfl⟩
  have hL4 : 4 ≤ L := by rw [← hL, encT_nodes, List.length_append, be_length]; omega
  have HNL : Hid ((nodesB l).length = L - 4) := by unfold Hid; rw [← hL, encT_nodes, List.length_append, be_length]; omega
  have HDR : Hid ((encT l).drop 4 = nodesB l) := by unfold Hid; rw [encT_nodes, List.drop_append_of_le_length (by rw [be_length]; omega), List.drop_of_length_le (by rw [be_length]; omega), List.nil_append]
  rw [hL] at hlen
  have HL := Lib.hid hL
  clear hL
  obtain ⟨m, hnm⟩ : ∃ m, n = m + 1 := ⟨n - 1, by omega⟩
  obtain ⟨D, hD⟩ : ∃ D, deep l (m : Int) = D := ⟨_, rfl⟩
  have hDle : D ≤ n := by
    have := deep_le (l := l) (m := (m : Int)) (n := l.length) (Nat.le_refl _) HT.out.low (by omega) (by have := HN.out; omega)
    rw [hD] at this
    omega
  have HDP : Hid (∀ w', Seen w w' → Calls Try.prog 20 #[.slice a n c, .int .i64 (m : Int)] w' fun e w'' => e = .returned (.int .i64 (D : Int)) ∧ w'' = w') := fun w' h' => by
    rw [← hD]; exact deep_any a n c l m w' (HS.out.seen h') (by omega) (by omega) (by omega) (HT.out.low.less (by have := HN.out; omega))
  have hln := HN.out
  have hlb : l.length ≤ 100000 := by omega
  have HC1 : Hid (codeT (be ((n + 1 + g : Nat) : Int) 4 ++ nodesB l) = 2) := by
    have := code_count HT.out HO.out hlb g (by omega)
    rw [hln] at this
    exact this
  have HC2 : Hid (codeT (encT l ++ [bi]) = 2) := code_more HT.out HO.out hlb bi
  have HC3 : Hid (∀ r, codeT (be ((n + 1 : Nat) : Int) 4 ++ nodesB l ++ be ((D + g : Nat) : Int) 4 ++ r) = 2) := fun r => by
    have := code_above HT.out HO.out hlb (D + g) (by rw [hln, show ((n : Int) - 1) = (m : Int) by omega, hD]; omega) (by omega) r
    rw [hln] at this
    simpa [List.append_assoc] using this
  have HB3 : Hid (Bytes8 (nodesB l)) := flat_ok (nodeB_ok l) _
  have HNM := Lib.hid hnm
  clear hD hln hlb hnm
  go_enter Try.func6, Try.ntmps6
  have A0 := Lib.hid (awakeT_any w)
  go_wp2_with (first
    | (go_at_call 8; refine A0.out.mono ?_; clear A0; rintro _ w1 ⟨rfl, hs1⟩; have S1 : Hid (Seen w w1) := hs1; clear hs1)
    | (go_at_call 10; refine (refFormedT_any a n c l w1 (HS.out.seen S1.out) (by omega)).mono ?_; rintro _ w2 ⟨rfl, hs2⟩; rw [HB.out.1]; have S2 : Hid (Seen w w2) := S1.out.trans hs2
       clear hs2)
    | (go_at_call 15; refine (refBytesT_any a n c l w2 (HS.out.seen S2.out) (by omega) HT.out).mono ?_; rintro _ w3 ⟨⟨v3, rfl, ho3⟩, hs3⟩
       rw [HL.out] at ho3
       obtain ⟨a3, c2, rfl, hb3, hc3, hn3⟩ := bs_of_own ho3 HL.out
       obtain ⟨b2, o2, rfl, _⟩ := hb3.2 (by omega)
       have S3 : Hid (Seen w w3) := S2.out.trans hs3
       have R3 := Lib.hid (And.intro ho3 (And.intro hb3 hc3))
       clear hs3 ho3 hb3 hc3 hn3))
  have HSRC : Hid (∀ w', Seen w3 w' → SrcC w' (.slice (tailA (some ⟨b2, o2, none⟩) c2 4) (L - 4) (c2 - 4)) (L - 4) 1 (bv (nodesB l))) := fun w' h' => by
    have h1 := tail_bs (R3.out.2.1.seen h') hL4 R3.out.2.2
    rw [HDR.out] at h1
    exact src_of_bs h1 (fun e => by unfold tailA at e; split at e <;> cases e)
  have sd : Seen w3 w3.drew := (Seen.refl w3).drew
  have rt : ∀ w', (Instr.sliceAt 28 (.slice (some ⟨b2, o2, none⟩) L c2) (some (.int .i64 4)) none none).run Try.prog w' = .ok (.slice (tailA (some ⟨b2, o2, none⟩) c2 4) (L - 4) (c2 - 4)) w' := fun w' => run_tailAt (some ⟨b2, o2, none⟩) L c2 4 (by omega) w'
  refine wp_region_held_drew (S := fun w' => Seen w3 w') (by kernel_rfl) sd (fun _ => ?_)
  refine hTake 0 (some 31) (.slice a n c) (by kernel_rfl) (by kernel_rfl) (by kernel_rfl) (by kernel_rfl) (by kernel_rfl) (by kernel_rfl) (fun _ _ _ h => h) (fun w' hS => by kernel_rfl) sd ?_
  simp only [Act.put, List.setIfInBounds_toArray, List.set_cons_zero, List.set_cons_succ]
  refine hTake 1 (some 32) (.int .i64 n) (by kernel_rfl) (by kernel_rfl) (by kernel_rfl) (by kernel_rfl) (by kernel_rfl) (by kernel_rfl) (fun _ _ _ h => h) (fun w' hS => by kernel_rfl) sd ?_
  simp only [Act.put, List.setIfInBounds_toArray, List.set_cons_zero, List.set_cons_succ]
  refine hTake 2 (some 33) (.int .u64 (n : Int)) (by kernel_rfl) (by kernel_rfl) (by kernel_rfl) (by kernel_rfl) (by kernel_rfl) (by kernel_rfl) (fun _ _ _ h => h) (fun w' hS => run_by (convert 3 39 (.int .i64 (n : Int))) (by kernel_rfl) (u64_of n (by omega) _)) sd ?_
  simp only [Act.put, List.setIfInBounds_toArray, List.set_cons_zero, List.set_cons_succ]
  refine hTake 3 (some 34) (.int .u64 ((n + 1 : Nat) : Int)) (by kernel_rfl) (by kernel_rfl) (by kernel_rfl) (by kernel_rfl) (by kernel_rfl) (by kernel_rfl) (fun _ _ _ h => h) (fun w' hS => run_by _ (by kernel_rfl) (u64_plus n 1 (n + 1) rfl (by omega) (.tmp 33) (.const (.int .u64 1)) _)) sd ?_
  simp only [Act.put, List.setIfInBounds_toArray, List.set_cons_zero, List.set_cons_succ]
  refine hTake 4 (some 35) (.int .u8 (g : Int)) (by kernel_rfl) (by kernel_rfl) (by kernel_rfl) (by kernel_rfl) (by kernel_rfl) (by kernel_rfl) (fun _ _ _ h => h) (fun w' hS => by kernel_rfl) sd ?_
  simp only [Act.put, List.setIfInBounds_toArray, List.set_cons_zero, List.set_cons_succ]
  refine hTake 5 (some 36) (.int .u64 (g : Int)) (by kernel_rfl) (by kernel_rfl) (by kernel_rfl) (by kernel_rfl) (by kernel_rfl) (by kernel_rfl) (fun _ _ _ h => h) (fun w' hS => run_by (convert 5 39 (.int .u8 (g : Int))) (by kernel_rfl) (u8_of g (by omega) _)) sd ?_
  simp only [Act.put, List.setIfInBounds_toArray, List.set_cons_zero, List.set_cons_succ]
  refine hTake 6 (some 37) (.int .u64 ((n + 1 + g : Nat) : Int)) (by kernel_rfl) (by kernel_rfl) (by kernel_rfl) (by kernel_rfl) (by kernel_rfl) (by kernel_rfl) (fun _ _ _ h => h) (fun w' hS => run_by _ (by kernel_rfl) (u64_plus (n + 1) g (n + 1 + g) rfl (by omega) (.tmp 34) (.tmp 36) _)) sd ?_
  simp only [Act.put, List.setIfInBounds_toArray, List.set_cons_zero, List.set_cons_succ]
  refine hTake 8 (some 39) (.slice (some ⟨b2, o2, none⟩) L c2) (by kernel_rfl) (by kernel_rfl) (by kernel_rfl) (by kernel_rfl) (by kernel_rfl) (by kernel_rfl) (fun _ _ _ h => h) (fun w' hS => by kernel_rfl) sd ?_
  simp only [Act.put, List.setIfInBounds_toArray, List.set_cons_zero, List.set_cons_succ]
  refine hTake 9 (some 40) (.slice (tailA (some ⟨b2, o2, none⟩) c2 4) (L - 4) (c2 - 4)) (by kernel_rfl) (by kernel_rfl) (by kernel_rfl) (by kernel_rfl) (by kernel_rfl) (by kernel_rfl) (fun _ _ _ h => h) (fun w' hS => run_by (Instr.sliceAt 28 (.slice (some ⟨b2, o2, none⟩) L c2) (some (.int .i64 4)) none none) (by kernel_rfl) (rt _)) sd ?_
  simp only [Act.put, List.setIfInBounds_toArray, List.set_cons_zero, List.set_cons_succ]
  refine hCall 7 (some 38) 19 #[.int .u64 ((n + 1 + g : Nat) : Int), .int .i64 4] (by kernel_rfl) (by kernel_rfl) (by kernel_rfl) (by kernel_rfl) (by kernel_rfl) ?_
  refine (number_any 4 ((n + 1 + g : Nat) : Int) _ (by omega) (by omega) (by omega)).mono ?_
  rintro _ w4 ⟨⟨v4, rfl, ho4⟩, hs4⟩
  have s4 : Seen w3 w4 := sd.trans hs4
  rw [be_length] at ho4
  refine ⟨v4, rfl, s4, ?_⟩
  simp only [Act.put, List.setIfInBounds_toArray, List.set_cons_zero, List.set_cons_succ]
  obtain ⟨v5, w5, hr5, ho5, hg5, _⟩ := run_append_src (P := Try.prog) w4 28 28 5 i0 (.int .u8 0) 1 1 Try.underlying28 hi hz0 hz1 hz2 rfl (by decide) w3.drew.heap.size v4 4 _ ho4 (.slice (tailA (some ⟨b2, o2, none⟩) c2 4) (L - 4) (c2 - 4)) (L - 4) (bv (nodesB l)) (HSRC.out w4 s4) (bv_one _) (by unfold maxLen; omega) (by omega) (by have := s4.size; simp; omega)
  have s5 : Seen w3 w5 := Below.grown s4 hg5 s4.size (fun j hj => by have := (ho4.lt j hj).1; simpa using this)
  refine hRun 10 (some 41) (v5) (by kernel_rfl) (by kernel_rfl) (by kernel_rfl) (by kernel_rfl) (run_append_op (.tmp 38) (.tmp 40) (by kernel_rfl) rfl rfl hr5) s5 ?_
  simp only [Act.put, List.setIfInBounds_toArray, List.set_cons_zero, List.set_cons_succ]
  refine hTake 11 (some 8) (v5) (by kernel_rfl) (by kernel_rfl) (by kernel_rfl) (by kernel_rfl) (by kernel_rfl) (by kernel_rfl) (fun _ _ _ h => h) (fun w' hS => by kernel_rfl) s5 ?_
  simp only [Act.put, List.setIfInBounds_toArray, List.set_cons_zero, List.set_cons_succ]
  refine wpAnyH_done (by kernel_rfl) ?_ _
  obtain ⟨M, hM⟩ : ∃ M, 4 + (L - 4) = M := ⟨_, rfl⟩
  have hMM : M ≤ 10000 := by omega
  rw [hM, ← bv_append] at ho5
  have hl5 : (be ((n + 1 + g : Nat) : Int) 4 ++ nodesB l).length = M := by rw [List.length_append, be_length, HNL.out, hM]
  obtain ⟨a5, c5, rfl, hb5, _, hn5⟩ := bs_of_own ho5 hl5
  have S5 : Hid (Seen w w5) := S3.out.trans s5
  have S35 : Hid (Seen w3 w5) := s5
  have R5 := Lib.hid (And.intro hb5 hn5)
  clear hb5 hn5 hr5 ho5 hg5 ho4 s4 s5 sd rt hs4 hl5 hM
  go_upto_region 7 with (first
    | (go_at_call 14; refine (decode_any a5 M c5 _ w5 R5.out.1 ((be_ok _ _).append HB3.out) R5.out.2 (by omega)).mono ?_
       rw [HC1.out]
       rintro _ w6 ⟨v6, rfl, hs6, hn6, _⟩
       obtain rfl := hn6 (by decide)
       have S6 : Hid (Seen w w6) := S5.out.trans hs6
       have S36 : Hid (Seen w3 w6) := S35.out.trans hs6
       clear hs6 hn6 R5)
    | (at_builtin; refine wpList_append_src _ rfl (.tmp 48) (.tmp 49) 28 rfl 5 i0 (.int .u8 0) 1 1 Try.underlying28 hi hz0 hz1 hz2 rfl (by decide) w6.heap.size (.slice (some ⟨w6.heap.size, 0, none⟩) 0 0) 0 [] rfl (World.ownsRow_made w6 #[] 0 (Nat.le_refl _) (Nat.zero_le _) rfl) (.slice (some ⟨b2, o2, none⟩) L c2) L (bv (encT l)) rfl (src_of_bs (R3.out.2.1.seen (S36.out.alloc _)) (fun e => by cases e)) (bv_one _) (by unfold maxLen; omega) (by omega) (by simp) ?_
       intro v7 w7 ho7 hg7 hat7
       have S67 : Hid (Seen w6 w7) := Below.grown ((Seen.refl w6).alloc _) hg7 ((Seen.refl w6).alloc _).size (fun j hj => by simp [Value.ownBlock] at hj; omega)
       have R7 : Hid (w7.ownsRow w6.heap.size 5 1 v7 L (bv (encT l))) := by unfold Hid; simpa using ho7
       clear ho7 hg7 hat7)
    | (at_builtin; refine wpList_append_rows _ rfl (.tmp 50) (.tmp 52) 28 rfl 5 i0 (.int .u8 0) 1 1 Try.underlying28 hi hz0 hz1 hz2 rfl (by decide) w6.heap.size 0 v7 L (bv (encT l)) rfl (R7.out.alloc _) (.slice (some ⟨w7.heap.size, 0, none⟩) 1 1) 1 (bv [bi]) rfl (new_row1 w7 5 bi) (bv_one _) (by unfold maxLen; omega) (by omega) (S67.out.alloc _).size ?_
       intro v75 w75 ho75 hg75 hat75
       have S675 : Hid (Seen w6 w75) := Below.grown (S67.out.alloc _) hg75 (S67.out.alloc _).size (fun j hj => (R7.out.lt j hj).1)
       rw [← bv_append] at ho75
       obtain ⟨a75, c75, rfl, hb75, _, hn75⟩ := bs_of_own ho75 (by rw [List.length_append, HL.out]; rfl)
       have R75 := Lib.hid (And.intro hb75 hn75)
       clear ho75 hg75 hat75 hb75 hn75)
    | (go_at_call 14; refine (decode_any a75 (L + 1) c75 _ w75 R75.out.1 (Bytes8.append (outT_ok _ _) (fun x hx => by rw [List.mem_singleton] at hx; subst hx; exact HOB.out)) R75.out.2 (by omega)).mono ?_
       rw [HC2.out]
       rintro _ w8 ⟨v8, rfl, hs8, hn8, _⟩
       obtain rfl := hn8 (by decide)
       have S8 : Hid (Seen w w8) := S6.out.trans (S675.out.trans hs8)
       have S38 : Hid (Seen w3 w8) := S36.out.trans (S675.out.trans hs8)
       clear hs8 hn8))
  have sd : Seen w3 w8.drew := S38.out.drew
  have rt : ∀ w', (Instr.sliceAt 28 (.slice (some ⟨b2, o2, none⟩) L c2) (some (.int .i64 4)) none none).run Try.prog w' = .ok (.slice (tailA (some ⟨b2, o2, none⟩) c2 4) (L - 4) (c2 - 4)) w' := fun w' => run_tailAt (some ⟨b2, o2, none⟩) L c2 4 (by omega) w'
  have sd8 : Seen w8 w8.drew := (Seen.refl w8).drew
  refine wp_region_held_drew (S := fun w' => Seen w8 w') (by kernel_rfl) sd8 (fun _ => ?_)
  refine hTake 0 (some 57) (.slice a n c) (by kernel_rfl) (by kernel_rfl) (by kernel_rfl) (by kernel_rfl) (by kernel_rfl) (by kernel_rfl) (fun _ _ _ h => h) (fun w' hS => by kernel_rfl) sd8 ?_
  simp only [Act.put, List.setIfInBounds_toArray, List.set_cons_zero, List.set_cons_succ]
  refine hTake 1 (some 58) (.int .i64 n) (by kernel_rfl) (by kernel_rfl) (by kernel_rfl) (by kernel_rfl) (by kernel_rfl) (by kernel_rfl) (fun _ _ _ h => h) (fun w' hS => by kernel_rfl) sd8 ?_
  simp only [Act.put, List.setIfInBounds_toArray, List.set_cons_zero, List.set_cons_succ]
  refine hTake 2 (some 59) (.int .u64 (n : Int)) (by kernel_rfl) (by kernel_rfl) (by kernel_rfl) (by kernel_rfl) (by kernel_rfl) (by kernel_rfl) (fun _ _ _ h => h) (fun w' hS => run_by (convert 3 39 (.int .i64 (n : Int))) (by kernel_rfl) (u64_of n (by omega) _)) sd8 ?_
  simp only [Act.put, List.setIfInBounds_toArray, List.set_cons_zero, List.set_cons_succ]
  refine hTake 3 (some 60) (.int .u64 ((n + 1 : Nat) : Int)) (by kernel_rfl) (by kernel_rfl) (by kernel_rfl) (by kernel_rfl) (by kernel_rfl) (by kernel_rfl) (fun _ _ _ h => h) (fun w' hS => run_by _ (by kernel_rfl) (u64_plus n 1 (n + 1) rfl (by omega) (.tmp 59) (.const (.int .u64 1)) _)) sd8 ?_
  simp only [Act.put, List.setIfInBounds_toArray, List.set_cons_zero, List.set_cons_succ]
  refine hTake 5 (some 62) (.slice (some ⟨b2, o2, none⟩) L c2) (by kernel_rfl) (by kernel_rfl) (by kernel_rfl) (by kernel_rfl) (by kernel_rfl) (by kernel_rfl) (fun _ _ _ h => h) (fun w' hS => by kernel_rfl) sd8 ?_
  simp only [Act.put, List.setIfInBounds_toArray, List.set_cons_zero, List.set_cons_succ]
  refine hTake 6 (some 63) (.slice (tailA (some ⟨b2, o2, none⟩) c2 4) (L - 4) (c2 - 4)) (by kernel_rfl) (by kernel_rfl) (by kernel_rfl) (by kernel_rfl) (by kernel_rfl) (by kernel_rfl) (fun _ _ _ h => h) (fun w' hS => run_by (Instr.sliceAt 28 (.slice (some ⟨b2, o2, none⟩) L c2) (some (.int .i64 4)) none none) (by kernel_rfl) (rt _)) sd8 ?_
  simp only [Act.put, List.setIfInBounds_toArray, List.set_cons_zero, List.set_cons_succ]
  refine hTake 8 (some 65) (.slice a n c) (by kernel_rfl) (by kernel_rfl) (by kernel_rfl) (by kernel_rfl) (by kernel_rfl) (by kernel_rfl) (fun _ _ _ h => h) (fun w' hS => by kernel_rfl) sd8 ?_
  simp only [Act.put, List.setIfInBounds_toArray, List.set_cons_zero, List.set_cons_succ]
  refine hTake 9 (some 66) (.slice a n c) (by kernel_rfl) (by kernel_rfl) (by kernel_rfl) (by kernel_rfl) (by kernel_rfl) (by kernel_rfl) (fun _ _ _ h => h) (fun w' hS => by kernel_rfl) sd8 ?_
  simp only [Act.put, List.setIfInBounds_toArray, List.set_cons_zero, List.set_cons_succ]
  refine hTake 10 (some 67) (.int .i64 n) (by kernel_rfl) (by kernel_rfl) (by kernel_rfl) (by kernel_rfl) (by kernel_rfl) (by kernel_rfl) (fun _ _ _ h => h) (fun w' hS => by kernel_rfl) sd8 ?_
  simp only [Act.put, List.setIfInBounds_toArray, List.set_cons_zero, List.set_cons_succ]
  refine hTake 11 (some 68) (.int .i64 (m : Int)) (by kernel_rfl) (by kernel_rfl) (by kernel_rfl) (by kernel_rfl) (by kernel_rfl) (by kernel_rfl) (fun _ _ _ h => h) (fun w' hS => run_by _ (by kernel_rfl) (i64_less n m HNM.out (by omega) (.tmp 67) (.const (.int .i64 1)) _)) sd8 ?_
  simp only [Act.put, List.setIfInBounds_toArray, List.set_cons_zero, List.set_cons_succ]
  refine hTake 14 (some 71) (.int .u8 (g : Int)) (by kernel_rfl) (by kernel_rfl) (by kernel_rfl) (by kernel_rfl) (by kernel_rfl) (by kernel_rfl) (fun _ _ _ h => h) (fun w' hS => by kernel_rfl) sd8 ?_
  simp only [Act.put, List.setIfInBounds_toArray, List.set_cons_zero, List.set_cons_succ]
  refine hTake 15 (some 72) (.int .u64 (g : Int)) (by kernel_rfl) (by kernel_rfl) (by kernel_rfl) (by kernel_rfl) (by kernel_rfl) (by kernel_rfl) (fun _ _ _ h => h) (fun w' hS => run_by (convert 5 39 (.int .u8 (g : Int))) (by kernel_rfl) (u8_of g (by omega) _)) sd8 ?_
  simp only [Act.put, List.setIfInBounds_toArray, List.set_cons_zero, List.set_cons_succ]
  refine hCall 4 (some 61) 19 #[.int .u64 ((n + 1 : Nat) : Int), .int .i64 4] (by kernel_rfl) (by kernel_rfl) (by kernel_rfl) (by kernel_rfl) (by kernel_rfl) ?_
  refine (number_any 4 ((n + 1 : Nat) : Int) _ (by omega) (by omega) (by omega)).mono ?_
  rintro _ w9 ⟨⟨v9, rfl, ho9⟩, hs9⟩
  have s9 : Seen w8 w9 := sd8.trans hs9
  rw [be_length] at ho9
  refine ⟨v9, rfl, s9, ?_⟩
  simp only [Act.put, List.setIfInBounds_toArray, List.set_cons_zero, List.set_cons_succ]
  obtain ⟨v10, w10, hr10, ho10, hg10, _⟩ := run_append_src (P := Try.prog) w9 28 28 5 i0 (.int .u8 0) 1 1 Try.underlying28 hi hz0 hz1 hz2 rfl (by decide) w8.drew.heap.size v9 4 _ ho9 (.slice (tailA (some ⟨b2, o2, none⟩) c2 4) (L - 4) (c2 - 4)) (L - 4) (bv (nodesB l)) (HSRC.out w9 (S38.out.trans s9)) (bv_one _) (by unfold maxLen; omega) (by omega) (by have := s9.size; simp; omega)
  have s10 : Seen w8 w10 := Below.grown s9 hg10 s9.size (fun j hj => by have := (ho9.lt j hj).1; simpa using this)
  refine hRun 7 (some 64) (v10) (by kernel_rfl) (by kernel_rfl) (by kernel_rfl) (by kernel_rfl) (run_append_op (.tmp 61) (.tmp 63) (by kernel_rfl) rfl rfl hr10) s10 ?_
  simp only [Act.put, List.setIfInBounds_toArray, List.set_cons_zero, List.set_cons_succ]
  refine hCall 12 (some 69) 20 #[.slice a n c, .int .i64 (m : Int)] (by kernel_rfl) (by kernel_rfl) (by kernel_rfl) (by kernel_rfl) (by kernel_rfl) ?_
  refine (HDP.out w10 (S8.out.trans s10)).mono ?_
  rintro _ w11 ⟨rfl, rfl⟩
  refine ⟨_, rfl, s10, ?_⟩
  simp only [Act.put, List.setIfInBounds_toArray, List.set_cons_zero, List.set_cons_succ]
  refine hTake 13 (some 70) (.int .u64 (D : Int)) (by kernel_rfl) (by kernel_rfl) (by kernel_rfl) (by kernel_rfl) (by kernel_rfl) (by kernel_rfl) (fun _ _ _ h => h) (fun w' hS => run_by (convert 3 39 (.int .i64 (D : Int))) (by kernel_rfl) (u64_of D (by omega) _)) s10 ?_
  simp only [Act.put, List.setIfInBounds_toArray, List.set_cons_zero, List.set_cons_succ]
  refine hTake 16 (some 73) (.int .u64 ((D + g : Nat) : Int)) (by kernel_rfl) (by kernel_rfl) (by kernel_rfl) (by kernel_rfl) (by kernel_rfl) (by kernel_rfl) (fun _ _ _ h => h) (fun w' hS => run_by _ (by kernel_rfl) (u64_plus D g (D + g) rfl (by omega) (.tmp 70) (.tmp 72) _)) s10 ?_
  simp only [Act.put, List.setIfInBounds_toArray, List.set_cons_zero, List.set_cons_succ]
  refine hCall 17 (some 74) 19 #[.int .u64 ((D + g : Nat) : Int), .int .i64 4] (by kernel_rfl) (by kernel_rfl) (by kernel_rfl) (by kernel_rfl) (by kernel_rfl) ?_
  refine (number_any 4 ((D + g : Nat) : Int) _ (by omega) (by omega) (by omega)).mono ?_
  rintro _ w12 ⟨⟨v12, rfl, ho12⟩, hs12⟩
  have s12 : Seen w8 w12 := s10.trans hs12
  rw [be_length] at ho12
  refine ⟨v12, rfl, s12, ?_⟩
  simp only [Act.put, List.setIfInBounds_toArray, List.set_cons_zero, List.set_cons_succ]
  obtain ⟨v13, w13, hr13, ho13, hg13, _⟩ := run_append_rows (P := Try.prog) w12 28 28 5 i0 (.int .u8 0) 1 1 Try.underlying28 hi hz0 hz1 hz2 rfl (by decide) w8.drew.heap.size w11.heap.size v10 (4 + (L - 4)) _ (row_seen ho10 hs12) v12 4 _ ho12 (bv_one _) (by unfold maxLen; omega) (by omega) (by have := s12.size; simp; omega)
  have s13 : Seen w8 w13 := Below.grown s12 hg13 s12.size (fun j hj => by have := (ho10.lt j hj).1; simpa using this)
  refine hRun 18 (some 75) (v13) (by kernel_rfl) (by kernel_rfl) (by kernel_rfl) (by kernel_rfl) (run_append_op (.tmp 64) (.tmp 74) (by kernel_rfl) rfl rfl hr13) s13 ?_
  simp only [Act.put, List.setIfInBounds_toArray, List.set_cons_zero, List.set_cons_succ]
  refine hTake 19 (some 13) (v13) (by kernel_rfl) (by kernel_rfl) (by kernel_rfl) (by kernel_rfl) (by kernel_rfl) (by kernel_rfl) (fun _ _ _ h => h) (fun w' hS => by kernel_rfl) s13 ?_
  simp only [Act.put, List.setIfInBounds_toArray, List.set_cons_zero, List.set_cons_succ]
  refine wpAnyH_done (by kernel_rfl) ?_ _
  obtain ⟨M2, hM2⟩ : ∃ M2, 4 + (L - 4) + 4 = M2 := ⟨_, rfl⟩
  have hMM2 : M2 ≤ 10000 := by omega
  have R13 : Hid (w13.ownsRow w8.heap.size 5 1 v13 M2 (bv (be ((n + 1 : Nat) : Int) 4 ++ nodesB l ++ be ((D + g : Nat) : Int) 4))) := by
    unfold Hid
    rw [← hM2, bv_append, bv_append]
    simpa using ho13
  have HM2 : Hid ((be ((n + 1 : Nat) : Int) 4 ++ nodesB l ++ be ((D + g : Nat) : Int) 4).length = M2) := by unfold Hid; rw [List.length_append, List.length_append, be_length, be_length, HNL.out, hM2]
  have S813 : Hid (Seen w8 w13) := s13
  have S13 : Hid (Seen w w13) := S8.out.trans s13
  clear hr10 ho10 hg10 ho9 hs9 s9 s10 sd sd8 rt hr13 ho13 hg13 ho12 hs12 s12 s13 hM2
  have HPL := Lib.hid (refBytes_any (plainK 4) (plain_full (Nat.le_refl 4)) ⟨by decide, by decide⟩)
  have HPE : Hid ((encS (plainK 4)).length ≤ 219) := encS_len (plain_full (Nat.le_refl 4))
  have HPO : Hid (Bytes8 (encS (plainK 4))) := encS_ok _
  obtain ⟨PE, hPE⟩ : ∃ PE, encS (plainK 4) = PE := ⟨_, rfl⟩
  rw [hPE] at HPL HPE HPO
  clear hPE
  obtain ⟨LP, hLP⟩ : ∃ LP, PE.length = LP := ⟨_, rfl⟩
  have hLPle : LP ≤ 219 := by have := HPE.out; omega
  have HLP := Lib.hid hLP
  clear hLP
  go_wp2_with (first
    | (go_at_call 22; refine (plain_any w13).mono ?_; rintro _ w14 ⟨rfl, hs14⟩; have S14 : Hid (Seen w13 w14) := hs14; clear hs14)
    | (go_at_call 21; refine (HPL.out w14).mono ?_; rintro _ w15 ⟨⟨v15, rfl, ho15⟩, hs15⟩; rw [HLP.out] at ho15; have R15 := Lib.hid (And.intro ho15 hs15); clear ho15 hs15)
    | (at_builtin; refine wpList_append_rows _ rfl (.tmp 77) (.tmp 79) 28 rfl 5 i0 (.int .u8 0) 1 1 Try.underlying28 hi hz0 hz1 hz2 rfl (by decide) w8.heap.size w14.heap.size v13 M2 _ rfl (row_seen R13.out (S14.out.trans R15.out.2)) v15 LP (bv PE) rfl R15.out.1 (bv_one _) (by unfold maxLen; omega) (by omega) (S813.out.trans (S14.out.trans R15.out.2)).size ?_
       intro v16 w16 ho16 hg16 hat16
       have S16 : Hid (Seen w8 w16) := Below.grown (S813.out.trans (S14.out.trans R15.out.2)) hg16 (S813.out.trans (S14.out.trans R15.out.2)).size (fun j hj => (R13.out.lt j hj).1)
       rw [← bv_append] at ho16
       obtain ⟨a16, c16, rfl, hb16, _, hn16⟩ := bs_of_own ho16 (by rw [List.length_append, HM2.out, HLP.out])
       have R16 := Lib.hid (And.intro hb16 hn16)
       clear ho16 hg16 hat16 hb16 hn16)
    | (go_at_call 14; refine (decode_any a16 (M2 + LP) c16 _ w16 R16.out.1 ((((be_ok _ _).append HB3.out).append (be_ok _ _)).append HPO.out) R16.out.2 (by omega)).mono ?_
       rw [HC3.out]
       rintro _ w17 ⟨v17, rfl, hs17, hn17, _⟩
       obtain rfl := hn17 (by decide)
       have S17 : Hid (Seen w w17) := S8.out.trans (S16.out.trans hs17)
       clear hs17 hn17))
  go_ret
  exact ⟨rfl, S17.out⟩

/-! ### The row's step. -/
set_option maxRecDepth 100000 in
theorem lifted (os : Os) (started : os.Started) (H : Type) (enc : TypeId × Value → H) :
    ReturnsInHanded {} Try.checked os 6 .any (Rows.treeCountsSpec.pre6 enc Try.prog Try.f6 Rows.treeCountsRow.domain false) (Rows.treeCountsSpec.post enc Try.prog Try.f6 false true false false) := by
  refine returnsInHanded_of_change (C := Try.checked) own started (by kernel_rfl) Try.func6
    (ChangeSpec.witness6 (enc := enc) (C := Try.checked) false ⟨#[], #[.slice none 0 0, .int .u8 0, .int .u8 0], []⟩ 8 (by kernel_rfl) (by kernel_rfl) (by kernel_rfl) (by kernel_rfl)) ?_
  intro W base args ds gs before hval0 hW hcnd _
  have hval : ∀ (j : Nat) t v, Try.f6.params[j]? = some t → args[j]? = some v → Value.okWide Try.prog W .any base t v := hval0
  have hW' := hW
  obtain ⟨p, q, hA0, hV, rfl, hfz, hnd⟩ := hW
  have hA : DataW.TrodAll enc Try.prog W 0 (fun _ => true) true Try.f6.params.toList args.toList ds p := hA0
  rw [Try.params6] at hA hval
  obtain ⟨v0, vs0, d0, ds0, p0, q0, hargs, rfl, rfl, h0, r0⟩ := trodAll_cons hA
  obtain ⟨v1, vs1, d1, ds1, p1, q1, rfl, rfl, rfl, h1, r1⟩ := trodAll_cons r0
  obtain ⟨v2, vs2, d2, ds2, p2, q2, rfl, rfl, rfl, h2, r2⟩ := trodAll_cons r1
  obtain ⟨rfl, rfl, rfl⟩ := trodAll_nil r2
  obtain rfl : args = #[v0, v1, v2] := by cases args; simp_all
  obtain ⟨rfl, rfl⟩ := trodVars_none hV
  have k0 := h0
  have lt0 : ∀ x ∈ p0, x.block < W.heap.size := by obtain ⟨m, hm⟩ := k0; exact DataW.trod_lt m _ _ _ hm
  obtain ⟨a0, len0, cap0, g0, rfl, o0⟩ := open_nodes (hval 0 22 v0 rfl rfl) h0
  have k1 := h1
  have lt1 : ∀ x ∈ p1, x.block < W.heap.size := by obtain ⟨m, hm⟩ := k1; exact DataW.trod_lt m _ _ _ hm
  obtain ⟨g1, rfl, o1⟩ := open_u8 (hval 1 5 v1 rfl rfl) h1
  have k2 := h2
  have lt2 : ∀ x ∈ p2, x.block < W.heap.size := by obtain ⟨m, hm⟩ := k2; exact DataW.trod_lt m _ _ _ hm
  obtain ⟨g2, rfl, o2⟩ := open_u8 (hval 2 5 v2 rfl rfl) h2
  clear hA0 hval0
  refine (walk a0 len0 cap0 g0 g1 g2 W o0 o1 o2).mono fun e W' ⟨he, bel⟩ => ?_
  subst he
  exact ⟨_, rfl, _, _, _, [], _, [], hW', trodAll_mk1 (shut_bool Try.underlying4 _), (trodAll_cons_mk (Below.trod laidOut (by kernel_rfl) (of_decide_eq_true (by kernel_rfl)) k0 bel lt0) (trodAll_cons_mk (Below.trod laidOut (by kernel_rfl) (of_decide_eq_true (by kernel_rfl)) k1 bel lt1) (trodAll_cons_mk (Below.trod laidOut (by kernel_rfl) (of_decide_eq_true (by kernel_rfl)) k2 bel lt2) trodAll_mk0))), rfl, bel.frame _, fun h => by cases h⟩

theorem over : Rows.treeCountsRow.holds Try.pinned (OpenSpec.ofChange Rows.treeCountsSpec) :=
  OpenClaim.holds_of_wide 6 Try.f6 rfl rfl rfl rfl rfl rfl rfl ⟨rfl, rfl, rfl, rfl, rfl⟩ rfl rfl rfl rfl rfl (by kernel_rfl) Try.func6 (by kernel_rfl)
    (of_decide_eq_true (by kernel_rfl)) (by unfold Func.isWrapper; first | (rw [if_pos (by decide +kernel)]; kernel_rfl) | (rw [if_neg (by decide +kernel)]; exact ⟨rfl, rfl⟩))
    (fun os started H enc _ => lifted os started H enc)

/-- The statement. -/
theorem proved : Rows.TreeCountsSaid := over
#print axioms proved
end Go.Proofs.Ythphmhcgnkoigaa.treeCounts
