/- Contract of the reference's four; no conditions beyond those written in each theorem. -/
import Derived.Test.YthphmhcgnkoigaaRefLen
import Derived.Test.YthphmhcgnkoigaaHand
namespace Go.Proofs.Ythphmhcgnkoigaa
open Go.ChangeShapes Go.WideShapes Go.ChangeAt Go.RowKit
set_option maxRecDepth 100000
/-- Cells stored into a block that is known whole. -/
theorem run_storeC {w : World} {X o : Nat} {ty t : TypeId} {vs cs : List Value} (hb : w.heap[X]? = some (.cells cs.toArray t)) (hn : o + vs.length ≤ cs.length) (hi : (Try.prog.info? ty).map (·.size) = some vs.length) (h1 : ∀ u ∈ vs, u.oneCell' = true) :
    (Instr.storeAt ty (.pointer (some ⟨X, o, none⟩)) (.agg vs.toArray)).run Try.prog w = .ok () (w.setCells X o vs) := by
  have := run_storeAt_mid (P := Try.prog) w X o ty vs.toArray (by simpa using there_block hb hn) (by simpa using hi) (all_oneCell_toArray h1)
  simpa using this
theorem run_loadAt_by {w : World} {X : Nat} {ty : TypeId} {v : Value} (h : (loadVar ty ⟨X, 0, none⟩).run Try.prog w = .ok v w) : (Instr.loadAt ty (.pointer (some ⟨X, 0, none⟩))).run Try.prog w = .ok v w := by
  simp only [Instr.loadAt, Instr.sureAddr, Sem.run_bind, Sem.run_pure, Result.andThen_ok, h]
/-- While four runs. -/
structure FI (w : World) (a : Option Addr) (N c : Nat) (t : St) (k : Nat) (a' : Option Addr) (N' c' : Nat) (wr : World) : Prop where
  seen : Seen w wr
  rv : ∀ V, RV V a N c t → RV V a' N' c' (lnsS k t)
  blkA : wr.heap[w.heap.size]? = some (.cells #[.slice a' N' c', .bool (lnsS k t).bad] 67)
  blkB : wr.heap[w.heap.size + 1]? = some (.cells (flatL (List.replicate 4 ⟨0, 0⟩)).toArray 44)
  blkC : wr.heap[w.heap.size + 1 + 1]? = some (.cells #[.slice none 0 0, .bool false] 67)
  blkD : wr.heap[w.heap.size + 1 + 1 + 1]? = some (.cells (flatL (lnsV k t ++ List.replicate (4 - k) ⟨0, 0⟩)).toArray 44)
theorem alloc_at {w : World} {X : Nat} {r : Obj} (h : w.heap[X]? = some r) (o : Obj) : (w.alloc o).heap[X]? = some r := (Below.heap_alloc w o X (heap_lt h)).trans h
theorem alloc_size (w : World) (o : Obj) : (w.alloc o).heap.size = w.heap.size + 1 := by simp
theorem FI.start (w : World) (a : Option Addr) (N c : Nat) (t : St) :
    FI w a N c t 0 a N c ((((w.alloc (.cells #[.slice a N c, .bool t.bad] 67)).alloc (.cells (flatL (List.replicate 4 ⟨0, 0⟩)).toArray 44)).alloc (.cells #[.slice none 0 0, .bool false] 67)).alloc (.cells (flatL (List.replicate 4 ⟨0, 0⟩)).toArray 44)) := by
  have h1 := World.alloc_heap_new w (.cells #[.slice a N c, .bool t.bad] 67)
  have h2 := World.alloc_heap_new (w.alloc (.cells #[.slice a N c, .bool t.bad] 67)) (.cells (flatL (List.replicate 4 ⟨0, 0⟩)).toArray 44)
  have h3 := World.alloc_heap_new ((w.alloc (.cells #[.slice a N c, .bool t.bad] 67)).alloc (.cells (flatL (List.replicate 4 ⟨0, 0⟩)).toArray 44)) (.cells #[.slice none 0 0, .bool false] 67)
  have h4 := World.alloc_heap_new (((w.alloc (.cells #[.slice a N c, .bool t.bad] 67)).alloc (.cells (flatL (List.replicate 4 ⟨0, 0⟩)).toArray 44)).alloc (.cells #[.slice none 0 0, .bool false] 67)) (.cells (flatL (List.replicate 4 ⟨0, 0⟩)).toArray 44)
  rw [alloc_size] at h2
  rw [alloc_size, alloc_size] at h3
  rw [alloc_size, alloc_size, alloc_size] at h4
  exact ⟨((((Seen.refl w).alloc _).alloc _).alloc _).alloc _, fun V h => h, alloc_at (alloc_at (alloc_at h1 _) _) _, alloc_at (alloc_at h2 _) _, alloc_at h3 _, h4⟩
/-- A round. -/
theorem FI.step {w wr w2 : World} {a a' a2 : Option Addr} {N c N' c' N2 c2 : Nat} {t : St} {k : Nat} (h : FI w a N c t k a' N' c' wr) (hk : k < 4) (hs : Seen wr w2) (hr : ∀ V, RV V a' N' c' (lnsS k t) → RV V a2 N2 c2 (lnS (lnsS k t))) :
    FI w a N c t (k + 1) a2 N2 c2 ((((w2.setCell ⟨w.heap.size + 1 + 1 + 1, k * 2, none⟩ (.int .i64 (lnV (lnsS k t)).k)).setCell ⟨w.heap.size + 1 + 1 + 1, k * 2 + 1, none⟩ (.int .i64 (lnV (lnsS k t)).n)).setCell ⟨w.heap.size, 0, none⟩ (.slice a2 N2 c2)).setCell ⟨w.heap.size, 1, none⟩ (.bool (lnS (lnsS k t)).bad)) := by
  have kA := (hs.block _ (heap_lt h.blkA)).trans h.blkA
  have kB := (hs.block _ (heap_lt h.blkB)).trans h.blkB
  have kC := (hs.block _ (heap_lt h.blkC)).trans h.blkC
  have kD := (hs.block _ (heap_lt h.blkD)).trans h.blkD
  refine ⟨((((h.seen.trans hs).set (by omega) _ _).set (by omega) _ _).set (by omega) _ _).set (by omega) _ _, fun V hV => hr V (h.rv V hV), ?_, ?_, ?_, ?_⟩
  · exact set2 (hso (hso kA (by omega)) (by omega))
  · exact hso (hso (hso (hso kB (by omega)) (by omega)) (by omega)) (by omega)
  · exact hso (hso (hso (hso kC (by omega)) (by omega)) (by omega)) (by omega)
  · exact hso (hso (Hs.set (Hs.set kD _ _ rfl) _ _ (four_step (lnV (lnsS k t)) (lnsV_length k t) hk)) (by omega)) (by omega)
set_option maxHeartbeats 4000000 in
theorem refFour_any {w : World} {a : Option Addr} {N c : Nat} {t : St} (h : RV w a N c t) :
    Calls Try.prog 54 #[.agg #[.slice a N c, .bool t.bad]] w fun e w' => ∃ a' N' c', e = .returned (.tuple #[.agg (flatL (lnsV 4 t)).toArray, .agg #[.slice a' N' c', .bool (lnsS 4 t).bad]]) ∧ Seen w w' ∧ (∀ W, RV W a N c t → RV W a' N' c' (lnsS 4 t)) := by
  have H0 := Lib.hid h
  have HS := Lib.hid (FI.start w a N c t)
  obtain ⟨W, hW⟩ : ∃ W, W = (((w.alloc (.cells #[.slice a N c, .bool t.bad] 67)).alloc (.cells (flatL (List.replicate 4 ⟨0, 0⟩)).toArray 44)).alloc (.cells #[.slice none 0 0, .bool false] 67)).alloc (.cells (flatL (List.replicate 4 ⟨0, 0⟩)).toArray 44) := ⟨_, rfl⟩
  rw [← hW] at HS
  clear h
  go_enter Try.func54, Try.ntmps54
  go_wp2_with fail
  rw [zero4, ← hW]
  clear hW
  go_loopw [6] (fun i wr => ∃ k : Nat, k ≤ 4 ∧ i = .int .i64 k ∧ ∃ a' N' c', FI w a N c t k a' N' c' wr) (fun i _ => 4 - (intOf i).toNat)
  case atStart => exact ⟨0, Nat.zero_le _, rfl, a, N, c, HS.out⟩
  case round =>
    obtain ⟨k, hk, rfl, a1, N1, c1, hf⟩ := hrel
    have F := Lib.hid hf
    clear hf HS
    obtain ⟨x0, x1, xf, xl⟩ := cells2 F.out.blkA
    by_cases hlt : k < 4
    · have hk' : (k : Int) < 4 := by omega
      have hlen : Hid ((lnsV k t ++ List.replicate (4 - k) (⟨0, 0⟩ : Ln)).length = 4) := by unfold Hid; rw [List.length_append, lnsV_length, List.length_replicate]; omega
      go_wp2_with (go_at_call 55; refine (refLength_any (F.out.rv _ (H0.out.seen F.out.seen))).mono ?_; rintro _ w2 ⟨a2, N2, c2, rfl, hs2, hr2⟩
                   have S2 := Lib.hid hs2
                   have R2 := Lib.hid hr2
                   obtain ⟨z0, z1, zf, zl⟩ := cells2 ((hs2.block _ (heap_lt F.out.blkA)).trans F.out.blkA)
                   have Y2 : Hid (w2.heap[w.heap.size + 1 + 1 + 1]? = some (.cells (flatL (lnsV k t ++ List.replicate (4 - k) ⟨0, 0⟩)).toArray 44)) := (hs2.block _ (heap_lt F.out.blkD)).trans F.out.blkD
                   obtain ⟨y0, y1⟩ := flatL_at (l := lnsV k t ++ List.replicate (4 - k) ⟨0, 0⟩) (i := k) (by rw [hlen.out]; exact hlt)
                   have c0 := range_block Y2.out _ _ y0
                   have c1' := range_block Y2.out _ _ y1
                   rw [Nat.zero_add] at c0 c1'
                   have f0 : ∀ o, w2.frozen? ⟨w.heap.size + 1 + 1 + 1, o, none⟩ = false := fun o => by simp [World.frozen?, Y2.out]
                   clear hs2 hr2 y0 y1 x0 x1 xf xl)
      exact ⟨⟨k + 1, hlt, by go_num, a2, N2, c2, F.out.step hlt S2.out R2.out⟩, by simp [intOf]; omega⟩
    · have hk' : ¬ (k : Int) < 4 := by omega
      obtain rfl : k = 4 := by omega
      have hD : Hid (wr.heap[w.heap.size + 1 + 1 + 1]? = some (.cells (flatL (lnsV 4 t)).toArray 44)) := by unfold Hid; simpa using F.out.blkD
      have hl4 : Hid ((flatL (lnsV 4 t)).length = 8) := by unfold Hid; rw [flatL_length, lnsV_length]
      have hi4 : Hid ((Try.prog.info? 44).map (·.size) = some (flatL (lnsV 4 t)).length) := by unfold Hid; rw [hl4.out]; exact info24
      go_wp2_with fail
      have hS0 : wr.drew.heap[w.heap.size + 1 + 1 + 1]? = some (.cells (flatL (lnsV 4 t)).toArray 44) ∧ wr.drew.heap[w.heap.size]? = some (.cells #[.slice a1 N1 c1, .bool (lnsS 4 t).bad] 67) := ⟨hD.out, F.out.blkA⟩
      refine wp_region_held_drew (S := fun w' => w'.heap[w.heap.size + 1 + 1 + 1]? = some (.cells (flatL (lnsV 4 t)).toArray 44) ∧ w'.heap[w.heap.size]? = some (.cells #[.slice a1 N1 c1, .bool (lnsS 4 t).bad] 67)) (by kernel_rfl) hS0 (fun _ => ?_)
      refine hTake 0 (some 17) (.agg (flatL (lnsV 4 t)).toArray) (by kernel_rfl) (by kernel_rfl) (by kernel_rfl) (by kernel_rfl) (by kernel_rfl) (by kernel_rfl) (fun _ _ _ h => h) (fun w' hS => run_by (Instr.loadAt 44 (.pointer (some ⟨w.heap.size + 1 + 1 + 1, 0, none⟩))) (by kernel_rfl) (run_loadAt_by (run_load4 hS.1 (lnsV_length 4 t)))) hS0 ?_
      simp only [Act.put, List.setIfInBounds_toArray, List.set_cons_zero, List.set_cons_succ]
      refine hTake 1 (some 18) (.agg #[.slice a1 N1 c1, .bool (lnsS 4 t).bad]) (by kernel_rfl) (by kernel_rfl) (by kernel_rfl) (by kernel_rfl) (by kernel_rfl) (by kernel_rfl) (fun _ _ _ h => h) (fun w' hS => run_by (Instr.loadAt 67 (.pointer (some ⟨w.heap.size, 0, none⟩))) (by kernel_rfl) (run_loadAt_by (run_loadI hS.2))) hS0 ?_
      simp only [Act.put, List.setIfInBounds_toArray, List.set_cons_zero, List.set_cons_succ]
      have kB : wr.drew.heap[w.heap.size + 1]? = some (.cells (flatL (List.replicate 4 ⟨0, 0⟩)).toArray 44) := F.out.blkB
      have e1 := run_storeC (ty := 44) (o := 0) (vs := flatL (lnsV 4 t)) kB (by rw [hl4.out]; simp [flatL_length]) hi4.out (flatL_one _)
      have t1 := turns_sets wr.drew (w.heap.size + 1) 0 (flatL (lnsV 4 t))
      have hB1 := block_sets kB 0 (flatL (lnsV 4 t)) (setsL_mid [] (flatL (List.replicate 4 ⟨0, 0⟩)) [] (flatL (lnsV 4 t)) (by rw [hl4.out]; rfl))
      have q1 : (wr.drew.setCells (w.heap.size + 1) 0 (flatL (lnsV 4 t))).heap[w.heap.size + 1 + 1 + 1]? = some (.cells (flatL (lnsV 4 t)).toArray 44) := (t1.block _ (heap_lt hS0.1) (by omega)).trans hS0.1
      have q2 : (wr.drew.setCells (w.heap.size + 1) 0 (flatL (lnsV 4 t))).heap[w.heap.size]? = some (.cells #[.slice a1 N1 c1, .bool (lnsS 4 t).bad] 67) := (t1.block _ (heap_lt hS0.2) (by omega)).trans hS0.2
      have q3 : (wr.drew.setCells (w.heap.size + 1) 0 (flatL (lnsV 4 t))).heap[w.heap.size + 1 + 1]? = some (.cells #[.slice none 0 0, .bool false] 67) := (t1.block _ (heap_lt F.out.blkC) (by omega)).trans F.out.blkC
      obtain ⟨V, hV⟩ : ∃ V, V = wr.drew.setCells (w.heap.size + 1) 0 (flatL (lnsV 4 t)) := ⟨_, rfl⟩
      rw [← hV] at e1 t1 hB1 q1 q2 q3
      refine hSkip 2 none (by kernel_rfl) (by kernel_rfl) (by kernel_rfl) (by kernel_rfl) (run_skip_by (Instr.storeAt 44 (.pointer (some ⟨w.heap.size + 1, 0, none⟩)) (.agg (flatL (lnsV 4 t)).toArray)) (by kernel_rfl) e1) ⟨q1, q2⟩ ?_
      have e2 := run_storeC (ty := 67) (o := 0) (vs := [.slice a1 N1 c1, .bool (lnsS 4 t).bad]) (cs := [.slice none 0 0, .bool false]) q3 (by simp) (by kernel_rfl) (by simp [Value.oneCell'])
      have t2 := turns_sets V (w.heap.size + 1 + 1) 0 [.slice a1 N1 c1, .bool (lnsS 4 t).bad]
      have hC2 := block_sets (cs := [.slice none 0 0, .bool false]) q3 0 [.slice a1 N1 c1, .bool (lnsS 4 t).bad] rfl
      obtain ⟨V2, hV2⟩ : ∃ V2, V2 = V.setCells (w.heap.size + 1 + 1) 0 [.slice a1 N1 c1, .bool (lnsS 4 t).bad] := ⟨_, rfl⟩
      rw [← hV2] at e2 t2 hC2
      refine hSkip 3 none (by kernel_rfl) (by kernel_rfl) (by kernel_rfl) (by kernel_rfl) (run_skip_by (Instr.storeAt 67 (.pointer (some ⟨w.heap.size + 1 + 1, 0, none⟩)) (.agg #[.slice a1 N1 c1, .bool (lnsS 4 t).bad])) (by kernel_rfl) e2) ⟨(t2.block _ (heap_lt q1) (by omega)).trans q1, (t2.block _ (heap_lt q2) (by omega)).trans q2⟩ ?_
      refine wpAnyH_done (by kernel_rfl) ?_ _
      have hB2 : V2.heap[w.heap.size + 1]? = some (.cells (flatL (lnsV 4 t)).toArray 44) := (t2.block _ (heap_lt hB1) (by omega)).trans (by simpa using hB1)
      have SV : Seen w V2 := ((F.out.seen.drew).turns t1 (by omega)).turns t2 (by omega)
      clear hV hV2
      go_wp2_with fail
      refine bodyPost_ret (results_cells Try.results54 rfl rfl (run_load4 hB2 (lnsV_length 4 t)) (run_loadI hC2)) rfl ?_
      exact ⟨a1, N1, c1, rfl, SV, F.out.rv⟩
end Go.Proofs.Ythphmhcgnkoigaa
