/- Contract of the reference's length; no conditions beyond those written in each theorem. -/
import Derived.Test.YthphmhcgnkoigaaRefGet
namespace Go.Proofs.Ythphmhcgnkoigaa
open Go.ChangeShapes Go.WideShapes Go.ChangeAt Go.RowKit
set_option maxRecDepth 100000
theorem alloc3 (w : World) (a b c : Obj) : (((w.alloc a).alloc b).alloc c).heap[w.heap.size]? = some a ∧ (((w.alloc a).alloc b).alloc c).heap[w.heap.size + 1]? = some b ∧ (((w.alloc a).alloc b).alloc c).heap[w.heap.size + 1 + 1]? = some c := by
  have h1 := World.alloc_heap_new w a
  have h2 := World.alloc_heap_new (w.alloc a) b
  have h3 := World.alloc_heap_new ((w.alloc a).alloc b) c
  simp only [World.alloc, Array.size_push] at h1 h2 h3 ⊢
  refine ⟨?_, ?_, h3⟩
  · rw [Array.getElem?_push_lt (by simp; omega), ← Array.getElem?_eq_getElem, Array.getElem?_push_lt (by simp), ← Array.getElem?_eq_getElem]; exact h1
  · rw [Array.getElem?_push_lt (by simp), ← Array.getElem?_eq_getElem]; exact h2
theorem hso {w : World} {X Y : Nat} {o : Nat} {v : Value} {r : Option Obj} (h : w.heap[X]? = r) (hne : X ≠ Y) : (w.setCell ⟨Y, o, none⟩ v).heap[X]? = r := (Below.heap_setCell w ⟨Y, o, none⟩ v X hne).trans h
theorem two_results {w V : World} {B C : Nat} {b0 b1 c0 c1 : Value} {tb tc : TypeId} (hB : V.heap[B]? = some (.cells #[b0, b1] tb)) (hC : V.heap[C]? = some (.cells #[c0, c1] tc)) (hne : B ≠ C) (hs : Seen w V) (lB : w.heap.size ≤ B) (lC : w.heap.size ≤ C) (p q r s : Value) :
    ((((V.setCell ⟨B, 0, none⟩ p).setCell ⟨B, 1, none⟩ q).setCell ⟨C, 0, none⟩ r).setCell ⟨C, 1, none⟩ s).drew.heap[B]? = some (.cells #[p, q] tb) ∧
    ((((V.setCell ⟨B, 0, none⟩ p).setCell ⟨B, 1, none⟩ q).setCell ⟨C, 0, none⟩ r).setCell ⟨C, 1, none⟩ s).drew.heap[C]? = some (.cells #[r, s] tc) ∧
    Seen w ((((V.setCell ⟨B, 0, none⟩ p).setCell ⟨B, 1, none⟩ q).setCell ⟨C, 0, none⟩ r).setCell ⟨C, 1, none⟩ s).drew := by
  have h1 : (V.setCell ⟨B, 0, none⟩ p).heap[C]? = some (.cells #[c0, c1] tc) := hso hC (Ne.symm hne)
  have h2 : ((V.setCell ⟨B, 0, none⟩ p).setCell ⟨B, 1, none⟩ q).heap[C]? = some (.cells #[c0, c1] tc) := hso h1 (Ne.symm hne)
  have h3 : ((V.setCell ⟨B, 0, none⟩ p).setCell ⟨B, 1, none⟩ q).heap[B]? = some (.cells #[p, q] tb) := set2 hB
  have h4 : (((V.setCell ⟨B, 0, none⟩ p).setCell ⟨B, 1, none⟩ q).setCell ⟨C, 0, none⟩ r).heap[B]? = some (.cells #[p, q] tb) := hso h3 hne
  have h5 : ((((V.setCell ⟨B, 0, none⟩ p).setCell ⟨B, 1, none⟩ q).setCell ⟨C, 0, none⟩ r).setCell ⟨C, 1, none⟩ s).heap[B]? = some (.cells #[p, q] tb) := hso h4 hne
  have h6 : ((((V.setCell ⟨B, 0, none⟩ p).setCell ⟨B, 1, none⟩ q).setCell ⟨C, 0, none⟩ r).setCell ⟨C, 1, none⟩ s).heap[C]? = some (.cells #[r, s] tc) := set2 h2
  exact ⟨h5, h6, ((((hs.set lB _ _).set lB _ _).set lC _ _).set lC _ _).drew⟩
set_option maxHeartbeats 4000000 in
theorem refLength_any {w : World} {a : Option Addr} {N c : Nat} {t : St} (h : RV w a N c t) :
    Calls Try.prog 55 #[.agg #[.slice a N c, .bool t.bad]] w fun e w' => ∃ a' N' c', e = .returned (.tuple #[.agg #[.int .i64 (lnV t).k, .int .i64 (lnV t).n], .agg #[.slice a' N' c', .bool (lnS t).bad]]) ∧ Seen w w' ∧ (∀ W, RV W a N c t → RV W a' N' c' (lnS t)) := by
  obtain ⟨W, hW⟩ : ∃ W, W = ((w.alloc (.cells #[.slice a N c, .bool t.bad] 67)).alloc (.cells #[.int .i64 0, .int .i64 0] 43)).alloc (.cells #[.slice none 0 0, .bool false] 67) := ⟨_, rfl⟩
  have S0 : Hid (Seen w W) := by rw [hW]; exact (((Seen.refl w).alloc _).alloc _).alloc _
  obtain ⟨hA, hB, hC⟩ := alloc3 w (.cells #[.slice a N c, .bool t.bad] 67) (.cells #[.int .i64 0, .int .i64 0] 43) (.cells #[.slice none 0 0, .bool false] 67)
  rw [← hW] at hA hB hC
  have HA := Lib.hid hA
  have HB := Lib.hid hB
  have HC := Lib.hid hC
  have HR := Lib.hid (h.seen S0.out)
  have H0 := Lib.hid h
  have hk01 := tk1_lt h.ok
  obtain ⟨k, hk⟩ : ∃ k, tkV 1 t.l = k := ⟨_, rfl⟩
  rw [hk] at hk01
  obtain ⟨hk0, hk1⟩ := hk01
  have HKk := Lib.hid hk
  have hwr : IntKind.i64.wrap k = k := by rw [IntKind.wrap_i64]; omega
  clear h hk hA hB hC
  have A0 : Hid (∀ w1, Seen W w1 → w1.heap[w.heap.size]? = some (.cells #[.slice a N c, .bool t.bad] 67) ∧ w1.heap[w.heap.size + 1]? = some (.cells #[.int .i64 0, .int .i64 0] 43) ∧ w1.heap[w.heap.size + 1 + 1]? = some (.cells #[.slice none 0 0, .bool false] 67)) := fun w1 hs => ⟨(hs.block _ (heap_lt HA.out)).trans HA.out, (hs.block _ (heap_lt HB.out)).trans HB.out, (hs.block _ (heap_lt HC.out)).trans HC.out⟩
  cases hz : (k == 0)
  · have hz' : Hid (k ≠ 0) := by simpa [Hid] using hz
    go_enter Try.func55, Try.ntmps55
    go_wp2_with (first
      | (go_at_call 36; rw [← hW]; clear hW; refine (HR.out.take 1 (by omega) (by omega)).mono ?_; rintro _ w1 ⟨a1, N1, c1, rfl, hs1, hr1⟩; rw [HKk.out]
         have S1 := Lib.hid hs1
         have R1 := Lib.hid hr1
         have X1 := Lib.hid (A0.out w1 hs1)
         obtain ⟨x0, x1, xf, xl⟩ := cells2 X1.out.1
         clear hs1 hr1)
      | (go_at_call 56; refine (refEight_any (R1.out _ (H0.out.seen (((((S0.out.trans S1.out).set (Nat.le_refl _) _ _).set (Nat.le_refl _) _ _).alloc _))))).mono ?_; rintro _ w2 ⟨a2, N2, c2, rfl, hs2, hr2⟩
         have R2 := Lib.hid hr2
         have S2 := Lib.hid ((((((S0.out.trans S1.out).set (Nat.le_refl _) _ _).set (Nat.le_refl _) _ _).alloc _)).trans hs2)
         have YA : Hid (w2.heap[w.heap.size]? = some (.cells #[.slice a1 N1 c1, .bool (adv 1 t).bad] 67)) := (hs2.block _ (by simp [World.setCell]; omega)).trans ((Below.heap_alloc _ _ _ (by simp [World.setCell]; omega)).trans (set2 X1.out.1))
         have YB : Hid (w2.heap[w.heap.size + 1]? = some (.cells #[.int .i64 0, .int .i64 0] 43)) := (hs2.block _ (by have := heap_lt X1.out.2.1; simp [World.setCell]; omega)).trans ((Below.heap_alloc _ _ _ (by have := heap_lt X1.out.2.1; simp [World.setCell]; omega)).trans ((Below.heap_setCell _ ⟨w.heap.size, 1, none⟩ _ _ (by show _ ≠ w.heap.size; omega)).trans ((Below.heap_setCell _ ⟨w.heap.size, 0, none⟩ _ _ (by show _ ≠ w.heap.size; omega)).trans X1.out.2.1)))
         have YC : Hid (w2.heap[w.heap.size + 1 + 1]? = some (.cells #[.slice none 0 0, .bool false] 67)) := (hs2.block _ (by have := heap_lt X1.out.2.2; simp [World.setCell]; omega)).trans ((Below.heap_alloc _ _ _ (by have := heap_lt X1.out.2.2; simp [World.setCell]; omega)).trans ((Below.heap_setCell _ ⟨w.heap.size, 1, none⟩ _ _ (by show _ ≠ w.heap.size; omega)).trans ((Below.heap_setCell _ ⟨w.heap.size, 0, none⟩ _ _ (by show _ ≠ w.heap.size; omega)).trans X1.out.2.2)))
         have YD : Hid (w2.heap[w1.heap.size]? = some (.cells #[.int .i64 k, .int .i64 0] 43)) := by
           have hn := World.alloc_heap_new ((w1.setCell ⟨w.heap.size, 0, none⟩ (.slice a1 N1 c1)).setCell ⟨w.heap.size, 1, none⟩ (.bool (adv 1 t).bad)) (.cells #[.int .i64 k, .int .i64 0] 43)
           rw [show ((w1.setCell ⟨w.heap.size, 0, none⟩ (.slice a1 N1 c1)).setCell ⟨w.heap.size, 1, none⟩ (.bool (adv 1 t).bad)).heap.size = w1.heap.size by simp [World.setCell]] at hn
           exact (hs2.block _ (heap_lt hn)).trans hn
         have lC := heap_lt X1.out.2.2
         obtain ⟨ya0, ya1, yaf, yal⟩ := cells2 YA.out
         obtain ⟨yb0, yb1, ybf, ybl⟩ := cells2 YB.out
         obtain ⟨yc0, yc1, ycf, ycl⟩ := cells2 YC.out
         obtain ⟨yd0, yd1, ydf, ydl⟩ := cells2 YD.out
         clear hs2 hr2 x0 x1 xf xl))
    go_region
    all_goals
      go_wp2_with fail
      obtain ⟨e1, e2⟩ := lnV_more HKk.out hz'.out
      rw [e1, e2]
      have v1 : (w2.setCell ⟨w1.heap.size, 1, none⟩ (.int .i64 (n8 (adv 1 t)))).heap[w.heap.size + 1]? = some (.cells #[.int .i64 0, .int .i64 0] 43) := hso YB.out (by omega)
      have v2 : ((w2.setCell ⟨w1.heap.size, 1, none⟩ (.int .i64 (n8 (adv 1 t)))).setCell ⟨w.heap.size, 0, none⟩ (.slice a2 N2 c2)).heap[w.heap.size + 1]? = some (.cells #[.int .i64 0, .int .i64 0] 43) := hso v1 (by omega)
      have u1 : (w2.setCell ⟨w1.heap.size, 1, none⟩ (.int .i64 (n8 (adv 1 t)))).heap[w.heap.size + 1 + 1]? = some (.cells #[.slice none 0 0, .bool false] 67) := hso YC.out (by omega)
      have u2 : ((w2.setCell ⟨w1.heap.size, 1, none⟩ (.int .i64 (n8 (adv 1 t)))).setCell ⟨w.heap.size, 0, none⟩ (.slice a2 N2 c2)).heap[w.heap.size + 1 + 1]? = some (.cells #[.slice none 0 0, .bool false] 67) := hso u1 (by omega)
      have hE := two_results (w := w) (V := ((w2.setCell ⟨w1.heap.size, 1, none⟩ (.int .i64 (n8 (adv 1 t)))).setCell ⟨w.heap.size, 0, none⟩ (.slice a2 N2 c2)).setCell ⟨w.heap.size, 1, none⟩ (.bool (adv 8 (adv 1 t)).bad)) (hso v2 (by omega)) (hso u2 (by omega)) (by omega)
        (((S2.out.set (by omega) _ _).set (by omega) _ _).set (by omega) _ _) (by omega) (by omega) (.int .i64 k) (.int .i64 (n8 (adv 1 t))) (.slice a2 N2 c2) (.bool (adv 8 (adv 1 t)).bad)
      refine bodyPost_ret (results_cells Try.results55 rfl rfl (run_loadL hE.1) (run_loadI hE.2.1)) rfl ?_
      exact ⟨a2, N2, c2, rfl, hE.2.2, fun V hV => R2.out V (R1.out V hV)⟩
  · have hz' : Hid (k = 0) := by simpa [Hid] using hz
    go_enter Try.func55, Try.ntmps55
    go_wp2_with (first
      | (go_at_call 36; rw [← hW]; clear hW; refine (HR.out.take 1 (by omega) (by omega)).mono ?_; rintro _ w1 ⟨a1, N1, c1, rfl, hs1, hr1⟩; rw [HKk.out]
         have S1 := Lib.hid hs1
         have R1 := Lib.hid hr1
         have X1 := Lib.hid (A0.out w1 hs1)
         obtain ⟨x0, x1, xf, xl⟩ := cells2 X1.out.1
         clear hs1 hr1))
    obtain ⟨V, hV⟩ : ∃ V, V = ((w1.setCell ⟨w.heap.size, 0, none⟩ (.slice a1 N1 c1)).setCell ⟨w.heap.size, 1, none⟩ (.bool (adv 1 t).bad)).alloc (.cells #[.int .i64 k, .int .i64 0] 43) := ⟨_, rfl⟩
    have SV : Hid (Seen w V) := by rw [hV]; exact ((((S0.out.trans S1.out).set (Nat.le_refl _) _ _).set (Nat.le_refl _) _ _).alloc _)
    have lB := heap_lt X1.out.2.1
    have lC := heap_lt X1.out.2.2
    have YA : Hid (V.heap[w.heap.size]? = some (.cells #[.slice a1 N1 c1, .bool (adv 1 t).bad] 67)) := by rw [hV]; exact (Below.heap_alloc _ _ _ (by simp [World.setCell]; omega)).trans (set2 X1.out.1)
    have YB : Hid (V.heap[w.heap.size + 1]? = some (.cells #[.int .i64 0, .int .i64 0] 43)) := by rw [hV]; exact (Below.heap_alloc _ _ _ (by simp [World.setCell]; omega)).trans (hso (hso X1.out.2.1 (by omega)) (by omega))
    have YC : Hid (V.heap[w.heap.size + 1 + 1]? = some (.cells #[.slice none 0 0, .bool false] 67)) := by rw [hV]; exact (Below.heap_alloc _ _ _ (by simp [World.setCell]; omega)).trans (hso (hso X1.out.2.2 (by omega)) (by omega))
    have YD : Hid (V.heap[w1.heap.size]? = some (.cells #[.int .i64 k, .int .i64 0] 43)) := by
      rw [hV]
      have hn := World.alloc_heap_new ((w1.setCell ⟨w.heap.size, 0, none⟩ (.slice a1 N1 c1)).setCell ⟨w.heap.size, 1, none⟩ (.bool (adv 1 t).bad)) (.cells #[.int .i64 k, .int .i64 0] 43)
      rw [show ((w1.setCell ⟨w.heap.size, 0, none⟩ (.slice a1 N1 c1)).setCell ⟨w.heap.size, 1, none⟩ (.bool (adv 1 t).bad)).heap.size = w1.heap.size by simp [World.setCell]] at hn
      exact hn
    rw [← hV]
    clear hV x0 x1 xf xl
    obtain ⟨ya0, ya1, yaf, yal⟩ := cells2 YA.out
    obtain ⟨yb0, yb1, ybf, ybl⟩ := cells2 YB.out
    obtain ⟨yc0, yc1, ycf, ycl⟩ := cells2 YC.out
    obtain ⟨yd0, yd1, ydf, ydl⟩ := cells2 YD.out
    go_region
    all_goals
      go_wp2_with fail
      obtain ⟨e1, e2⟩ := lnV_zero (HKk.out.trans hz'.out)
      rw [e1, e2]
      have hE := two_results (w := w) (V := V) YB.out YC.out (by omega) SV.out (by omega) (by omega) (.int .i64 k) (.int .i64 0) (.slice a1 N1 c1) (.bool (adv 1 t).bad)
      refine bodyPost_ret (results_cells Try.results55 rfl rfl (run_loadL hE.1) (run_loadI hE.2.1)) rfl ?_
      exact ⟨a1, N1, c1, by rw [hz'.out], hE.2.2, R1.out⟩
end Go.Proofs.Ythphmhcgnkoigaa
