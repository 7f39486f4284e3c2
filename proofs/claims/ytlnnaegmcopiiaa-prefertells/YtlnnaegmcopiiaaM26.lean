/- Texts of the proof, merged: KinOf. -/
import Derived.Test.YtlnnaegmcopiiaaM25
import Derived.Test.YtlnnaegmcopiiaaM22
import Derived.Deep.DeepCutAuto
/- Contract of Of of package kin; no conditions beyond those written in each theorem. -/
namespace Go.Proofs.Ytlnnaegmcopiiaa
open Go.ChangeShapes Go.WideShapes Go.ChangeAt Go.RowKit
set_option maxRecDepth 100000
/-- Two operations alone may come up; each gives a value. -/
theorem hRun2 {P : Program} {ops : Array Oper} {Q : Exit → Act → World → Prop} {md : Region.Mode} {S : World → Prop} (i j : Nat) (di dj : Option Tmp) (vi vj : Value) {fuel : Nat} {listed : Array Bool} {a : Act} {w wi wj : World}
    (hli : decide (i < ops.size) = true) (hlj : decide (j < ops.size) = true) (hdi : (opN ops i).dst = di) (hdj : (opN ops j).dst = dj)
    (hr : Region.ready md ops listed = [i, j]) (hwi : Region.wanted (opN ops i) (yielded ops a.tmps) = true) (hwj : Region.wanted (opN ops j) (yielded ops a.tmps) = true)
    (hxi : (execOp a.eval (opN ops i)).run P w = .ok (.value vi) wi) (hxj : (execOp a.eval (opN ops j)).run P w = .ok (.value vj) wj) (hSi : S wi) (hSj : S wj)
    (hi : wpAnyH P md ops Q S fuel (listed.setIfInBounds i true) (a.put di vi) wi) (hj : wpAnyH P md ops Q S fuel (listed.setIfInBounds j true) (a.put dj vj) wj) : wpAnyH P md ops Q S (fuel + 1) listed a w := by
  subst hdi
  subst hdj
  refine wpAnyH_ready hr (by simp) (AllReadyH.cons (opN_at hli) (fun K hK => ?_) (AllReadyH.cons (opN_at hlj) (fun K hK => ?_) AllReadyH.nil))
  · rw [if_pos hwi]
    unfold Oper.wp
    rw [hxi, Oper.upon_value]
    exact hK.out _ _ hSi (fun _ => hi)
  · rw [if_pos hwj]
    unfold Oper.wp
    rw [hxj, Oper.upon_value]
    exact hK.out _ _ hSj (fun _ => hj)
/-- A list whose first k elements are laid. -/
def upd {α : Type} (n : Nat) (f : Nat → α) (z : α) (k : Nat) : List α := (List.range n).map fun i => if i < k then f i else z
theorem upd_length {α : Type} (n : Nat) (f : Nat → α) (z : α) (k : Nat) : (upd n f z k).length = n := by simp [upd]
theorem upd_at {α : Type} (n : Nat) (f : Nat → α) (z : α) (k i : Nat) : (upd n f z k)[i]? = if i < n then some (if i < k then f i else z) else none := by
  unfold upd
  rw [List.getElem?_map]
  split
  · rename_i h; rw [List.getElem?_range h]; rfl
  · rename_i h; rw [List.getElem?_eq_none (by simpa using h)]; rfl
theorem upd_zero {α : Type} (n : Nat) (f : Nat → α) (z : α) : List.replicate n z = upd n f z 0 := by
  apply List.ext_getElem?
  intro i
  rw [upd_at, List.getElem?_replicate]
  simp
theorem upd_set {α : Type} {n : Nat} {f : Nat → α} {z : α} {k : Nat} (hk : k < n) : (upd n f z k).set k (f k) = upd n f z (k + 1) := by
  apply List.ext_getElem?
  intro i
  rw [List.getElem?_set, upd_at, upd_at, upd_length]
  by_cases hi : k = i
  · subst hi
    rw [if_pos rfl, if_pos hk, if_pos hk, if_pos (by omega)]
  · rw [if_neg hi]
    have : (i < k) = (i < k + 1) := propext ⟨fun h => by omega, fun h => by omega⟩
    simp only [this]
theorem upd_all {α : Type} (n : Nat) (f : Nat → α) (z : α) : upd n f z n = (List.range n).map f := by
  unfold upd
  refine List.map_congr_left fun i hi => ?_
  rw [if_pos (List.mem_range.1 hi)]
theorem nds_all (l : List Nd) : (List.range l.length).map (nd l) = l := by
  apply List.ext_getElem?
  intro i
  rw [List.getElem?_map]
  rcases Nat.lt_or_ge i l.length with h | h
  · rw [List.getElem?_range h, List.getElem?_eq_getElem h, ← nd_eq h]; rfl
  · rw [List.getElem?_eq_none (by simpa using h), List.getElem?_eq_none h]; rfl
theorem info40z : (Try.prog.info? 39).map (fun i => (i.zero, i.size, i.bytes)) = some (some (.agg (stl zeroS).toArray), 48, 376) := by kernel_rfl
theorem make_styles (n : Nat) (hn : n ≤ 65535) (w : World) : (Instr.makeSlice 48 (.int .i64 (n : Int)) (.int .i64 (n : Int))).run Try.prog w = .ok (.slice (some ⟨w.heap.size, 0, none⟩) n n) (w.alloc (.cells ((List.replicate n zeroN).flatMap stn).toArray 39)) := by
  obtain ⟨i0, hi, hz0, hz1, hz2⟩ := info_parts info40z
  have := run_make (P := Try.prog) w 48 39 i0 _ Try.underlying48 hi hz0 .i64 .i64 n n (by omega) (Int.le_refl _) (by rw [hz2]; omega) (by omega)
  rw [this, hz1, Int.toNat_natCast]
  have e : madeCells (Value.agg (stl zeroS).toArray).cells (n * 48) = ((List.replicate n zeroN).flatMap stn).toArray := made_flat stn_length (by omega) zeroN n
  rw [e]
theorem make_places (n : Nat) (hn : n ≤ 65535) (w : World) : (Instr.makeSlice 49 (.int .i64 (n : Int)) (.int .i64 (n : Int))).run Try.prog w = .ok (.slice (some ⟨w.heap.size, 0, none⟩) n n) (w.alloc (.cells ((List.replicate n zeroP).flatMap pll).toArray 53)) := by
  obtain ⟨i0, hi, hz0, hz1, hz2⟩ := info_parts info55z
  have := run_make (P := Try.prog) w 49 53 i0 _ Try.underlying49 hi hz0 .i64 .i64 n n (by omega) (Int.le_refl _) (by rw [hz2]; omega) (by omega)
  rw [this, hz1, Int.toNat_natCast]
  have e : madeCells (Value.agg (pll zeroP).toArray).cells (n * 5) = ((List.replicate n zeroP).flatMap pll).toArray := made_flat pll_length (by omega) zeroP n
  rw [e]
theorem KQ.first {W : World} {n : Nat} {G H : Nat} (hg : W.heap[G]? = some (.cells ((List.replicate n zeroN).flatMap stn).toArray 39)) (hh : W.heap[H]? = some (.cells ((List.replicate n zeroP).flatMap pll).toArray 53)) :
    KQ (W.alloc (.cells #[.slice (some ⟨G, 0, none⟩) n n, .slice (some ⟨H, 0, none⟩) n n] 51)) W.heap.size G H n (List.replicate n zeroN) (List.replicate n zeroP) :=
  ⟨World.alloc_heap_new W _, (Below.heap_alloc W _ _ (lt_of_block hg)).trans hg, (Below.heap_alloc W _ _ (lt_of_block hh)).trans hh⟩
theorem KQ.setS {w : World} {B G H n : Nat} {X : List Nd} {Q : List Pl} (h : KQ w B G H n X Q) (hne : G ≠ B ∧ G ≠ H) {i : Nat} (hi : i < X.length) (x : Nd) : KQ (w.setCells G (i * 48) (stn x)) B G H n (X.set i x) Q := by
  have t := turns_sets w G (i * 48) (stn x)
  refine ⟨(t.block _ (lt_of_block h.obj) (Ne.symm hne.1)).trans h.obj, block_sets h.sty _ _ (fl_sets stn_length X hi x), (t.block _ (lt_of_block h.pls) (Ne.symm hne.2)).trans h.pls⟩
theorem KQ.setP {w : World} {B G H n : Nat} {X : List Nd} {Q : List Pl} (h : KQ w B G H n X Q) (hne : H ≠ B ∧ H ≠ G) {i : Nat} (hi : i < Q.length) (x : Pl) : KQ (w.setCells H (i * 5) (pll x)) B G H n X (Q.set i x) := by
  have t := turns_sets w H (i * 5) (pll x)
  refine ⟨(t.block _ (lt_of_block h.obj) (Ne.symm hne.1)).trans h.obj, (t.block _ (lt_of_block h.sty) (Ne.symm hne.2)).trans h.sty, block_sets h.pls _ _ (fl_sets pll_length Q hi x)⟩
theorem KQ.apartG {w : World} {B G H n : Nat} {X : List Nd} {Q : List Pl} (h : KQ w B G H n X Q) : G ≠ B ∧ G ≠ H := by
  refine ⟨?_, fun e => h.apart.2 e.symm⟩
  intro e
  have h1 := h.sty
  rw [e, h.obj] at h1
  simp at h1
theorem pll_one (q : Pl) : ∀ u ∈ pll q, u.oneCell' = true := by
  intro u hu
  simp [pll] at hu
  rcases hu with rfl | rfl | rfl | rfl | rfl <;> rfl
theorem run_loadSN {w : World} {Y : Nat} {x : Nd} (h : Hn w Y x) : (Instr.loadAt 39 (.pointer (some ⟨Y, 0, none⟩))).run Try.prog w = .ok (sv x.s) w := by
  have := run_loadVar_mid w Y 0 39 (stl x.s) _ h.at.sty Try.underlying39 rfl (by rw [x.full.len]; exact info27)
  simp only [Instr.loadAt, Instr.sureAddr, Sem.run_bind, Sem.run_pure, Result.andThen_ok, this]
  rfl
theorem run_loadNN {w : World} {Y : Nat} {x : Nd} (h : Hn w Y x) : (Instr.loadAt 42 (.pointer (some ⟨Y, 0, none⟩))).run Try.prog w = .ok (nv x) w := by
  have := run_loadVar_mid w Y 0 42 (ndl x) _ h.at Try.underlying42 rfl (by rw [ndl_length]; exact info51)
  simp only [Instr.loadAt, Instr.sureAddr, Sem.run_bind, Sem.run_pure, Result.andThen_ok, this]
  rfl
theorem of_no (ad : Option Addr) (n c : Nat) (l : List Nd) (w : World) (h : NS w ad n l) (hn : n ≤ 1000000) (hc : checkT l ≠ 0) :
    Calls Try.prog 7 #[.slice ad n c] w fun e w' => e = .returned (.tuple #[.pointer none, .int .i64 (checkT l)]) ∧ Seen w w' := by
  have HC := Lib.hid (check_any ad n c l w h (by omega))
  obtain ⟨C, hC⟩ : ∃ C, checkT l = C := ⟨_, rfl⟩
  rw [hC] at HC hc ⊢
  have hb : (C == 0) = false := by simpa using hc
  clear h hC hc
  go_enter Try.func7, Try.ntmps7
  go_wp2_with (go_at_call 14; refine HC.out.mono ?_; clear HC; rintro e w1 ⟨rfl, hs⟩; have S1 := Lib.hid hs; clear hs)
  go_ret2
  exact ⟨rfl, S1.out⟩
set_option maxHeartbeats 8000000 in
theorem of_yes (ad : Option Addr) (n c : Nat) (l : List Nd) (w : World) (h : NS w ad n l) (hc : checkT l = 0) (hf : FormedT l) (hn : n ≤ 65535) :
    Calls Try.prog 7 #[.slice ad n c] w fun e w' => ∃ B G H, e = .returned (.tuple #[.pointer (some ⟨B, 0, none⟩), .int .i64 0]) ∧ (w.heap.size ≤ B ∧ w.heap.size ≤ G ∧ w.heap.size ≤ H) ∧ KK w' B G H l (endN l) ∧ Seen w w' := by
  have HC := Lib.hid (check_any ad n c l w h (by omega))
  have HS := Lib.hid h
  have HL : Hid (l.length = n) := h.1
  have HF := Lib.hid hf
  have h0 : 0 < n := by have := hf.1; have := HL.out; omega
  obtain ⟨b, off, rfl, hat⟩ := h.ats h0
  have HAT := Lib.hid hat
  rw [hc] at HC
  clear h hc hf hat
  go_enter Try.func7, Try.ntmps7
  go_upto_region 4 with (go_at_call 14; refine HC.out.mono ?_; clear HC; rintro e w1 ⟨rfl, hs⟩; have S1 := Lib.hid hs; clear hs)
  go_cut [5] (fun v wx => ∃ B G H, v = .pointer (some ⟨B, 0, none⟩) ∧ KQ wx B G H n (List.replicate n zeroN) (List.replicate n zeroP) ∧ (w1.heap.size ≤ B ∧ w1.heap.size ≤ G ∧ w1.heap.size ≤ H) ∧ Seen w1 wx)
  case first =>
    have sd : Seen w1 w1.drew := (Seen.refl w1).drew
    refine wp_region_held_drew (S := fun w' => Seen w1 w') (by kernel_rfl) sd (fun _ => ?_)
    refine hTake 0 (some 13) (.slice (some ⟨b, off, none⟩) n c) (by kernel_rfl) (by kernel_rfl) (by kernel_rfl) (by kernel_rfl) (by kernel_rfl) (by kernel_rfl) (fun _ _ _ h => h) (fun w' hS => by kernel_rfl) sd ?_
    simp only [Act.put, List.setIfInBounds_toArray, List.set_cons_zero, List.set_cons_succ]
    refine hTake 1 (some 14) (.int .i64 (n : Int)) (by kernel_rfl) (by kernel_rfl) (by kernel_rfl) (by kernel_rfl) (by kernel_rfl) (by kernel_rfl) (fun _ _ _ h => h) (fun w' hS => by kernel_rfl) sd ?_
    simp only [Act.put, List.setIfInBounds_toArray, List.set_cons_zero, List.set_cons_succ]
    refine hTake 3 (some 16) (.slice (some ⟨b, off, none⟩) n c) (by kernel_rfl) (by kernel_rfl) (by kernel_rfl) (by kernel_rfl) (by kernel_rfl) (by kernel_rfl) (fun _ _ _ h => h) (fun w' hS => by kernel_rfl) sd ?_
    simp only [Act.put, List.setIfInBounds_toArray, List.set_cons_zero, List.set_cons_succ]
    refine hTake 4 (some 17) (.int .i64 (n : Int)) (by kernel_rfl) (by kernel_rfl) (by kernel_rfl) (by kernel_rfl) (by kernel_rfl) (by kernel_rfl) (fun _ _ _ h => h) (fun w' hS => by kernel_rfl) sd ?_
    simp only [Act.put, List.setIfInBounds_toArray, List.set_cons_zero, List.set_cons_succ]
    refine hRun2 2 5 (some 15) (some 18) (.slice (some ⟨w1.heap.size, 0, none⟩) n n) (.slice (some ⟨w1.heap.size, 0, none⟩) n n) (by kernel_rfl) (by kernel_rfl) (by kernel_rfl) (by kernel_rfl) (by kernel_rfl) (by kernel_rfl) (by kernel_rfl) (run_by (Instr.makeSlice 48 (.int .i64 (n : Int)) (.int .i64 (n : Int))) (by kernel_rfl) (make_styles n hn _)) (run_by (Instr.makeSlice 49 (.int .i64 (n : Int)) (.int .i64 (n : Int))) (by kernel_rfl) (make_places n hn _)) (sd.alloc _) (sd.alloc _) ?_ ?_
    · simp only [Act.put, List.setIfInBounds_toArray, List.set_cons_zero, List.set_cons_succ]
      obtain ⟨V, hV⟩ : ∃ V, V = w1.drew.alloc (.cells ((List.replicate n zeroN).flatMap stn).toArray 39) := ⟨_, rfl⟩
      have hVs : V.heap.size = w1.heap.size + 1 := by rw [hV]; simp
      have k1 : V.heap[w1.heap.size]? = some (.cells ((List.replicate n zeroN).flatMap stn).toArray 39) := by rw [hV]; exact World.alloc_heap_new w1.drew _
      have s1 : Seen w1 V := by rw [hV]; exact sd.alloc _
      rw [← hV]
      clear hV
      have s2 : Seen w1 (V.alloc (.cells ((List.replicate n zeroP).flatMap pll).toArray 53)) := s1.alloc _
      refine hRun 5 (some 18) (.slice (some ⟨w1.heap.size + 1, 0, none⟩) n n) (by kernel_rfl) (by kernel_rfl) (by kernel_rfl) (by kernel_rfl) (by rw [← hVs]; exact run_by (Instr.makeSlice 49 (.int .i64 (n : Int)) (.int .i64 (n : Int))) (by kernel_rfl) (make_places n hn _)) s2 ?_
      simp only [Act.put, List.setIfInBounds_toArray, List.set_cons_zero, List.set_cons_succ]
      obtain ⟨V2, hV2⟩ : ∃ V2, V2 = V.alloc (.cells ((List.replicate n zeroP).flatMap pll).toArray 53) := ⟨_, rfl⟩
      have hV2s : V2.heap.size = w1.heap.size + 2 := by rw [hV2]; simp [hVs]
      have k2 : V2.heap[w1.heap.size + 1]? = some (.cells ((List.replicate n zeroP).flatMap pll).toArray 53) := by rw [hV2, ← hVs]; exact World.alloc_heap_new V _
      have k1' : V2.heap[w1.heap.size]? = some (.cells ((List.replicate n zeroN).flatMap stn).toArray 39) := by rw [hV2]; exact (Below.heap_alloc V _ _ (by omega)).trans k1
      rw [← hV2] at s2 ⊢
      clear hV2 k1
      refine hTake 6 (some 19) (.agg #[.slice (some ⟨w1.heap.size, 0, none⟩) n n, .slice (some ⟨(w1.heap.size + 1), 0, none⟩) n n]) (by kernel_rfl) (by kernel_rfl) (by kernel_rfl) (by kernel_rfl) (by kernel_rfl) (by kernel_rfl) (fun _ _ _ h => h) (fun w' hS => by kernel_rfl) s2 ?_
      simp only [Act.put, List.setIfInBounds_toArray, List.set_cons_zero, List.set_cons_succ]
      have kq := KQ.first (G := w1.heap.size) (H := (w1.heap.size + 1)) k1' k2
      have s3 : Seen w1 (V2.alloc (.cells #[.slice (some ⟨w1.heap.size, 0, none⟩) n n, .slice (some ⟨(w1.heap.size + 1), 0, none⟩) n n] 51)) := s2.alloc _
      refine hRun 7 (some 20) (.pointer (some ⟨V2.heap.size, 0, none⟩)) (by kernel_rfl) (by kernel_rfl) (by kernel_rfl) (by kernel_rfl) (by kernel_rfl) s3 ?_
      simp only [Act.put, List.setIfInBounds_toArray, List.set_cons_zero, List.set_cons_succ]
      refine hTake 8 (some 5) (.pointer (some ⟨V2.heap.size, 0, none⟩)) (by kernel_rfl) (by kernel_rfl) (by kernel_rfl) (by kernel_rfl) (by kernel_rfl) (by kernel_rfl) (fun _ _ _ h => h) (fun w' hS => by kernel_rfl) s3 ?_
      simp only [Act.put, List.setIfInBounds_toArray, List.set_cons_zero, List.set_cons_succ]
      refine wpAnyH_done (by kernel_rfl) ?_ _
      go_wp2_with fail
      go_meet
      exact ⟨_, _, _, rfl, kq, ⟨by omega, by omega, by omega⟩, s3⟩
    · simp only [Act.put, List.setIfInBounds_toArray, List.set_cons_zero, List.set_cons_succ]
      obtain ⟨V, hV⟩ : ∃ V, V = w1.drew.alloc (.cells ((List.replicate n zeroP).flatMap pll).toArray 53) := ⟨_, rfl⟩
      have hVs : V.heap.size = w1.heap.size + 1 := by rw [hV]; simp
      have k1 : V.heap[w1.heap.size]? = some (.cells ((List.replicate n zeroP).flatMap pll).toArray 53) := by rw [hV]; exact World.alloc_heap_new w1.drew _
      have s1 : Seen w1 V := by rw [hV]; exact sd.alloc _
      rw [← hV]
      clear hV
      have s2 : Seen w1 (V.alloc (.cells ((List.replicate n zeroN).flatMap stn).toArray 39)) := s1.alloc _
      refine hRun 2 (some 15) (.slice (some ⟨w1.heap.size + 1, 0, none⟩) n n) (by kernel_rfl) (by kernel_rfl) (by kernel_rfl) (by kernel_rfl) (by rw [← hVs]; exact run_by (Instr.makeSlice 48 (.int .i64 (n : Int)) (.int .i64 (n : Int))) (by kernel_rfl) (make_styles n hn _)) s2 ?_
      simp only [Act.put, List.setIfInBounds_toArray, List.set_cons_zero, List.set_cons_succ]
      obtain ⟨V2, hV2⟩ : ∃ V2, V2 = V.alloc (.cells ((List.replicate n zeroN).flatMap stn).toArray 39) := ⟨_, rfl⟩
      have hV2s : V2.heap.size = w1.heap.size + 2 := by rw [hV2]; simp [hVs]
      have k2 : V2.heap[w1.heap.size + 1]? = some (.cells ((List.replicate n zeroN).flatMap stn).toArray 39) := by rw [hV2, ← hVs]; exact World.alloc_heap_new V _
      have k1' : V2.heap[w1.heap.size]? = some (.cells ((List.replicate n zeroP).flatMap pll).toArray 53) := by rw [hV2]; exact (Below.heap_alloc V _ _ (by omega)).trans k1
      rw [← hV2] at s2 ⊢
      clear hV2 k1
      refine hTake 6 (some 19) (.agg #[.slice (some ⟨(w1.heap.size + 1), 0, none⟩) n n, .slice (some ⟨w1.heap.size, 0, none⟩) n n]) (by kernel_rfl) (by kernel_rfl) (by kernel_rfl) (by kernel_rfl) (by kernel_rfl) (by kernel_rfl) (fun _ _ _ h => h) (fun w' hS => by kernel_rfl) s2 ?_
      simp only [Act.put, List.setIfInBounds_toArray, List.set_cons_zero, List.set_cons_succ]
      have kq := KQ.first (G := (w1.heap.size + 1)) (H := w1.heap.size) k2 k1'
      have s3 : Seen w1 (V2.alloc (.cells #[.slice (some ⟨(w1.heap.size + 1), 0, none⟩) n n, .slice (some ⟨w1.heap.size, 0, none⟩) n n] 51)) := s2.alloc _
      refine hRun 7 (some 20) (.pointer (some ⟨V2.heap.size, 0, none⟩)) (by kernel_rfl) (by kernel_rfl) (by kernel_rfl) (by kernel_rfl) (by kernel_rfl) s3 ?_
      simp only [Act.put, List.setIfInBounds_toArray, List.set_cons_zero, List.set_cons_succ]
      refine hTake 8 (some 5) (.pointer (some ⟨V2.heap.size, 0, none⟩)) (by kernel_rfl) (by kernel_rfl) (by kernel_rfl) (by kernel_rfl) (by kernel_rfl) (by kernel_rfl) (fun _ _ _ h => h) (fun w' hS => by kernel_rfl) s3 ?_
      simp only [Act.put, List.setIfInBounds_toArray, List.set_cons_zero, List.set_cons_succ]
      refine wpAnyH_done (by kernel_rfl) ?_ _
      go_wp2_with fail
      go_meet
      exact ⟨_, _, _, rfl, kq, ⟨by omega, by omega, by omega⟩, s3⟩
  case rest =>
    obtain ⟨B, G, H, rfl, hk, ⟨hB, hG, hH⟩, hs⟩ := hcut
    have SC : Hid (Seen w wc) := S1.out.trans hs
    have HBB : Hid (w.heap.size ≤ B ∧ w.heap.size ≤ G ∧ w.heap.size ≤ H) := by have := S1.out.size; exact ⟨by omega, by omega, by omega⟩
    have AG := Lib.hid hk.apartG
    have AH := Lib.hid hk.apart
    rw [upd_zero n (nd l), upd_zero n (plE l E0)] at hk
    have HK := Lib.hid hk
    clear hk hs hB hG hH S1
    go_wp2_with fail
    go_loopw [23] (fun x wr => ∃ k : Nat, x = .int .i64 k ∧ k ≤ n ∧ KQ wr B G H n (upd n (nd l) zeroN k) (upd n (plE l E0) zeroP k) ∧ Seen w wr) (fun x _ => n - (intOf x).toNat)
    case atStart => exact ⟨0, rfl, by omega, HK.out, SC.out⟩
    case round =>
      obtain ⟨k, rfl, hk, hkq, hs⟩ := hrel
      have S2 := Lib.hid hs
      have K2 := Lib.hid hkq
      clear hs hkq HK SC
      by_cases hlt : k < n
      · have hk' : (k : Int) < (n : Int) := by omega
        have A1 : Hid (At wr b (off + k * 49) (nd l k)) := (HAT.out k hlt).seen S2.out
        obtain ⟨V, hV⟩ : ∃ V, V = wr.alloc (.cells (ndl zeroN).toArray 42) := ⟨_, rfl⟩
        have HZ : Hid (Hn V wr.heap.size zeroN) := by rw [hV]; exact hn_new wr zeroN
        have HVS : Hid (∀ w2, Turns wr.heap.size V w2 → Seen w w2 ∧ Seen wr w2) := by rw [hV]; exact fun w2 h2 => ⟨S2.out.fresh h2, (Seen.refl wr).fresh h2⟩
        go_wp2_with (first
          | (refine wpList_loadN rfl (.tmp 26) rfl b (off + k * 49) (nd l k) rfl A1.out ?_; clear A1)
          | (rw [zeroN_lit, ← hV]; clear hV; refine wpList_storeN rfl (.tmp 7) (.tmp 27) rfl wr.heap.size zeroN (nd l k) rfl rfl HZ.out ?_; intro w2 h2 t2; have R2 := Lib.hid (And.intro h2 (HVS.out w2 t2)); clear h2 t2 HZ HVS))
        obtain ⟨hn2, hs2, hsr⟩ := R2.out
        have kq2 := K2.out.seen hsr
        have hGN : G < wr.heap.size := lt_of_block K2.out.sty
        have hHN : H < wr.heap.size := lt_of_block K2.out.pls
        have hBN : B < wr.heap.size := lt_of_block K2.out.obj
        obtain ⟨Y, hY⟩ : ∃ Y, wr.heap.size = Y := ⟨_, rfl⟩
        rw [hY] at hn2 hGN hHN hBN ⊢
        have sd : (fun w' : World => w'.cell? ⟨B, 0, none⟩ = some (.slice (some ⟨G, 0, none⟩) n n) ∧ Hn w' Y (nd l k)) w2.drew := ⟨kq2.objs.1, hn2⟩
        refine wp_region_held_drew (S := fun w' => w'.cell? ⟨B, 0, none⟩ = some (.slice (some ⟨G, 0, none⟩) n n) ∧ Hn w' Y (nd l k)) (by kernel_rfl) sd (fun _ => ?_)
        refine hTake 0 (some 28) (.pointer (some ⟨B, 0, none⟩)) (by kernel_rfl) (by kernel_rfl) (by kernel_rfl) (by kernel_rfl) (by kernel_rfl) (by kernel_rfl) (fun _ _ _ h => h) (fun w' hS => by kernel_rfl) sd ?_
        simp only [Act.put, List.setIfInBounds_toArray, List.set_cons_zero, List.set_cons_succ]
        refine hTake 1 (some 29) (.pointer (some ⟨B, 0, none⟩)) (by kernel_rfl) (by kernel_rfl) (by kernel_rfl) (by kernel_rfl) (by kernel_rfl) (by kernel_rfl) (fun _ _ _ h => h) (fun w' hS => by kernel_rfl) sd ?_
        simp only [Act.put, List.setIfInBounds_toArray, List.set_cons_zero, List.set_cons_succ]
        refine hTake 2 (some 30) (.pointer (some ⟨B, 0, none⟩)) (by kernel_rfl) (by kernel_rfl) (by kernel_rfl) (by kernel_rfl) (by kernel_rfl) (by kernel_rfl) (fun _ _ _ h => h) (fun w' hS => by kernel_rfl) sd ?_
        simp only [Act.put, List.setIfInBounds_toArray, List.set_cons_zero, List.set_cons_succ]
        refine hTake 3 (some 31) (.slice (some ⟨G, 0, none⟩) n n) (by kernel_rfl) (by kernel_rfl) (by kernel_rfl) (by kernel_rfl) (by kernel_rfl) (by kernel_rfl) (fun _ _ _ h => h) (fun w' hS => run_by (Instr.loadAt 48 (.pointer (some ⟨B, 0, none⟩))) (by kernel_rfl) (run_load50 hS.1)) sd ?_
        simp only [Act.put, List.setIfInBounds_toArray, List.set_cons_zero, List.set_cons_succ]
        refine hTake 4 (some 32) (.int .i64 (k : Int)) (by kernel_rfl) (by kernel_rfl) (by kernel_rfl) (by kernel_rfl) (by kernel_rfl) (by kernel_rfl) (fun _ _ _ h => h) (fun w' hS => by kernel_rfl) sd ?_
        simp only [Act.put, List.setIfInBounds_toArray, List.set_cons_zero, List.set_cons_succ]
        refine hTake 5 (some 33) (.pointer (some ⟨Y, 0, none⟩)) (by kernel_rfl) (by kernel_rfl) (by kernel_rfl) (by kernel_rfl) (by kernel_rfl) (by kernel_rfl) (fun _ _ _ h => h) (fun w' hS => by kernel_rfl) sd ?_
        simp only [Act.put, List.setIfInBounds_toArray, List.set_cons_zero, List.set_cons_succ]
        refine hTake 6 (some 34) (sv (nd l k).s) (by kernel_rfl) (by kernel_rfl) (by kernel_rfl) (by kernel_rfl) (by kernel_rfl) (by kernel_rfl) (fun _ _ _ h => h) (fun w' hS => run_by (Instr.loadAt 39 (.pointer (some ⟨Y, 0, none⟩))) (by kernel_rfl) (run_loadSN hS.2)) sd ?_
        simp only [Act.put, List.setIfInBounds_toArray, List.set_cons_zero, List.set_cons_succ]
        refine hTake 7 (some 35) (.pointer (some ⟨G, k * 48, none⟩)) (by kernel_rfl) (by kernel_rfl) (by kernel_rfl) (by kernel_rfl) (by kernel_rfl) (by kernel_rfl) (fun _ _ _ h => h) (fun w' hS => run_by (Instr.indexAt 48 (.slice (some ⟨G, 0, none⟩) n n) (.int .i64 (k : Int))) (by kernel_rfl) (run_index50 G k n n hlt _)) sd ?_
        simp only [Act.put, List.setIfInBounds_toArray, List.set_cons_zero, List.set_cons_succ]
        have kqd : KQ w2.drew B G H n (upd n (nd l) zeroN k) (upd n (plE l E0) zeroP k) := kq2.keeps rfl rfl rfl
        have e8 := run_storeC (ty := 39) (o := k * 48) (vs := stn (nd l k)) kqd.sty (by rw [stn_length, fl_len stn_length, upd_length]; omega) (by rw [stn_length]; exact info27) (stl_one _)
        have t8 := turns_sets w2.drew G (k * 48) (stn (nd l k))
        have kq3 := kqd.setS AG.out (i := k) (by rw [upd_length]; exact hlt) (nd l k)
        rw [upd_set hlt] at kq3
        obtain ⟨W, hW⟩ : ∃ W, W = w2.drew.setCells G (k * 48) (stn (nd l k)) := ⟨_, rfl⟩
        rw [← hW] at e8 t8 kq3
        have hn3 : Hn W Y (nd l k) := (t8.block _ hn2.lt (by omega)).trans hn2
        have s8 : Seen w W := Seen.turns hs2.drew t8 HBB.out.2.1
        clear hW
        refine hSkip 8 none (by kernel_rfl) (by kernel_rfl) (by kernel_rfl) (by kernel_rfl) (run_skip_by (Instr.storeAt 39 (.pointer (some ⟨G, k * 48, none⟩)) (sv (nd l k).s)) (by kernel_rfl) e8) ⟨kq3.objs.1, hn3⟩ ?_
        refine wpAnyH_done (by kernel_rfl) ?_ _
        have K3 := Lib.hid kq3
        have N3 := Lib.hid hn3
        have S3 := Lib.hid s8
        have YB : Hid (w.heap.size ≤ Y ∧ H < Y) := ⟨by rw [← hY]; exact S2.out.size, hHN⟩
        clear e8 t8 kqd sd kq2 hn2 hs2 hsr R2 K2 hY kq3 hn3 s8 hGN hHN hBN
        go_wp2_with fail
        have kq4 := K3.out
        have hn4 := N3.out
        have sd : (fun w' : World => w'.cell? ⟨B, 1, none⟩ = some (.slice (some ⟨H, 0, none⟩) n n) ∧ Hn w' Y (nd l k)) W.drew := ⟨kq4.objs.2, hn4⟩
        refine wp_region_held_drew (S := fun w' => w'.cell? ⟨B, 1, none⟩ = some (.slice (some ⟨H, 0, none⟩) n n) ∧ Hn w' Y (nd l k)) (by kernel_rfl) sd (fun _ => ?_)
        refine hTake 0 (some 36) (.pointer (some ⟨B, 0, none⟩)) (by kernel_rfl) (by kernel_rfl) (by kernel_rfl) (by kernel_rfl) (by kernel_rfl) (by kernel_rfl) (fun _ _ _ h => h) (fun w' hS => by kernel_rfl) sd ?_
        simp only [Act.put, List.setIfInBounds_toArray, List.set_cons_zero, List.set_cons_succ]
        refine hTake 1 (some 37) (.pointer (some ⟨B, 0, none⟩)) (by kernel_rfl) (by kernel_rfl) (by kernel_rfl) (by kernel_rfl) (by kernel_rfl) (by kernel_rfl) (fun _ _ _ h => h) (fun w' hS => by kernel_rfl) sd ?_
        simp only [Act.put, List.setIfInBounds_toArray, List.set_cons_zero, List.set_cons_succ]
        refine hTake 2 (some 38) (.pointer (some ⟨B, 1, none⟩)) (by kernel_rfl) (by kernel_rfl) (by kernel_rfl) (by kernel_rfl) (by kernel_rfl) (by kernel_rfl) (fun _ _ _ h => h) (fun w' hS => by kernel_rfl) sd ?_
        simp only [Act.put, List.setIfInBounds_toArray, List.set_cons_zero, List.set_cons_succ]
        refine hTake 3 (some 39) (.slice (some ⟨H, 0, none⟩) n n) (by kernel_rfl) (by kernel_rfl) (by kernel_rfl) (by kernel_rfl) (by kernel_rfl) (by kernel_rfl) (fun _ _ _ h => h) (fun w' hS => run_by (Instr.loadAt 49 (.pointer (some ⟨B, 1, none⟩))) (by kernel_rfl) (run_load51 hS.1)) sd ?_
        simp only [Act.put, List.setIfInBounds_toArray, List.set_cons_zero, List.set_cons_succ]
        refine hTake 4 (some 40) (.int .i64 (k : Int)) (by kernel_rfl) (by kernel_rfl) (by kernel_rfl) (by kernel_rfl) (by kernel_rfl) (by kernel_rfl) (fun _ _ _ h => h) (fun w' hS => by kernel_rfl) sd ?_
        simp only [Act.put, List.setIfInBounds_toArray, List.set_cons_zero, List.set_cons_succ]
        refine hTake 5 (some 41) (.pointer (some ⟨B, 0, none⟩)) (by kernel_rfl) (by kernel_rfl) (by kernel_rfl) (by kernel_rfl) (by kernel_rfl) (by kernel_rfl) (fun _ _ _ h => h) (fun w' hS => by kernel_rfl) sd ?_
        simp only [Act.put, List.setIfInBounds_toArray, List.set_cons_zero, List.set_cons_succ]
        refine hTake 6 (some 42) (nv (nd l k)) (by kernel_rfl) (by kernel_rfl) (by kernel_rfl) (by kernel_rfl) (by kernel_rfl) (by kernel_rfl) (fun _ _ _ h => h) (fun w' hS => run_by (Instr.loadAt 42 (.pointer (some ⟨Y, 0, none⟩))) (by kernel_rfl) (run_loadNN hS.2)) sd ?_
        simp only [Act.put, List.setIfInBounds_toArray, List.set_cons_zero, List.set_cons_succ]
        refine hTake 7 (some 43) (.int .i64 (k : Int)) (by kernel_rfl) (by kernel_rfl) (by kernel_rfl) (by kernel_rfl) (by kernel_rfl) (by kernel_rfl) (fun _ _ _ h => h) (fun w' hS => by kernel_rfl) sd ?_
        simp only [Act.put, List.setIfInBounds_toArray, List.set_cons_zero, List.set_cons_succ]
        have kqd : KQ W.drew B G H n (upd n (nd l) zeroN (k + 1)) (upd n (plE l E0) zeroP k) := kq4.keeps rfl rfl rfl
        refine hCall 8 (some 44) 15 #[.pointer (some ⟨B, 0, none⟩), nv (nd l k), .int .i64 (k : Int)] (by kernel_rfl) (by kernel_rfl) (by kernel_rfl) (by kernel_rfl) (by kernel_rfl) ?_
        refine (placeBelow_any B G H n k _ l _ W.drew kqd HF.out HL.out (upd_length _ _ _ _) hn hlt (fun q hq => by rw [List.getD_eq_getElem?_getD, upd_at, if_pos (by omega), if_pos hq]; rfl)).mono ?_
        rintro _ w5 ⟨rfl, hs5⟩
        have kq5 := kqd.seen hs5
        have hn5 : Hn w5 Y (nd l k) := Hn.seen (w := W.drew) hn4 hs5
        refine ⟨_, rfl, ⟨kq5.objs.2, hn5⟩, ?_⟩
        simp only [Act.put, List.setIfInBounds_toArray, List.set_cons_zero, List.set_cons_succ]
        refine hTake 9 (some 45) (.pointer (some ⟨H, k * 5, none⟩)) (by kernel_rfl) (by kernel_rfl) (by kernel_rfl) (by kernel_rfl) (by kernel_rfl) (by kernel_rfl) (fun _ _ _ h => h) (fun w' hS => run_by (Instr.indexAt 49 (.slice (some ⟨H, 0, none⟩) n n) (.int .i64 (k : Int))) (by kernel_rfl) (run_index51 H k n n hlt _)) ⟨kq5.objs.2, hn5⟩ ?_
        simp only [Act.put, List.setIfInBounds_toArray, List.set_cons_zero, List.set_cons_succ]
        have e10 := run_storeC (ty := 53) (o := k * 5) (vs := pll (plE l E0 k)) kq5.pls (by rw [pll_length, fl_len pll_length, upd_length]; omega) info55 (pll_one _)
        have t10 := turns_sets w5 H (k * 5) (pll (plE l E0 k))
        have kq6 := kq5.setP AH.out (i := k) (by rw [upd_length]; exact hlt) (plE l E0 k)
        rw [upd_set hlt] at kq6
        obtain ⟨W6, hW6⟩ : ∃ W6, W6 = w5.setCells H (k * 5) (pll (plE l E0 k)) := ⟨_, rfl⟩
        rw [← hW6] at e10 t10 kq6
        have hn6 : Hn W6 Y (nd l k) := (t10.block _ hn5.lt (by have := YB.out; omega)).trans hn5
        have s10 : Seen w W6 := Seen.turns (S3.out.drew.trans hs5) t10 HBB.out.2.2
        clear hW6
        refine hSkip 10 none (by kernel_rfl) (by kernel_rfl) (by kernel_rfl) (by kernel_rfl) (run_skip_by (Instr.storeAt 53 (.pointer (some ⟨H, k * 5, none⟩)) (plv (plE l E0 k))) (by kernel_rfl) e10) ⟨kq6.objs.2, hn6⟩ ?_
        refine wpAnyH_done (by kernel_rfl) ?_ _
        have K6 := Lib.hid kq6
        have S6 := Lib.hid s10
        clear e10 t10 kqd sd kq4 kq5 hn4 hn5 hn6 hs5 kq6 s10
        go_wp2_with fail
        go_roundw
        case rel => exact ⟨k + 1, by go_num, by omega, K6.out, S6.out⟩
        case measure => simp [intOf]; omega
      · have hk' : ¬ (k : Int) < (n : Int) := by omega
        obtain rfl : k = n := by omega
        have K3 : Hid (KQ wr B G H k l (places l E0)) := by
          have := K2.out
          rw [upd_all, upd_all] at this
          unfold places
          rw [← HL.out, nds_all] at this
          rw [← HL.out]
          exact this
        have HM := Lib.hid (moveEnds_any B G H k l wr K3.out HF.out HL.out hn)
        go_wp2_with (go_at_call 16; refine HM.out.mono ?_; clear HM; rintro e w5 ⟨rfl, hk5, ht5⟩; have K5 := Lib.hid hk5; have S5 : Hid (Seen w w5) := S2.out.turns ht5 HBB.out.2.2; clear hk5 ht5)
        go_ret2
        refine ⟨B, G, H, rfl, HBB.out, ?_, S5.out⟩
        have := K5.out
        exact ⟨by rw [HL.out]; exact this.obj, this.sty, this.pls⟩
end Go.Proofs.Ytlnnaegmcopiiaa
