/- Texts of the proof, merged: CheckT, KinOf, FAwake, OpenS, OpenN. -/
import Derived.Test.YtngeaigkafamiaaGreatM36
import Derived.Test.YtngeaigkafamiaaGreatM37
import Derived.Deep.DeepCutAuto
import Derived.Test.YtngeaigkafamiaaGreatM32
import Derived.Test.YtngeaigkafamiaaGreatM13
import Derived.Test.YtngeaigkafamiaaGreatM12
import Derived.Test.YtngeaigkafamiaaGreatM4
namespace Go.Proofs.YtngeaigkafamiaaGreat
open Go.ChangeShapes Go.WideShapes Go.ChangeAt Go.RowKit
set_option maxRecDepth 100000
theorem check2 {l : List Nd} (h : formedT l = false) : checkT l = 2 := by unfold checkT; rw [h]; rfl
theorem check3 {l : List Nd} (h : formedT l = true) (k : withinT l = false) : checkT l = 3 := by unfold checkT; rw [h, k]; rfl
theorem check0 {l : List Nd} (h : formedT l = true) (k : withinT l = true) : checkT l = 0 := by unfold checkT; rw [h, k]; rfl
set_option maxHeartbeats 4000000 in
theorem check_any (ad : Option Addr) (n c : Nat) (l : List Nd) (w : World) (h : NS w ad n l) (hn : n ≤ 1099511627776) :
    Calls Tryz.prog 15 #[.slice ad n c] w fun e w' => e = .returned (.int .i64 (checkT l)) ∧ Seen w w' := by
  have HS := Lib.hid h
  have HF := Lib.hid (formedTree_any ad n c l w h hn)
  clear h
  cases hf : formedT l
  · rw [hf] at HF
    go_enter Tryz.func15, Tryz.ntmps15
    go_wp2_with (go_at_call 37; refine HF.out.mono ?_; rintro e w1 ⟨rfl, hs⟩; have S1 := Lib.hid hs; clear hs)
    go_ret
    rw [check2 hf]
    exact ⟨rfl, S1.out⟩
  · rw [hf] at HF
    have HW : Hid (∀ w', Seen w w' → Calls Tryz.prog 38 #[.slice ad n c] w' fun e w'' => e = .returned (.bool (withinT l)) ∧ Seen w' w'') := fun w' h' => withinTree_any ad n c l w' (HS.out.seen h') hn (of_decide_eq_true hf)
    cases hw : withinT l
    all_goals
      rw [hw] at HW
      go_enter Tryz.func15, Tryz.ntmps15
      go_wp2_with (first
        | (go_at_call 37; refine HF.out.mono ?_; rintro e w1 ⟨rfl, hs⟩; have S1 := Lib.hid hs; clear hs)
        | (go_at_call 38; refine (HW.out w1 S1.out).mono ?_; rintro e w2 ⟨rfl, hs⟩; have S2 := Lib.hid (S1.out.trans hs); clear hs))
      go_ret
    · rw [check3 hf hw]; exact ⟨rfl, S2.out⟩
    · rw [check0 hf hw]; exact ⟨rfl, S2.out⟩
set_option maxHeartbeats 8000000 in
theorem refCheck_any (ad : Option Addr) (n c : Nat) (l : List Nd) (w : World) (h : NS w ad n l) (hn : n ≤ 1099511627776) :
    Calls Tryz.prog 5 #[.slice ad n c] w fun e w' => e = .returned (.int .i64 (checkT l)) ∧ Seen w w' := by
  have HN : Hid (l.length = n) := h.1
  have HS := Lib.hid h
  have HF := Lib.hid (refFormedT_any ad n c l w h hn)
  cases hf : formedT l
  · rw [hf] at HF
    clear h
    go_enter Tryz.func5, Tryz.ntmps5
    go_wp2_with (go_at_call 12; refine HF.out.mono ?_; rintro e w1 ⟨rfl, hs⟩; have S1 := Lib.hid hs; clear hs)
    go_ret
    rw [check2 hf]
    exact ⟨rfl, S1.out⟩
  · rw [hf] at HF
    have hft : FormedT l := of_decide_eq_true hf
    have HFT := Lib.hid hft
    have h0 : 0 < n := by have := hft.1; have := HN.out; omega
    obtain ⟨b, off, rfl, hc⟩ := h.ats h0
    have HC := Lib.hid hc
    have HNO : Hid (¬ WithinT l → checkT l = 3) := fun h => check3 hf (decide_eq_false h)
    have HYES : Hid (WithinT l → checkT l = 0) := fun h => check0 hf (decide_eq_true h)
    clear h hc hft hf
    go_enter Tryz.func5, Tryz.ntmps5
    go_wp2_with (go_at_call 12; refine HF.out.mono ?_; clear HF; rintro e w1 ⟨rfl, hs⟩; have S1 := Lib.hid hs; clear hs)
    go_loopw [9] (fun i wr => ∃ k : Nat, k ≤ n ∧ i = .int .i64 k ∧ Seen w wr ∧ ∀ j, j < k → deep l j ≤ 256 ∧ withinB (nd l j).s = true) (fun i _ => n - (intOf i).toNat)
    case atStart => exact ⟨0, Nat.zero_le _, rfl, S1.out, fun j hj => absurd hj (by omega)⟩
    case round =>
      obtain ⟨k, hk, rfl, hs, hall⟩ := hrel
      have S2 := Lib.hid hs
      have HA := Lib.hid hall
      clear hs hall S1
      by_cases hlt : k < n
      · have hk' : (k : Int) < (n : Int) := by omega
        have A1 : Hid (At wr b (off + k * 49) (nd l k)) := (HC.out k hlt).seen S2.out
        have HL : Hid (Low l (k + 1)) := HFT.out.low.less (by have := HN.out; omega)
        have HDP : Hid (∀ w', Seen w w' → Calls Tryz.prog 14 #[.slice (some ⟨b, off, none⟩) n c, .int .i64 k] w' fun e w'' => e = .returned (.int .i64 (deep l k : Nat)) ∧ w'' = w') := fun w' h' => deep_any _ n c l k w' (HS.out.seen h') (by omega) (by omega) hn (HL.out.less (by omega))
        obtain ⟨E, hE⟩ : ∃ E, deep l k = E := ⟨_, rfl⟩
        rw [hE] at HDP
        have HE := Lib.hid hE
        clear hE
        have HFM := Lib.hid (refWithin_any (nd l k).s (nd l k).full)
        cases hfm : withinB (nd l k).s
        · rw [hfm] at HFM
          go_wp2_with (first
            | (refine wpList_loadNS rfl (.tmp 15) rfl b (off + k * 49) (nd l k) rfl A1.out ?_; clear A1)
            | (go_at_call 13; refine (HFM.out wr).mono ?_; clear HFM; rintro e w4 ⟨rfl, hs4⟩; have S4 := Lib.hid (S2.out.trans hs4); clear hs4))
          go_ret
          refine ⟨ret_int (HNO.out fun h => ?_).symm, S4.out⟩
          have := (h.2 k (by have := HN.out; omega)).2
          rw [hfm] at this; cases this
        · rw [hfm] at HFM
          by_cases hE256 : (E : Int) > 256
          all_goals
            go_wp2_with (first
              | (refine wpList_loadNS rfl (.tmp 15) rfl b (off + k * 49) (nd l k) rfl A1.out ?_; clear A1)
              | (go_at_call 13; refine (HFM.out wr).mono ?_; clear HFM; rintro e w4 ⟨rfl, hs4⟩; have S4 := Lib.hid (S2.out.trans hs4); clear hs4)
              | (go_at_call 14; refine (HDP.out w4 S4.out).mono ?_; clear HDP; rintro e w5 ⟨rfl, rfl⟩))
          · go_ret
            refine ⟨ret_int (HNO.out fun h => ?_).symm, S4.out⟩
            have := (h.2 k (by have := HN.out; omega)).1
            rw [HE.out] at this; omega
          · refine ⟨⟨k + 1, by omega, by go_num, S4.out, fun j hj => ?_⟩, by simp [intOf]; omega⟩
            rcases Nat.lt_or_ge j k with h | h
            · exact HA.out j h
            · obtain rfl : j = k := by omega
              exact ⟨by rw [HE.out]; omega, hfm⟩
      · have hk' : ¬ (k : Int) < (n : Int) := by omega
        obtain rfl : k = n := by omega
        by_cases hbig : (k : Int) > 65535
        · go_wp2_with fail
          go_ret
          exact ⟨ret_int (HNO.out fun h => by have := h.1; have := HN.out; omega).symm, S2.out⟩
        · go_wp2_with fail
          go_ret
          exact ⟨ret_int (HYES.out ⟨by have := HN.out; omega, fun i hi => HA.out i (by have := HN.out; omega)⟩).symm, S2.out⟩
end Go.Proofs.YtngeaigkafamiaaGreat
namespace Go.Proofs.YtngeaigkafamiaaGreat
open Go.ChangeShapes Go.WideShapes Go.ChangeAt Go.RowKit
set_option maxRecDepth 100000
theorem hRun2 {P : Program} {ops : Array Oper} {Q : Exit → Act → World → Prop} {md : Region.Mode} {S : World → Prop} (i j : Nat) (di dj : Option Tmp) (vi vj : Value) {fuel : Nat} {listed : Array Bool} {a : Act} {w wi wj : World}
    (hli : decide (i < ops.size) = true) (hlj : decide (j < ops.size) = true) (hdi : (opN ops i).dst = di) (hdj : (opN ops j).dst = dj)
    (hr : Region.ready md ops listed = [i, j]) (hwi : Region.wanted (opN ops i) (yielded ops a.tmps) = true) (hwj : Region.wanted (opN ops j) (yielded ops a.tmps) = true)
    (hxi : (execOp a.eval (opN ops i)).run P w = .ok (.value vi) wi) (hxj : (execOp a.eval (opN ops j)).run P w = .ok (.value vj) wj) (hSi : S wi) (hSj : S wj)
    (hi : wpAnyH P md ops Q S fuel (listed.setIfInBounds i true) (a.put di vi) wi) (hj : wpAnyH P md ops Q S fuel (listed.setIfInBounds j true) (a.put dj vj) wj) : wpAnyH P md ops Q S (fuel + 1) listed a w := by
  subst hdi
  subst hdj
  refine wpAnyH_ready hr (by simp) (AllReadyH.cons (opN_at hli) (fun K hK => ?_) (AllReadyH.cons (opN_at hlj) (fun K hK => ?_) AllReadyH.nil))
  · rw [if_pos hwi]
    unfold Oper.wp
    rw [hxi, Oper.upon_value]
    exact hK.out _ _ hSi (fun _ => hi)
  · rw [if_pos hwj]
    unfold Oper.wp
    rw [hxj, Oper.upon_value]
    exact hK.out _ _ hSj (fun _ => hj)
def upd {α : Type} (n : Nat) (f : Nat → α) (z : α) (k : Nat) : List α := (List.range n).map fun i => if i < k then f i else z
theorem upd_length {α : Type} (n : Nat) (f : Nat → α) (z : α) (k : Nat) : (upd n f z k).length = n := by simp [upd]
theorem upd_at {α : Type} (n : Nat) (f : Nat → α) (z : α) (k i : Nat) : (upd n f z k)[i]? = if i < n then some (if i < k then f i else z) else none := by
  unfold upd
  rw [List.getElem?_map]
  split
  · rename_i h; rw [List.getElem?_range h]; rfl
  · rename_i h; rw [List.getElem?_eq_none (by simpa using h)]; rfl
theorem upd_zero {α : Type} (n : Nat) (f : Nat → α) (z : α) : List.replicate n z = upd n f z 0 := by
  apply List.ext_getElem?
  intro i
  rw [upd_at, List.getElem?_replicate]
  simp
theorem upd_set {α : Type} {n : Nat} {f : Nat → α} {z : α} {k : Nat} (hk : k < n) : (upd n f z k).set k (f k) = upd n f z (k + 1) := by
  apply List.ext_getElem?
  intro i
  rw [List.getElem?_set, upd_at, upd_at, upd_length]
  by_cases hi : k = i
  · subst hi
    rw [if_pos rfl, if_pos hk, if_pos hk, if_pos (by omega)]
  · rw [if_neg hi]
    have : (i < k) = (i < k + 1) := propext ⟨fun h => by omega, fun h => by omega⟩
    simp only [this]
theorem upd_all {α : Type} (n : Nat) (f : Nat → α) (z : α) : upd n f z n = (List.range n).map f := by
  unfold upd
  refine List.map_congr_left fun i hi => ?_
  rw [if_pos (List.mem_range.1 hi)]
theorem nds_all (l : List Nd) : (List.range l.length).map (nd l) = l := by
  apply List.ext_getElem?
  intro i
  rw [List.getElem?_map]
  rcases Nat.lt_or_ge i l.length with h | h
  · rw [List.getElem?_range h, List.getElem?_eq_getElem h, ← nd_eq h]; rfl
  · rw [List.getElem?_eq_none (by simpa using h), List.getElem?_eq_none h]; rfl
theorem info40z : (Tryz.prog.info? 66).map (fun i => (i.zero, i.size, i.bytes)) = some (some (.agg (stl zeroS).toArray), 48, 376) := by kernel_rfl
theorem make_styles (n : Nat) (hn : n ≤ 65535) (w : World) : (Instr.makeSlice 74 (.int .i64 (n : Int)) (.int .i64 (n : Int))).run Tryz.prog w = .ok (.slice (some ⟨w.heap.size, 0, none⟩) n n) (w.alloc (.cells ((List.replicate n zeroN).flatMap stn).toArray 66)) := by
  obtain ⟨i0, hi, hz0, hz1, hz2⟩ := info_parts info40z
  have := run_make (P := Tryz.prog) w 74 66 i0 _ Tryz.underlying74 hi hz0 .i64 .i64 n n (by omega) (Int.le_refl _) (by rw [hz2]; omega) (by omega)
  rw [this, hz1, Int.toNat_natCast]
  have e : madeCells (Value.agg (stl zeroS).toArray).cells (n * 48) = ((List.replicate n zeroN).flatMap stn).toArray := made_flat stn_length (by omega) zeroN n
  rw [e]
theorem make_places (n : Nat) (hn : n ≤ 65535) (w : World) : (Instr.makeSlice 75 (.int .i64 (n : Int)) (.int .i64 (n : Int))).run Tryz.prog w = .ok (.slice (some ⟨w.heap.size, 0, none⟩) n n) (w.alloc (.cells ((List.replicate n zeroP).flatMap pll).toArray 79)) := by
  obtain ⟨i0, hi, hz0, hz1, hz2⟩ := info_parts info55z
  have := run_make (P := Tryz.prog) w 75 79 i0 _ Tryz.underlying75 hi hz0 .i64 .i64 n n (by omega) (Int.le_refl _) (by rw [hz2]; omega) (by omega)
  rw [this, hz1, Int.toNat_natCast]
  have e : madeCells (Value.agg (pll zeroP).toArray).cells (n * 5) = ((List.replicate n zeroP).flatMap pll).toArray := made_flat pll_length (by omega) zeroP n
  rw [e]
theorem KQ.first {W : World} {n : Nat} {G H : Nat} (hg : W.heap[G]? = some (.cells ((List.replicate n zeroN).flatMap stn).toArray 66)) (hh : W.heap[H]? = some (.cells ((List.replicate n zeroP).flatMap pll).toArray 79)) :
    KQ (W.alloc (.cells #[.slice (some ⟨G, 0, none⟩) n n, .slice (some ⟨H, 0, none⟩) n n] 77)) W.heap.size G H n (List.replicate n zeroN) (List.replicate n zeroP) :=
  ⟨World.alloc_heap_new W _, (Below.heap_alloc W _ _ (lt_of_block hg)).trans hg, (Below.heap_alloc W _ _ (lt_of_block hh)).trans hh⟩
theorem KQ.setS {w : World} {B G H n : Nat} {X : List Nd} {Q : List Pl} (h : KQ w B G H n X Q) (hne : G ≠ B ∧ G ≠ H) {i : Nat} (hi : i < X.length) (x : Nd) : KQ (w.setCells G (i * 48) (stn x)) B G H n (X.set i x) Q := by
  have t := turns_sets w G (i * 48) (stn x)
  refine ⟨(t.block _ (lt_of_block h.obj) (Ne.symm hne.1)).trans h.obj, block_sets h.sty _ _ (fl_sets stn_length X hi x), (t.block _ (lt_of_block h.pls) (Ne.symm hne.2)).trans h.pls⟩
theorem KQ.setP {w : World} {B G H n : Nat} {X : List Nd} {Q : List Pl} (h : KQ w B G H n X Q) (hne : H ≠ B ∧ H ≠ G) {i : Nat} (hi : i < Q.length) (x : Pl) : KQ (w.setCells H (i * 5) (pll x)) B G H n X (Q.set i x) := by
  have t := turns_sets w H (i * 5) (pll x)
  refine ⟨(t.block _ (lt_of_block h.obj) (Ne.symm hne.1)).trans h.obj, (t.block _ (lt_of_block h.sty) (Ne.symm hne.2)).trans h.sty, block_sets h.pls _ _ (fl_sets pll_length Q hi x)⟩
theorem KQ.apartG {w : World} {B G H n : Nat} {X : List Nd} {Q : List Pl} (h : KQ w B G H n X Q) : G ≠ B ∧ G ≠ H := by
  refine ⟨?_, fun e => h.apart.2 e.symm⟩
  intro e
  have h1 := h.sty
  rw [e, h.obj] at h1
  simp at h1
theorem pll_one (q : Pl) : ∀ u ∈ pll q, u.oneCell' = true := by
  intro u hu
  simp [pll] at hu
  rcases hu with rfl | rfl | rfl | rfl | rfl <;> rfl
theorem run_loadSN {w : World} {Y : Nat} {x : Nd} (h : Hn w Y x) : (Instr.loadAt 66 (.pointer (some ⟨Y, 0, none⟩))).run Tryz.prog w = .ok (sv x.s) w := by
  have := run_loadVar_mid w Y 0 66 (stl x.s) _ h.at.sty Tryz.underlying66 rfl (by rw [x.full.len]; exact info27)
  simp only [Instr.loadAt, Instr.sureAddr, Sem.run_bind, Sem.run_pure, Result.andThen_ok, this]
  rfl
theorem run_loadNN {w : World} {Y : Nat} {x : Nd} (h : Hn w Y x) : (Instr.loadAt 69 (.pointer (some ⟨Y, 0, none⟩))).run Tryz.prog w = .ok (nv x) w := by
  have := run_loadVar_mid w Y 0 69 (ndl x) _ h.at Tryz.underlying69 rfl (by rw [ndl_length]; exact info51)
  simp only [Instr.loadAt, Instr.sureAddr, Sem.run_bind, Sem.run_pure, Result.andThen_ok, this]
  rfl
set_option maxHeartbeats 8000000 in
theorem of_yes (ad : Option Addr) (n c : Nat) (l : List Nd) (w : World) (h : NS w ad n l) (hc : checkT l = 0) (hf : FormedT l) (hn : n ≤ 65535) :
    Calls Tryz.prog 6 #[.slice ad n c] w fun e w' => ∃ B G H, e = .returned (.tuple #[.pointer (some ⟨B, 0, none⟩), .int .i64 0]) ∧ (w.heap.size ≤ B ∧ w.heap.size ≤ G ∧ w.heap.size ≤ H) ∧ KK w' B G H l (endN l) ∧ Seen w w' := by
  have HC := Lib.hid (check_any ad n c l w h (by omega))
  have HS := Lib.hid h
  have HL : Hid (l.length = n) := h.1
  have HF := Lib.hid hf
  have h0 : 0 < n := by have := hf.1; have := HL.out; omega
  obtain ⟨b, off, rfl, hat⟩ := h.ats h0
  have HAT := Lib.hid hat
  rw [hc] at HC
  clear h hc hf hat
  go_enter Tryz.func6, Tryz.ntmps6
  go_upto_region 4 with (go_at_call 15; refine HC.out.mono ?_; clear HC; rintro e w1 ⟨rfl, hs⟩; have S1 := Lib.hid hs; clear hs)
  go_cut [5] (fun v wx => ∃ B G H, v = .pointer (some ⟨B, 0, none⟩) ∧ KQ wx B G H n (List.replicate n zeroN) (List.replicate n zeroP) ∧ (w1.heap.size ≤ B ∧ w1.heap.size ≤ G ∧ w1.heap.size ≤ H) ∧ Seen w1 wx)
  case first =>
    have sd : Seen w1 w1.drew := (Seen.refl w1).drew
    refine wp_region_held_drew (S := fun w' => Seen w1 w') (by kernel_rfl) sd (fun _ => ?_)
    refine ZT 0 (some 13) (.slice (some ⟨b, off, none⟩) n c) sd ?_
    simp only [Z1,Z2,Z3,Z4]
    refine ZT 1 (some 14) (.int .i64 (n : Int)) sd ?_
    simp only [Z1,Z2,Z3,Z4]
    refine ZT 3 (some 16) (.slice (some ⟨b, off, none⟩) n c) sd ?_
    simp only [Z1,Z2,Z3,Z4]
    refine ZT 4 (some 17) (.int .i64 (n : Int)) sd ?_
    simp only [Z1,Z2,Z3,Z4]
    refine hRun2 2 5 (some 15) (some 18) (.slice (some ⟨w1.heap.size, 0, none⟩) n n) (.slice (some ⟨w1.heap.size, 0, none⟩) n n) (by kernel_rfl) (by kernel_rfl) (by kernel_rfl) (by kernel_rfl) (by kernel_rfl) (by kernel_rfl) (by kernel_rfl) (run_by (Instr.makeSlice 74 (.int .i64 (n : Int)) (.int .i64 (n : Int))) (by kernel_rfl) (make_styles n hn _)) (run_by (Instr.makeSlice 75 (.int .i64 (n : Int)) (.int .i64 (n : Int))) (by kernel_rfl) (make_places n hn _)) (sd.alloc _) (sd.alloc _) ?_ ?_
    · simp only [Z1,Z2,Z3,Z4]
      obtain ⟨V, hV⟩ : ∃ V, V = w1.drew.alloc (.cells ((List.replicate n zeroN).flatMap stn).toArray 66) := ⟨_, rfl⟩
      have hVs : V.heap.size = w1.heap.size + 1 := by rw [hV]; simp
      have k1 : V.heap[w1.heap.size]? = some (.cells ((List.replicate n zeroN).flatMap stn).toArray 66) := by rw [hV]; exact World.alloc_heap_new w1.drew _
      have s1 : Seen w1 V := by rw [hV]; exact sd.alloc _
      rw [← hV]
      clear hV
      have s2 : Seen w1 (V.alloc (.cells ((List.replicate n zeroP).flatMap pll).toArray 79)) := s1.alloc _
      refine hRun 5 (some 18) (.slice (some ⟨w1.heap.size + 1, 0, none⟩) n n) (by kernel_rfl) (by kernel_rfl) (by kernel_rfl) (by kernel_rfl) (by rw [← hVs]; exact run_by (Instr.makeSlice 75 (.int .i64 (n : Int)) (.int .i64 (n : Int))) (by kernel_rfl) (make_places n hn _)) s2 ?_
      simp only [Z1,Z2,Z3,Z4]
      obtain ⟨V2, hV2⟩ : ∃ V2, V2 = V.alloc (.cells ((List.replicate n zeroP).flatMap pll).toArray 79) := ⟨_, rfl⟩
      have hV2s : V2.heap.size = w1.heap.size + 2 := by rw [hV2]; simp [hVs]
      have k2 : V2.heap[w1.heap.size + 1]? = some (.cells ((List.replicate n zeroP).flatMap pll).toArray 79) := by rw [hV2, ← hVs]; exact World.alloc_heap_new V _
      have k1' : V2.heap[w1.heap.size]? = some (.cells ((List.replicate n zeroN).flatMap stn).toArray 66) := by rw [hV2]; exact (Below.heap_alloc V _ _ (by omega)).trans k1
      rw [← hV2] at s2 ⊢
      clear hV2 k1
      refine ZT 6 (some 19) (.agg #[.slice (some ⟨w1.heap.size, 0, none⟩) n n, .slice (some ⟨(w1.heap.size + 1), 0, none⟩) n n]) s2 ?_
      simp only [Z1,Z2,Z3,Z4]
      have kq := KQ.first (G := w1.heap.size) (H := (w1.heap.size + 1)) k1' k2
      have s3 : Seen w1 (V2.alloc (.cells #[.slice (some ⟨w1.heap.size, 0, none⟩) n n, .slice (some ⟨(w1.heap.size + 1), 0, none⟩) n n] 77)) := s2.alloc _
      refine hRun 7 (some 20) (.pointer (some ⟨V2.heap.size, 0, none⟩)) (by kernel_rfl) (by kernel_rfl) (by kernel_rfl) (by kernel_rfl) (by kernel_rfl) s3 ?_
      simp only [Z1,Z2,Z3,Z4]
      refine ZT 8 (some 5) (.pointer (some ⟨V2.heap.size, 0, none⟩)) s3 ?_
      simp only [Z1,Z2,Z3,Z4]
      refine wpAnyH_done (by kernel_rfl) ?_ _
      go_wp2_with fail
      go_meet
      exact ⟨_, _, _, rfl, kq, ⟨by omega, by omega, by omega⟩, s3⟩
    · simp only [Z1,Z2,Z3,Z4]
      obtain ⟨V, hV⟩ : ∃ V, V = w1.drew.alloc (.cells ((List.replicate n zeroP).flatMap pll).toArray 79) := ⟨_, rfl⟩
      have hVs : V.heap.size = w1.heap.size + 1 := by rw [hV]; simp
      have k1 : V.heap[w1.heap.size]? = some (.cells ((List.replicate n zeroP).flatMap pll).toArray 79) := by rw [hV]; exact World.alloc_heap_new w1.drew _
      have s1 : Seen w1 V := by rw [hV]; exact sd.alloc _
      rw [← hV]
      clear hV
      have s2 : Seen w1 (V.alloc (.cells ((List.replicate n zeroN).flatMap stn).toArray 66)) := s1.alloc _
      refine hRun 2 (some 15) (.slice (some ⟨w1.heap.size + 1, 0, none⟩) n n) (by kernel_rfl) (by kernel_rfl) (by kernel_rfl) (by kernel_rfl) (by rw [← hVs]; exact run_by (Instr.makeSlice 74 (.int .i64 (n : Int)) (.int .i64 (n : Int))) (by kernel_rfl) (make_styles n hn _)) s2 ?_
      simp only [Z1,Z2,Z3,Z4]
      obtain ⟨V2, hV2⟩ : ∃ V2, V2 = V.alloc (.cells ((List.replicate n zeroN).flatMap stn).toArray 66) := ⟨_, rfl⟩
      have hV2s : V2.heap.size = w1.heap.size + 2 := by rw [hV2]; simp [hVs]
      have k2 : V2.heap[w1.heap.size + 1]? = some (.cells ((List.replicate n zeroN).flatMap stn).toArray 66) := by rw [hV2, ← hVs]; exact World.alloc_heap_new V _
      have k1' : V2.heap[w1.heap.size]? = some (.cells ((List.replicate n zeroP).flatMap pll).toArray 79) := by rw [hV2]; exact (Below.heap_alloc V _ _ (by omega)).trans k1
      rw [← hV2] at s2 ⊢
      clear hV2 k1
      refine ZT 6 (some 19) (.agg #[.slice (some ⟨(w1.heap.size + 1), 0, none⟩) n n, .slice (some ⟨w1.heap.size, 0, none⟩) n n]) s2 ?_
      simp only [Z1,Z2,Z3,Z4]
      have kq := KQ.first (G := (w1.heap.size + 1)) (H := w1.heap.size) k2 k1'
      have s3 : Seen w1 (V2.alloc (.cells #[.slice (some ⟨(w1.heap.size + 1), 0, none⟩) n n, .slice (some ⟨w1.heap.size, 0, none⟩) n n] 77)) := s2.alloc _
      refine hRun 7 (some 20) (.pointer (some ⟨V2.heap.size, 0, none⟩)) (by kernel_rfl) (by kernel_rfl) (by kernel_rfl) (by kernel_rfl) (by kernel_rfl) s3 ?_
      simp only [Z1,Z2,Z3,Z4]
      refine ZT 8 (some 5) (.pointer (some ⟨V2.heap.size, 0, none⟩)) s3 ?_
      simp only [Z1,Z2,Z3,Z4]
      refine wpAnyH_done (by kernel_rfl) ?_ _
      go_wp2_with fail
      go_meet
      exact ⟨_, _, _, rfl, kq, ⟨by omega, by omega, by omega⟩, s3⟩
  case rest =>
    obtain ⟨B, G, H, rfl, hk, ⟨hB, hG, hH⟩, hs⟩ := hcut
    have SC : Hid (Seen w wc) := S1.out.trans hs
    have HBB : Hid (w.heap.size ≤ B ∧ w.heap.size ≤ G ∧ w.heap.size ≤ H) := by have := S1.out.size; exact ⟨by omega, by omega, by omega⟩
    have AG := Lib.hid hk.apartG
    have AH := Lib.hid hk.apart
    rw [upd_zero n (nd l), upd_zero n (plE l E0)] at hk
    have HK := Lib.hid hk
    clear hk hs hB hG hH S1
    go_wp2_with fail
    go_loopw [23] (fun x wr => ∃ k : Nat, x = .int .i64 k ∧ k ≤ n ∧ KQ wr B G H n (upd n (nd l) zeroN k) (upd n (plE l E0) zeroP k) ∧ Seen w wr) (fun x _ => n - (intOf x).toNat)
    case atStart => exact ⟨0, rfl, by omega, HK.out, SC.out⟩
    case round =>
      obtain ⟨k, rfl, hk, hkq, hs⟩ := hrel
      have S2 := Lib.hid hs
      have K2 := Lib.hid hkq
      clear hs hkq HK SC
      by_cases hlt : k < n
      · have hk' : (k : Int) < (n : Int) := by omega
        have A1 : Hid (At wr b (off + k * 49) (nd l k)) := (HAT.out k hlt).seen S2.out
        obtain ⟨V, hV⟩ : ∃ V, V = wr.alloc (.cells (ndl zeroN).toArray 69) := ⟨_, rfl⟩
        have HZ : Hid (Hn V wr.heap.size zeroN) := by rw [hV]; exact hn_new wr zeroN
        have HVS : Hid (∀ w2, Turns wr.heap.size V w2 → Seen w w2 ∧ Seen wr w2) := by rw [hV]; exact fun w2 h2 => ⟨S2.out.fresh h2, (Seen.refl wr).fresh h2⟩
        go_wp2_with (first
          | (refine wpList_loadN rfl (.tmp 26) rfl b (off + k * 49) (nd l k) rfl A1.out ?_; clear A1)
          | (rw [zeroN_lit, ← hV]; clear hV; refine wpList_storeN rfl (.tmp 7) (.tmp 27) rfl wr.heap.size zeroN (nd l k) rfl rfl HZ.out ?_; intro w2 h2 t2; have R2 := Lib.hid (And.intro h2 (HVS.out w2 t2)); clear h2 t2 HZ HVS))
        obtain ⟨hn2, hs2, hsr⟩ := R2.out
        have kq2 := K2.out.seen hsr
        have hGN : G < wr.heap.size := lt_of_block K2.out.sty
        have hHN : H < wr.heap.size := lt_of_block K2.out.pls
        have hBN : B < wr.heap.size := lt_of_block K2.out.obj
        obtain ⟨Y, hY⟩ : ∃ Y, wr.heap.size = Y := ⟨_, rfl⟩
        rw [hY] at hn2 hGN hHN hBN ⊢
        have sd : (fun w' : World => w'.cell? ⟨B, 0, none⟩ = some (.slice (some ⟨G, 0, none⟩) n n) ∧ Hn w' Y (nd l k)) w2.drew := ⟨kq2.objs.1, hn2⟩
        refine wp_region_held_drew (S := fun w' => w'.cell? ⟨B, 0, none⟩ = some (.slice (some ⟨G, 0, none⟩) n n) ∧ Hn w' Y (nd l k)) (by kernel_rfl) sd (fun _ => ?_)
        refine ZT 0 (some 28) (.pointer (some ⟨B, 0, none⟩)) sd ?_
        simp only [Z1,Z2,Z3,Z4]
        refine ZT 1 (some 29) (.pointer (some ⟨B, 0, none⟩)) sd ?_
        simp only [Z1,Z2,Z3,Z4]
        refine ZT 2 (some 30) (.pointer (some ⟨B, 0, none⟩)) sd ?_
        simp only [Z1,Z2,Z3,Z4]
        refine ZU 3 (some 31) (.slice (some ⟨G, 0, none⟩) n n) (fun _ hS => run_by (Instr.loadAt 74 (.pointer (some ⟨B, 0, none⟩))) (by kernel_rfl) (run_load50 hS.1)) sd ?_
        simp only [Z1,Z2,Z3,Z4]
        refine ZT 4 (some 32) (.int .i64 (k : Int)) sd ?_
        simp only [Z1,Z2,Z3,Z4]
        refine ZT 5 (some 33) (.pointer (some ⟨Y, 0, none⟩)) sd ?_
        simp only [Z1,Z2,Z3,Z4]
        refine ZU 6 (some 34) (sv (nd l k).s) (fun _ hS => run_by (Instr.loadAt 66 (.pointer (some ⟨Y, 0, none⟩))) (by kernel_rfl) (run_loadSN hS.2)) sd ?_
        simp only [Z1,Z2,Z3,Z4]
        refine ZU 7 (some 35) (.pointer (some ⟨G, k * 48, none⟩)) (fun _ hS => run_by (Instr.indexAt 74 (.slice (some ⟨G, 0, none⟩) n n) (.int .i64 (k : Int))) (by kernel_rfl) (run_index50 G k n n hlt _)) sd ?_
        simp only [Z1,Z2,Z3,Z4]
        have kqd : KQ w2.drew B G H n (upd n (nd l) zeroN k) (upd n (plE l E0) zeroP k) := kq2.keeps rfl rfl rfl
        have e8 := run_storeC (ty := 66) (o := k * 48) (vs := stn (nd l k)) kqd.sty (by rw [stn_length, fl_len stn_length, upd_length]; omega) (by rw [stn_length]; exact info27) (stl_one _)
        have t8 := turns_sets w2.drew G (k * 48) (stn (nd l k))
        have kq3 := kqd.setS AG.out (i := k) (by rw [upd_length]; exact hlt) (nd l k)
        rw [upd_set hlt] at kq3
        obtain ⟨W, hW⟩ : ∃ W, W = w2.drew.setCells G (k * 48) (stn (nd l k)) := ⟨_, rfl⟩
        rw [← hW] at e8 t8 kq3
        have hn3 : Hn W Y (nd l k) := (t8.block _ hn2.lt (by omega)).trans hn2
        have s8 : Seen w W := Seen.turns hs2.drew t8 HBB.out.2.1
        clear hW
        refine ZK 8 none (run_skip_by (Instr.storeAt 66 (.pointer (some ⟨G, k * 48, none⟩)) (sv (nd l k).s)) (by kernel_rfl) e8) ⟨kq3.objs.1, hn3⟩ ?_
        refine wpAnyH_done (by kernel_rfl) ?_ _
        have K3 := Lib.hid kq3
        have N3 := Lib.hid hn3
        have S3 := Lib.hid s8
        have YB : Hid (w.heap.size ≤ Y ∧ H < Y) := ⟨by rw [← hY]; exact S2.out.size, hHN⟩
        clear e8 t8 kqd sd kq2 hn2 hs2 hsr R2 K2 hY kq3 hn3 s8 hGN hHN hBN
        go_wp2_with fail
        have kq4 := K3.out
        have hn4 := N3.out
        have sd : (fun w' : World => w'.cell? ⟨B, 1, none⟩ = some (.slice (some ⟨H, 0, none⟩) n n) ∧ Hn w' Y (nd l k)) W.drew := ⟨kq4.objs.2, hn4⟩
        refine wp_region_held_drew (S := fun w' => w'.cell? ⟨B, 1, none⟩ = some (.slice (some ⟨H, 0, none⟩) n n) ∧ Hn w' Y (nd l k)) (by kernel_rfl) sd (fun _ => ?_)
        refine ZT 0 (some 36) (.pointer (some ⟨B, 0, none⟩)) sd ?_
        simp only [Z1,Z2,Z3,Z4]
        refine ZT 1 (some 37) (.pointer (some ⟨B, 0, none⟩)) sd ?_
        simp only [Z1,Z2,Z3,Z4]
        refine ZT 2 (some 38) (.pointer (some ⟨B, 1, none⟩)) sd ?_
        simp only [Z1,Z2,Z3,Z4]
        refine ZU 3 (some 39) (.slice (some ⟨H, 0, none⟩) n n) (fun _ hS => run_by (Instr.loadAt 75 (.pointer (some ⟨B, 1, none⟩))) (by kernel_rfl) (run_load51 hS.1)) sd ?_
        simp only [Z1,Z2,Z3,Z4]
        refine ZT 4 (some 40) (.int .i64 (k : Int)) sd ?_
        simp only [Z1,Z2,Z3,Z4]
        refine ZT 5 (some 41) (.pointer (some ⟨B, 0, none⟩)) sd ?_
        simp only [Z1,Z2,Z3,Z4]
        refine ZU 6 (some 42) (nv (nd l k)) (fun _ hS => run_by (Instr.loadAt 69 (.pointer (some ⟨Y, 0, none⟩))) (by kernel_rfl) (run_loadNN hS.2)) sd ?_
        simp only [Z1,Z2,Z3,Z4]
        refine ZT 7 (some 43) (.int .i64 (k : Int)) sd ?_
        simp only [Z1,Z2,Z3,Z4]
        have kqd : KQ W.drew B G H n (upd n (nd l) zeroN (k + 1)) (upd n (plE l E0) zeroP k) := kq4.keeps rfl rfl rfl
        refine ZC 8 (some 44) 16 #[.pointer (some ⟨B, 0, none⟩), nv (nd l k), .int .i64 (k : Int)] ?_
        refine (placeBelow_any B G H n k _ l _ W.drew kqd HF.out HL.out (upd_length _ _ _ _) hn hlt (fun q hq => by rw [List.getD_eq_getElem?_getD, upd_at, if_pos (by omega), if_pos hq]; rfl)).mono ?_
        rintro _ w5 ⟨rfl, hs5⟩
        have kq5 := kqd.seen hs5
        have hn5 : Hn w5 Y (nd l k) := Hn.seen (w := W.drew) hn4 hs5
        refine ⟨_, rfl, ⟨kq5.objs.2, hn5⟩, ?_⟩
        simp only [Z1,Z2,Z3,Z4]
        refine ZU 9 (some 45) (.pointer (some ⟨H, k * 5, none⟩)) (fun _ hS => run_by (Instr.indexAt 75 (.slice (some ⟨H, 0, none⟩) n n) (.int .i64 (k : Int))) (by kernel_rfl) (run_index51k H k n n hlt _)) ⟨kq5.objs.2, hn5⟩ ?_
        simp only [Z1,Z2,Z3,Z4]
        have e10 := run_storeC (ty := 79) (o := k * 5) (vs := pll (plE l E0 k)) kq5.pls (by rw [pll_length, fl_len pll_length, upd_length]; omega) info55 (pll_one _)
        have t10 := turns_sets w5 H (k * 5) (pll (plE l E0 k))
        have kq6 := kq5.setP AH.out (i := k) (by rw [upd_length]; exact hlt) (plE l E0 k)
        rw [upd_set hlt] at kq6
        obtain ⟨W6, hW6⟩ : ∃ W6, W6 = w5.setCells H (k * 5) (pll (plE l E0 k)) := ⟨_, rfl⟩
        rw [← hW6] at e10 t10 kq6
        have hn6 : Hn W6 Y (nd l k) := (t10.block _ hn5.lt (by have := YB.out; omega)).trans hn5
        have s10 : Seen w W6 := Seen.turns (S3.out.drew.trans hs5) t10 HBB.out.2.2
        clear hW6
        refine ZK 10 none (run_skip_by (Instr.storeAt 79 (.pointer (some ⟨H, k * 5, none⟩)) (plv (plE l E0 k))) (by kernel_rfl) e10) ⟨kq6.objs.2, hn6⟩ ?_
        refine wpAnyH_done (by kernel_rfl) ?_ _
        have K6 := Lib.hid kq6
        have S6 := Lib.hid s10
        clear e10 t10 kqd sd kq4 kq5 hn4 hn5 hn6 hs5 kq6 s10
        go_wp2_with fail
        go_roundw
        case rel => exact ⟨k + 1, by go_num, by omega, K6.out, S6.out⟩
        case measure => simp [intOf]; omega
      · have hk' : ¬ (k : Int) < (n : Int) := by omega
        obtain rfl : k = n := by omega
        have K3 : Hid (KQ wr B G H k l (places l E0)) := by
          have := K2.out
          rw [upd_all, upd_all] at this
          unfold places
          rw [← HL.out, nds_all] at this
          rw [← HL.out]
          exact this
        have HM := Lib.hid (moveEnds_any B G H k l wr K3.out HF.out HL.out hn)
        go_wp2_with (go_at_call 17; refine HM.out.mono ?_; clear HM; rintro e w5 ⟨rfl, hk5, ht5⟩; have K5 := Lib.hid hk5; have S5 : Hid (Seen w w5) := S2.out.turns ht5 HBB.out.2.2; clear hk5 ht5)
        go_ret2
        refine ⟨B, G, H, rfl, HBB.out, ?_, S5.out⟩
        have := K5.out
        exact ⟨by rw [HL.out]; exact this.obj, this.sty, this.pls⟩
end Go.Proofs.YtngeaigkafamiaaGreat
namespace Go.Proofs.YtngeaigkafamiaaGreat
open Go.ChangeShapes Go.WideShapes Go.ChangeAt Go.RowKit
set_option maxRecDepth 100000
def plainN (p : Int) : Nd := ⟨plainK 4, p, plain_full (Nat.le_refl 4)⟩
theorem plain_tree : FormedT [plainN (-1)] := by
  refine ⟨by decide, fun i hi => ?_⟩
  obtain rfl : i = 0 := by simpa using hi
  exact ⟨(okAt0 _).2 rfl, plain_formed⟩
theorem plain_check : checkT [plainN (-1)] = 0 := by
  refine check0 (decide_eq_true plain_tree) (decide_eq_true ⟨by decide, fun i hi => ?_⟩)
  obtain rfl : i = 0 := by simpa using hi
  rw [deep_root plain_tree]
  exact ⟨by decide, plain_within⟩
theorem check_formed {l : List Nd} (h : checkT l = 0) : FormedT l := by
  unfold checkT at h
  cases hf : formedT l
  · rw [hf] at h; simp at h
  · exact of_decide_eq_true hf
theorem KK.kv {w : World} {B G H : Nat} {l : List Nd} (h : KK w B G H l (endN l)) (hf : FormedT l) (hl : l.length ≤ 65535) : KV w (.pointer (some ⟨B, 0, none⟩)) l := .inr ⟨hf, hl, B, G, H, rfl, h⟩
theorem plain_flow : (flowO [plainN (-1)] 0 ⟨640, ⟨false, 480⟩, false⟩).map (fun b => b.f.w) = some 640 := by kernel_rfl
set_option maxHeartbeats 4000000 in
theorem awake_any14 (w : World) : Calls Tryz.prog 4 #[] w fun e w' => e = .returned (.bool true) ∧ Seen w w' := by
  obtain ⟨b, hb, hw⟩ : ∃ b, flowO [plainN (-1)] 0 ⟨640, ⟨false, 480⟩, false⟩ = some b ∧ b.f.w = 640 := by
    have h := plain_flow
    cases e : flowO [plainN (-1)] 0 ⟨640, ⟨false, 480⟩, false⟩ with
    | none => rw [e] at h; cases h
    | some b => rw [e] at h; exact ⟨b, rfl, by simpa using h⟩
  have HB := Lib.hid hb
  have HW := Lib.hid hw
  clear hb hw
  go_enter Tryz.func4, Tryz.ntmps4
  go_upto_region 5 with (first
    | (go_at_call 11; refine (plain_any w).mono ?_; rintro _ w1 ⟨rfl, hs1⟩; have S1 : Hid (Seen w w1) := hs1; clear hs1)
    | (refine wpList_buildN rfl (.tmp 7) (.const (.int .i64 (-1))) rfl (plainK 4) (plain_full (Nat.le_refl 4)) (-1) rfl rfl ?_)
    | (refine wpList_buildS1 rfl (.tmp 8) rfl (plainN (-1)) rfl ?_
       obtain ⟨W, hW⟩ : ∃ W, W = w1.alloc (.cells (ndl (plainN (-1))).toArray 69) := ⟨_, rfl⟩
       rw [← hW]
       have S2 : Hid (Seen w W) := by rw [hW]; exact S1.out.alloc _
       have N2 : Hid (NS W (some ⟨w1.heap.size, 0, none⟩) 1 [plainN (-1)]) := by
         obtain ⟨a, c, e, h, _, _⟩ := ns_of_own (new_rowN w1 (plainN (-1)) 0 (Nat.zero_le _)) rfl
         cases e
         rw [hW]; exact h
       clear hW)
    | (go_at_call 6; refine (of_yes _ 1 1 _ W N2.out plain_check plain_tree (by omega)).mono ?_; rintro _ w3 ⟨B, G, H, rfl, _, hk3, hs3⟩; have S3 : Hid (Seen w w3) := S2.out.trans hs3; have K3 := Lib.hid (hk3.kv plain_tree (by decide)); clear hs3 hk3)
    | (go_at_call 7; refine (flowBox_any w3 (by decide) K3.out 0 640 false 480 false).mono ?_
       rintro e w4 ⟨hs4, hr⟩
       obtain ⟨va, vc, ra, rc, rfl⟩ : ∃ va vc ra rc, e = Ending.returned (.tuple #[frv b.f, layv (.slice va b.l.length vc) (.slice ra b.p.y.length rc) b.p b.hi, .bool true]) := by
         rcases hr with ⟨h, _⟩ | ⟨b', v, a, c, h, he, hg, _⟩
         · rw [HB.out] at h; cases h
         · obtain rfl : b = b' := by rw [HB.out] at h; simpa using h
           obtain ⟨va, vc, rfl, -, -⟩ := hg.slice pdl_length zPd
           exact ⟨va, vc, a, c, he⟩
       have S4 := Lib.hid (S3.out.trans hs4)
       clear hs4 hr)
    | (refine wpList_storeF rfl (.tmp 3) (.tmp 19) rfl w4.heap.size zFr b.f rfl rfl (by simpa using (blk_zero w4).alloc (.cells #[.slice none 0 0, .slice none 0 0, .int .i64 0, .int .i64 0, .int .i64 0, .int .i64 0, .int .i64 0, .bool false, .int .i64 0] 43)) ?_; intro W9 b9 t9)
    | (refine wpList_storeL rfl (.tmp 4) (.tmp 20) rfl (w4.heap.size + 1) zlay (.slice va b.l.length vc) (.slice ra b.p.y.length rc) (oneS _ _ _) (oneS _ _ _) b.p b.hi rfl rfl rfl ((show Blk ((w4.alloc (.cells #[.int .i64 0, .int .i64 0, .int .i64 0, .int .i64 0, .int .i64 0, .int .i64 0, .int .i64 0, .int .i64 0, .int .i64 0, .int .i64 0, .int .i64 0, .int .i64 0, .int .i64 0, .int .i64 0, .int .i64 0, .int .i64 0, .bool false, .int .i64 0, .int .i64 0, .int .i64 0, .int .i64 0, .int .i64 0, .int .i64 0, .bool false, .int .i64 0] 37)).alloc (.cells #[.slice none 0 0, .slice none 0 0, .int .i64 0, .int .i64 0, .int .i64 0, .int .i64 0, .int .i64 0, .bool false, .int .i64 0] 43)) (w4.heap.size + 1) zlay 43 by simpa using blk_zlay (w4.alloc (.cells #[.int .i64 0, .int .i64 0, .int .i64 0, .int .i64 0, .int .i64 0, .int .i64 0, .int .i64 0, .int .i64 0, .int .i64 0, .int .i64 0, .int .i64 0, .int .i64 0, .int .i64 0, .int .i64 0, .int .i64 0, .int .i64 0, .bool false, .int .i64 0, .int .i64 0, .int .i64 0, .int .i64 0, .int .i64 0, .int .i64 0, .bool false, .int .i64 0] 37))).turns t9 (by omega)) ?_; intro W10 b10 t10))
  have y2 : W10.cell? ⟨w4.heap.size, 2, none⟩ = some (.int .i64 640) := by rw [← HW.out]; exact (b9.turns t10 (by omega)).cell 2
  have SW := Lib.hid ((((S4.out.alloc _).alloc _).turns t9 (by have := S4.out.size; omega)).turns t10 (by have := S4.out.size; omega))
  clear b9 b10 t9 t10
  go_wp2_with fail
  go_ret
  exact ⟨rfl, SW.out⟩
end Go.Proofs.YtngeaigkafamiaaGreat
namespace Go.Proofs.YtngeaigkafamiaaGreat
open Go.ChangeShapes Go.WideShapes Go.ChangeAt Go.RowKit Go.Joins Go.Deep
set_option maxRecDepth 100000
section
variable {H : Type} {enc : TypeId × Value → H} {w : World} {base : Nat} {spare : Nat → Bool} {held : Bool} {fuel : Nat} {x : DataW H × List MemPlace}
theorem c2 : Tryz.prog.cellsOf 2 = 1 := by kernel_rfl
theorem c3 : Tryz.prog.cellsOf 3 = 1 := by kernel_rfl
theorem c4 : Tryz.prog.cellsOf 4 = 1 := by kernel_rfl
theorem c23 : Tryz.prog.cellsOf 63 = 2 := by kernel_rfl
theorem c24 : Tryz.prog.cellsOf 64 = 8 := by kernel_rfl
theorem c25 : Tryz.prog.cellsOf 31 = 4 := by kernel_rfl
theorem c27 : Tryz.prog.cellsOf 66 = 48 := by kernel_rfl
theorem trod_i {t : TypeId} (ht : Tryz.prog.underlying t = some (.int .i64)) {a : Value} (h : DataW.trod enc Tryz.prog w base spare held fuel t [a] = some x) : ∃ n, a = .int .i64 n ∧ i64B n := by
  obtain ⟨n, q, _, wn⟩ := DataW.trod_int ht h
  simp only [List.cons.injEq, and_true] at q
  exact ⟨n, q, wf_i64 wn⟩
theorem trod_b {a : Value} (h : DataW.trod enc Tryz.prog w base spare held fuel 4 [a] = some x) : ∃ b, a = .bool b := by
  obtain ⟨b, q, _⟩ := DataW.trod_bool Tryz.underlying4 h
  simp only [List.cons.injEq, and_true] at q
  exact ⟨b, q⟩
def okLn (q : Ln) : Prop := i64B q.k ∧ i64B q.n
theorem some_of {α : Type} {l : List α} {i n : Nat} (h : l.length = n) (hi : i < n) : ∃ y, l[i]? = some y := ⟨l[i], List.getElem?_eq_getElem (by omega)⟩
theorem trod_len {a b : Value} (h : DataW.trod enc Tryz.prog w base spare held fuel 63 [a, b] = some x) : ∃ q : Ln, a = .int .i64 q.k ∧ b = .int .i64 q.n ∧ okLn q := by
  obtain ⟨xs, n, _, _, _, hxl, hf⟩ := DataW.trod_struct Tryz.underlying63 h
  obtain ⟨y0, e0⟩ := some_of (i := 0) hxl (by decide)
  obtain ⟨y1, e1⟩ := some_of (i := 1) hxl (by decide)
  have h0 : DataW.trod enc Tryz.prog w base spare held n 3 [a] = some y0 := by have h := (hf 0 _ rfl).trans e0; simpa [c3] using h
  have h1 : DataW.trod enc Tryz.prog w base spare held n 2 [b] = some y1 := by have h := (hf 1 _ rfl).trans e1; simpa [c2] using h
  obtain ⟨k, rfl, hk⟩ := trod_i Tryz.underlying3 h0
  obtain ⟨m, rfl, hm⟩ := trod_i Tryz.underlying2 h1
  exact ⟨⟨k, m⟩, rfl, rfl, hk, hm⟩
theorem trod_lens4 {a0 b0 a1 b1 a2 b2 a3 b3 : Value} (h : DataW.trod enc Tryz.prog w base spare held fuel 64 [a0, b0, a1, b1, a2, b2, a3, b3] = some x) :
    ∃ q0 q1 q2 q3 : Ln, (a0 = .int .i64 q0.k ∧ b0 = .int .i64 q0.n ∧ okLn q0) ∧ (a1 = .int .i64 q1.k ∧ b1 = .int .i64 q1.n ∧ okLn q1) ∧ (a2 = .int .i64 q2.k ∧ b2 = .int .i64 q2.n ∧ okLn q2) ∧ (a3 = .int .i64 q3.k ∧ b3 = .int .i64 q3.n ∧ okLn q3) := by
  obtain ⟨xs, n, _, _, _, hxl, hf⟩ := DataW.trod_array Tryz.underlying64 h
  rw [c23] at hf
  obtain ⟨y0, e0⟩ := some_of (i := 0) hxl (by decide)
  obtain ⟨q0, r0⟩ := trod_len ((hf 0 (by decide)).trans e0)
  obtain ⟨y1, e1⟩ := some_of (i := 1) hxl (by decide)
  obtain ⟨q1, r1⟩ := trod_len ((hf 1 (by decide)).trans e1)
  obtain ⟨y2, e2⟩ := some_of (i := 2) hxl (by decide)
  obtain ⟨q2, r2⟩ := trod_len ((hf 2 (by decide)).trans e2)
  obtain ⟨y3, e3⟩ := some_of (i := 3) hxl (by decide)
  obtain ⟨q3, r3⟩ := trod_len ((hf 3 (by decide)).trans e3)
  exact ⟨q0, q1, q2, q3, r0, r1, r2, r3⟩
theorem trod_ints4 {a0 a1 a2 a3 : Value} (h : DataW.trod enc Tryz.prog w base spare held fuel 31 [a0, a1, a2, a3] = some x) :
    ∃ n0 n1 n2 n3 : Int, (a0 = .int .i64 n0 ∧ i64B n0) ∧ (a1 = .int .i64 n1 ∧ i64B n1) ∧ (a2 = .int .i64 n2 ∧ i64B n2) ∧ (a3 = .int .i64 n3 ∧ i64B n3) := by
  obtain ⟨xs, n, _, _, _, hxl, hf⟩ := DataW.trod_array Tryz.underlying31 h
  rw [c2] at hf
  obtain ⟨y0, e0⟩ := some_of (i := 0) hxl (by decide)
  obtain ⟨n0, r0⟩ := trod_i Tryz.underlying2 ((hf 0 (by decide)).trans e0)
  obtain ⟨y1, e1⟩ := some_of (i := 1) hxl (by decide)
  obtain ⟨n1, r1⟩ := trod_i Tryz.underlying2 ((hf 1 (by decide)).trans e1)
  obtain ⟨y2, e2⟩ := some_of (i := 2) hxl (by decide)
  obtain ⟨n2, r2⟩ := trod_i Tryz.underlying2 ((hf 2 (by decide)).trans e2)
  obtain ⟨y3, e3⟩ := some_of (i := 3) hxl (by decide)
  obtain ⟨n3, r3⟩ := trod_i Tryz.underlying2 ((hf 3 (by decide)).trans e3)
  exact ⟨n0, n1, n2, n3, r0, r1, r2, r3⟩
set_option maxHeartbeats 4000000 in
set_option maxRecDepth 100000 in
theorem trod_style {cs : List Value} (h : DataW.trod enc Tryz.prog w base spare held fuel 66 cs = some x) : ∃ s : Sty, cs = stl s ∧ OkS s := by
  obtain ⟨xs, n, _, _, hl, hxl, hf⟩ := DataW.trod_struct Tryz.underlying66 h
  clear h
  rw [c27] at hl
  match cs, hl with
  | k0 :: k1 :: k2 :: k3 :: k4 :: k5 :: k6 :: k7 :: k8 :: k9 :: k10 :: k11 :: k12 :: k13 :: k14 :: k15 :: k16 :: k17 :: k18 :: k19 :: k20 :: k21 :: k22 :: k23 :: k24 :: k25 :: k26 :: k27 :: k28 :: k29 :: k30 :: k31 :: k32 :: k33 :: k34 :: k35 :: k36 :: k37 :: k38 :: k39 :: k40 :: k41 :: k42 :: k43 :: k44 :: k45 :: k46 :: k47 :: [], _ =>
    obtain ⟨y0, e0⟩ := some_of (i := 0) hxl (by decide)
    have h0 : DataW.trod enc Tryz.prog w base spare held n 4 [k0] = some y0 := by have h := (hf 0 _ rfl).trans e0; simpa [c4] using h
    obtain ⟨v0, rfl⟩ := trod_b h0
    obtain ⟨y1, e1⟩ := some_of (i := 1) hxl (by decide)
    have h1 : DataW.trod enc Tryz.prog w base spare held n 3 [k1] = some y1 := by have h := (hf 1 _ rfl).trans e1; simpa [c3] using h
    obtain ⟨v1, rfl, g1⟩ := trod_i Tryz.underlying3 h1
    obtain ⟨y2, e2⟩ := some_of (i := 2) hxl (by decide)
    have h2 : DataW.trod enc Tryz.prog w base spare held n 64 [k2, k3, k4, k5, k6, k7, k8, k9] = some y2 := by have h := (hf 2 _ rfl).trans e2; simpa [c24] using h
    obtain ⟨q0, q1, q2, q3, ⟨rfl, rfl, g2⟩, ⟨rfl, rfl, g4⟩, ⟨rfl, rfl, g6⟩, ⟨rfl, rfl, g8⟩⟩ := trod_lens4 h2
    obtain ⟨y3, e3⟩ := some_of (i := 3) hxl (by decide)
    have h3 : DataW.trod enc Tryz.prog w base spare held n 63 [k10, k11] = some y3 := by have h := (hf 3 _ rfl).trans e3; simpa [c23] using h
    obtain ⟨q4, rfl, rfl, g10⟩ := trod_len h3
    obtain ⟨y4, e4⟩ := some_of (i := 4) hxl (by decide)
    have h4 : DataW.trod enc Tryz.prog w base spare held n 63 [k12, k13] = some y4 := by have h := (hf 4 _ rfl).trans e4; simpa [c23] using h
    obtain ⟨q5, rfl, rfl, g12⟩ := trod_len h4
    obtain ⟨y5, e5⟩ := some_of (i := 5) hxl (by decide)
    have h5 : DataW.trod enc Tryz.prog w base spare held n 63 [k14, k15] = some y5 := by have h := (hf 5 _ rfl).trans e5; simpa [c23] using h
    obtain ⟨q6, rfl, rfl, g14⟩ := trod_len h5
    obtain ⟨y6, e6⟩ := some_of (i := 6) hxl (by decide)
    have h6 : DataW.trod enc Tryz.prog w base spare held n 63 [k16, k17] = some y6 := by have h := (hf 6 _ rfl).trans e6; simpa [c23] using h
    obtain ⟨q7, rfl, rfl, g16⟩ := trod_len h6
    obtain ⟨y7, e7⟩ := some_of (i := 7) hxl (by decide)
    have h7 : DataW.trod enc Tryz.prog w base spare held n 63 [k18, k19] = some y7 := by have h := (hf 7 _ rfl).trans e7; simpa [c23] using h
    obtain ⟨q8, rfl, rfl, g18⟩ := trod_len h7
    obtain ⟨y8, e8⟩ := some_of (i := 8) hxl (by decide)
    have h8 : DataW.trod enc Tryz.prog w base spare held n 63 [k20, k21] = some y8 := by have h := (hf 8 _ rfl).trans e8; simpa [c23] using h
    obtain ⟨q9, rfl, rfl, g20⟩ := trod_len h8
    obtain ⟨y9, e9⟩ := some_of (i := 9) hxl (by decide)
    have h9 : DataW.trod enc Tryz.prog w base spare held n 64 [k22, k23, k24, k25, k26, k27, k28, k29] = some y9 := by have h := (hf 9 _ rfl).trans e9; simpa [c24] using h
    obtain ⟨q10, q11, q12, q13, ⟨rfl, rfl, g22⟩, ⟨rfl, rfl, g24⟩, ⟨rfl, rfl, g26⟩, ⟨rfl, rfl, g28⟩⟩ := trod_lens4 h9
    obtain ⟨y10, e10⟩ := some_of (i := 10) hxl (by decide)
    have h10 : DataW.trod enc Tryz.prog w base spare held n 64 [k30, k31, k32, k33, k34, k35, k36, k37] = some y10 := by have h := (hf 10 _ rfl).trans e10; simpa [c24] using h
    obtain ⟨q14, q15, q16, q17, ⟨rfl, rfl, g30⟩, ⟨rfl, rfl, g32⟩, ⟨rfl, rfl, g34⟩, ⟨rfl, rfl, g36⟩⟩ := trod_lens4 h10
    obtain ⟨y11, e11⟩ := some_of (i := 11) hxl (by decide)
    have h11 : DataW.trod enc Tryz.prog w base spare held n 31 [k38, k39, k40, k41] = some y11 := by have h := (hf 11 _ rfl).trans e11; simpa [c25] using h
    obtain ⟨n0, n1, n2, n3, ⟨rfl, g38⟩, ⟨rfl, g39⟩, ⟨rfl, g40⟩, ⟨rfl, g41⟩⟩ := trod_ints4 h11
    obtain ⟨y12, e12⟩ := some_of (i := 12) hxl (by decide)
    have h12 : DataW.trod enc Tryz.prog w base spare held n 4 [k42] = some y12 := by have h := (hf 12 _ rfl).trans e12; simpa [c4] using h
    obtain ⟨v42, rfl⟩ := trod_b h12
    obtain ⟨y13, e13⟩ := some_of (i := 13) hxl (by decide)
    have h13 : DataW.trod enc Tryz.prog w base spare held n 4 [k43] = some y13 := by have h := (hf 13 _ rfl).trans e13; simpa [c4] using h
    obtain ⟨v43, rfl⟩ := trod_b h13
    obtain ⟨y14, e14⟩ := some_of (i := 14) hxl (by decide)
    have h14 : DataW.trod enc Tryz.prog w base spare held n 2 [k44] = some y14 := by have h := (hf 14 _ rfl).trans e14; simpa [c2] using h
    obtain ⟨v44, rfl, g44⟩ := trod_i Tryz.underlying2 h14
    obtain ⟨y15, e15⟩ := some_of (i := 15) hxl (by decide)
    have h15 : DataW.trod enc Tryz.prog w base spare held n 4 [k45] = some y15 := by have h := (hf 15 _ rfl).trans e15; simpa [c4] using h
    obtain ⟨v45, rfl⟩ := trod_b h15
    obtain ⟨y16, e16⟩ := some_of (i := 16) hxl (by decide)
    have h16 : DataW.trod enc Tryz.prog w base spare held n 2 [k46] = some y16 := by have h := (hf 16 _ rfl).trans e16; simpa [c2] using h
    obtain ⟨v46, rfl, g46⟩ := trod_i Tryz.underlying2 h16
    obtain ⟨y17, e17⟩ := some_of (i := 17) hxl (by decide)
    have h17 : DataW.trod enc Tryz.prog w base spare held n 2 [k47] = some y17 := by have h := (hf 17 _ rfl).trans e17; simpa [c2] using h
    obtain ⟨v47, rfl, g47⟩ := trod_i Tryz.underlying2 h17
    refine ⟨⟨v0, v1, [q0, q1, q2, q3, q4, q5, q6, q7, q8, q9, q10, q11, q12, q13, q14, q15, q16, q17], [n0, n1, n2, n3], v42, v43, v44, v45, v46, v47⟩, rfl, ⟨⟨rfl, rfl⟩, g1, ?_, ?_, g44, g46, g47⟩⟩
    · intro y hy
      simp only [List.mem_cons, List.not_mem_nil, or_false] at hy
      rcases hy with rfl | rfl | rfl | rfl | rfl | rfl | rfl | rfl | rfl | rfl | rfl | rfl | rfl | rfl | rfl | rfl | rfl | rfl
      · exact g2
      · exact g4
      · exact g6
      · exact g8
      · exact g10
      · exact g12
      · exact g14
      · exact g16
      · exact g18
      · exact g20
      · exact g22
      · exact g24
      · exact g26
      · exact g28
      · exact g30
      · exact g32
      · exact g34
      · exact g36
    · intro y hy
      simp only [List.mem_cons, List.not_mem_nil, or_false] at hy
      rcases hy with rfl | rfl | rfl | rfl
      · exact g38
      · exact g39
      · exact g40
      · exact g41
end
end Go.Proofs.YtngeaigkafamiaaGreat
namespace Go.Proofs.YtngeaigkafamiaaGreat
open Go.ChangeShapes Go.WideShapes Go.ChangeAt Go.RowKit
set_option maxRecDepth 100000
def OkN (q : Nd) : Prop := OkS q.s ∧ i64B q.p
section
variable {H : Type} {enc : TypeId × Value → H} {w : World} {base : Nat} {spare : Nat → Bool} {held : Bool}
theorem c51 : Tryz.prog.cellsOf 69 = 49 := by kernel_rfl
theorem trod_node {fuel : Nat} {x : DataW H × List MemPlace} {cs : List Value} (h : DataW.trod enc Tryz.prog w base spare held fuel 69 cs = some x) : ∃ q : Nd, cs = ndl q ∧ OkN q := by
  obtain ⟨xs, n, _, _, hl, hxl, hf⟩ := DataW.trod_struct Tryz.underlying69 h
  rw [c51] at hl
  obtain ⟨y0, e0⟩ := some_of (i := 0) hxl (by decide)
  obtain ⟨y1, e1⟩ := some_of (i := 1) hxl (by decide)
  have h0 : DataW.trod enc Tryz.prog w base spare held n 66 (cs.take 48) = some y0 := by have h := (hf 0 _ rfl).trans e0; simpa [c27] using h
  have h1 : DataW.trod enc Tryz.prog w base spare held n 3 ((cs.drop 48).take 1) = some y1 := by have h := (hf 1 _ rfl).trans e1; simpa [c3] using h
  obtain ⟨s, hs, oks⟩ := trod_style h0
  have hd : (cs.drop 48).length = 1 := by rw [List.length_drop, hl]
  rw [List.take_of_length_le (by omega)] at h1
  match hq : cs.drop 48, hd with
  | [v], _ =>
    rw [hq] at h1
    obtain ⟨p, rfl, okp⟩ := trod_i Tryz.underlying3 h1
    refine ⟨⟨s, p, oks.full⟩, ?_, oks, okp⟩
    show cs = stl s ++ [.int .i64 p]
    rw [← hs, ← hq, List.take_append_drop]
theorem open_nodes {r : Reach} {b0 : Nat} {v : Value} {d : DataW H} {p : List MemPlace} (hv : Value.okWide Tryz.prog w r b0 22 v) (h : DataW.Trod enc Tryz.prog w base spare held 22 v d p) :
    ∃ (a : Option Addr) (len cap : Nat) (l : List Nd), v = .slice a len cap ∧ NS w a len l ∧ (∀ q ∈ l, OkN q) ∧ len ≤ cap ∧ (a = none → cap = 0) :=
  open_list ndl OkN zeroN Tryz.underlying22 c51 (by omega) ndl_length (fun _ _ _ hx => trod_node hx) hv h
end
end Go.Proofs.YtngeaigkafamiaaGreat

