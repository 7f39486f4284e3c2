/- Contract of Cut. -/
import Derived.Test.YtckfdlolmenigaaCutDefs
namespace Go.Proofs.Ytckfdlolmenigaa
open Go.ChangeShapes Go.WideShapes Go.ChangeAt Go.RowKit
theorem own_one (w : World) (r : R4) (base : Nat) (h : base ≤ w.heap.size) :
    (w.alloc (.cells #[.int .i64 r.x0, .int .i64 r.y0, .int .i64 r.x1, .int .i64 r.y1] 23)).ownsRow base 23 4 (.slice (some ⟨w.heap.size, 0, none⟩) 1 1) 1 (flat [r]) :=
  ⟨rfl, .inr ⟨w.heap.size, 1, #[.int .i64 r.x0, .int .i64 r.y0, .int .i64 r.x1, .int .i64 r.y1], rfl, h, (by show (w.heap.push _)[w.heap.size]? = _; simp), Nat.le_refl _, by decide, rfl, rfl⟩⟩
set_option maxHeartbeats 8000000 in
theorem cut_any (a b : R4) (w : World) :
    Calls Try.prog 30 #[.agg #[.int .i64 a.x0, .int .i64 a.y0, .int .i64 a.x1, .int .i64 a.y1], .agg #[.int .i64 b.x0, .int .i64 b.y0, .int .i64 b.x1, .int .i64 b.y1]] w fun e w' => (∃ v, e = .returned v ∧ w'.ownsRow w.heap.size 23 4 v (cutL a b).length (flat (cutL a b))) ∧ Below w.heap.size w w' := by
  rcases Bool.eq_false_or_eq_true (emptyB a) with he | he
  · have HC : Hid (cutL a b = []) := by unfold cutL; rw [he]; rfl
    have HE := Lib.hid he
    clear he
    go_enter Try.func30, Try.ntmps30
    go_wp2_with (go_at_call 28; refine (empty_ex a _).mono ?_; rintro e w' ⟨rfl, rfl⟩; rw [HE.out])
    go_ret
    exact ⟨⟨_, rfl, by rw [HC.out]; exact World.ownsRow_nil _ _ _ _⟩, by go_grown⟩
  · have HE := Lib.hid he
    clear he
    obtain ⟨i0, hi0, hz0, hz1, hz2⟩ := info_parts info23
    go_enter Try.func30, Try.ntmps30
    go_wp2_with (go_at_call 28; refine (empty_ex a _).mono ?_; rintro e w' ⟨rfl, rfl⟩; rw [HE.out])
    refine (meet_any a b _).mono ?_
    rintro e w1 ⟨rfl, hb⟩
    go_wp2_with fail
    obtain ⟨W1, hW1⟩ : ∃ W1, W1 = w1.alloc (.cells #[.int .i64 (meetR a b).x0, .int .i64 (meetR a b).y0, .int .i64 (meetR a b).x1, .int .i64 (meetR a b).y1] 23) := ⟨_, rfl⟩
    have hs : Seen w1 W1 := by rw [hW1]; exact (Seen.refl _).alloc _
    have ba0 : Box w1 w.heap.size a := Seen.box hb (((box_new w a).alloc _).alloc _)
    have ba := Box.rules (hs.box ba0)
    clear ba0
    have bm := Box.rules (show Box W1 w1.heap.size (meetR a b) by rw [hW1]; unfold Box; simp)
    have hWb : Below w.heap.size w W1 := Seen.trans (Seen.trans (by unfold Seen; go_grown) hb) hs
    rw [← hW1]
    clear hW1 hb hs
    refine (empty_any (meetR a b) _).mono ?_
    rintro e w2 ⟨rfl, hb2⟩
    have h2 : Seen W1 w2 := hb2
    have hWb2 : Below w.heap.size w w2 := Seen.trans hWb h2
    clear hb2
    rcases Bool.eq_false_or_eq_true (emptyB (meetR a b)) with hm | hm
    · have HM := Lib.hid hm
      rw [hm]
      clear hm
      go_wp2
      go_ret
      refine ⟨⟨_, rfl, ?_⟩, hWb2.alloc hWb2.size _⟩
      have hc : cutL a b = [a] := by unfold cutL; rw [HE.out, HM.out]; rfl
      rw [hc]
      exact own_one w2 a _ hWb2.size
    · have HM := Lib.hid hm
      rw [hm]
      clear hm
      go_wp2_with fail
      go_loopw [6, 55] (fun v i wr => ∃ k : Nat, k ≤ 4 ∧ i = .int .i64 k ∧ wr.ownsRow w.heap.size 23 4 v (solid ((partsL a (meetR a b)).take k)).length (flat (solid ((partsL a (meetR a b)).take k))) ∧ Below w.heap.size w wr) (fun _ i _ => 4 - (intOf i).toNat)
      case atStart => exact ⟨0, Nat.zero_le _, rfl, World.ownsRow_nil _ _ _ _, hWb2⟩
      case round =>
        obtain ⟨k, hk, rfl, hown, hbel⟩ := hrel
        clear ba bm
        have hsz := hbel.size
        have HO := Lib.hid hown
        have HB := Lib.hid hbel
        clear hown hbel
        have hcase : k = 0 ∨ k = 1 ∨ k = 2 ∨ k = 3 ∨ k = 4 := by omega
        rcases hcase with rfl | rfl | rfl | rfl | rfl
        · have hix := index35_0
          have hstep : (partsL a (meetR a b)).take (0 + 1) = (partsL a (meetR a b)).take 0 ++ [⟨a.x0, a.y0, a.x1, (meetR a b).y0⟩] := rfl
          have HS := Lib.hid hstep
          clear hstep
          rcases Bool.eq_false_or_eq_true (emptyB ⟨a.x0, a.y0, a.x1, (meetR a b).y0⟩) with hp | hp
          · have HP := Lib.hid hp
            clear hp
            go_wp2_with (go_at_call 28; refine (empty_ex ⟨a.x0, a.y0, a.x1, (meetR a b).y0⟩ _).mono ?_; rintro e w' ⟨rfl, rfl⟩; rw [HP.out])
            go_roundw
            case rel =>
              refine ⟨0 + 1, by omega, by go_num, ?_, ?_⟩
              · rw [HS.out, solid_snoc_t HP.out]; exact (HO.out.alloc _).alloc _
              · exact (HB.out.alloc hsz _).alloc (by simp; omega) _
            case measure => simp [intOf]
          · have HP := Lib.hid hp
            clear hp
            have hle := solid_length ((partsL a (meetR a b)).take 0)
            have hle4 : (solid ((partsL a (meetR a b)).take 0)).length ≤ 4 := Nat.le_trans hle (Nat.le_trans (List.length_take_le _ _) (by decide))
            clear hle
            go_wp2_with (first | (go_at_call 28; refine (empty_ex ⟨a.x0, a.y0, a.x1, (meetR a b).y0⟩ _).mono ?_; rintro e w' ⟨rfl, rfl⟩; rw [HP.out]) | (at_builtin; refine wpList_append_own _ rfl (.tmp 61) (.tmp 63) 24 rfl w.heap.size 23 i0 (.agg #[.int .i64 0, .int .i64 0, .int .i64 0, .int .i64 0]) 4 32 Try.underlying24 hi0 hz0 hz1 hz2 rfl (by decide) u6 _ _ rfl (((HO.out.alloc _).alloc _).alloc _) ⟨wr.heap.size + 1 + 1, 0, none⟩ 1 1 (flat [⟨a.x0, a.y0, a.x1, (meetR a b).y0⟩]) rfl rfl (new_cells_at _ ⟨a.x0, a.y0, a.x1, (meetR a b).y0⟩ _ (by simp)) (flat_one _) (by unfold maxLen; omega) (by omega) (by simp; omega) ?_; intro v1 w1 hown1 hgrow1 hni; clear hni; have HO1 := Lib.hid hown1; have HG1 := Lib.hid hgrow1; clear hown1 hgrow1))
            go_roundw
            case rel =>
              refine ⟨0 + 1, by omega, by go_num, ?_, ?_⟩
              · rw [HS.out, solid_snoc_f HP.out, flat_append, List.length_append]; exact HO1.out
              · exact (((HB.out.alloc hsz _).alloc (by simp; omega) _).alloc (by simp; omega) _).grown HG1.out (by simp; omega) (fun g hg => (HO.out.lt g hg).1)
            case measure => simp [intOf]
        · have hix := index35_1
          have hstep : (partsL a (meetR a b)).take (1 + 1) = (partsL a (meetR a b)).take 1 ++ [⟨a.x0, (meetR a b).y1, a.x1, a.y1⟩] := rfl
          have HS := Lib.hid hstep
          clear hstep
          rcases Bool.eq_false_or_eq_true (emptyB ⟨a.x0, (meetR a b).y1, a.x1, a.y1⟩) with hp | hp
          · have HP := Lib.hid hp
            clear hp
            go_wp2_with (go_at_call 28; refine (empty_ex ⟨a.x0, (meetR a b).y1, a.x1, a.y1⟩ _).mono ?_; rintro e w' ⟨rfl, rfl⟩; rw [HP.out])
            go_roundw
            case rel =>
              refine ⟨1 + 1, by omega, by go_num, ?_, ?_⟩
              · rw [HS.out, solid_snoc_t HP.out]; exact (HO.out.alloc _).alloc _
              · exact (HB.out.alloc hsz _).alloc (by simp; omega) _
            case measure => simp [intOf]
          · have HP := Lib.hid hp
            clear hp
            have hle := solid_length ((partsL a (meetR a b)).take 1)
            have hle4 : (solid ((partsL a (meetR a b)).take 1)).length ≤ 4 := Nat.le_trans hle (Nat.le_trans (List.length_take_le _ _) (by decide))
            clear hle
            go_wp2_with (first | (go_at_call 28; refine (empty_ex ⟨a.x0, (meetR a b).y1, a.x1, a.y1⟩ _).mono ?_; rintro e w' ⟨rfl, rfl⟩; rw [HP.out]) | (at_builtin; refine wpList_append_own _ rfl (.tmp 61) (.tmp 63) 24 rfl w.heap.size 23 i0 (.agg #[.int .i64 0, .int .i64 0, .int .i64 0, .int .i64 0]) 4 32 Try.underlying24 hi0 hz0 hz1 hz2 rfl (by decide) u6 _ _ rfl (((HO.out.alloc _).alloc _).alloc _) ⟨wr.heap.size + 1 + 1, 0, none⟩ 1 1 (flat [⟨a.x0, (meetR a b).y1, a.x1, a.y1⟩]) rfl rfl (new_cells_at _ ⟨a.x0, (meetR a b).y1, a.x1, a.y1⟩ _ (by simp)) (flat_one _) (by unfold maxLen; omega) (by omega) (by simp; omega) ?_; intro v1 w1 hown1 hgrow1 hni; clear hni; have HO1 := Lib.hid hown1; have HG1 := Lib.hid hgrow1; clear hown1 hgrow1))
            go_roundw
            case rel =>
              refine ⟨1 + 1, by omega, by go_num, ?_, ?_⟩
              · rw [HS.out, solid_snoc_f HP.out, flat_append, List.length_append]; exact HO1.out
              · exact (((HB.out.alloc hsz _).alloc (by simp; omega) _).alloc (by simp; omega) _).grown HG1.out (by simp; omega) (fun g hg => (HO.out.lt g hg).1)
            case measure => simp [intOf]
        · have hix := index35_2
          have hstep : (partsL a (meetR a b)).take (2 + 1) = (partsL a (meetR a b)).take 2 ++ [⟨a.x0, (meetR a b).y0, (meetR a b).x0, (meetR a b).y1⟩] := rfl
          have HS := Lib.hid hstep
          clear hstep
          rcases Bool.eq_false_or_eq_true (emptyB ⟨a.x0, (meetR a b).y0, (meetR a b).x0, (meetR a b).y1⟩) with hp | hp
          · have HP := Lib.hid hp
            clear hp
            go_wp2_with (go_at_call 28; refine (empty_ex ⟨a.x0, (meetR a b).y0, (meetR a b).x0, (meetR a b).y1⟩ _).mono ?_; rintro e w' ⟨rfl, rfl⟩; rw [HP.out])
            go_roundw
            case rel =>
              refine ⟨2 + 1, by omega, by go_num, ?_, ?_⟩
              · rw [HS.out, solid_snoc_t HP.out]; exact (HO.out.alloc _).alloc _
              · exact (HB.out.alloc hsz _).alloc (by simp; omega) _
            case measure => simp [intOf]
          · have HP := Lib.hid hp
            clear hp
            have hle := solid_length ((partsL a (meetR a b)).take 2)
            have hle4 : (solid ((partsL a (meetR a b)).take 2)).length ≤ 4 := Nat.le_trans hle (Nat.le_trans (List.length_take_le _ _) (by decide))
            clear hle
            go_wp2_with (first | (go_at_call 28; refine (empty_ex ⟨a.x0, (meetR a b).y0, (meetR a b).x0, (meetR a b).y1⟩ _).mono ?_; rintro e w' ⟨rfl, rfl⟩; rw [HP.out]) | (at_builtin; refine wpList_append_own _ rfl (.tmp 61) (.tmp 63) 24 rfl w.heap.size 23 i0 (.agg #[.int .i64 0, .int .i64 0, .int .i64 0, .int .i64 0]) 4 32 Try.underlying24 hi0 hz0 hz1 hz2 rfl (by decide) u6 _ _ rfl (((HO.out.alloc _).alloc _).alloc _) ⟨wr.heap.size + 1 + 1, 0, none⟩ 1 1 (flat [⟨a.x0, (meetR a b).y0, (meetR a b).x0, (meetR a b).y1⟩]) rfl rfl (new_cells_at _ ⟨a.x0, (meetR a b).y0, (meetR a b).x0, (meetR a b).y1⟩ _ (by simp)) (flat_one _) (by unfold maxLen; omega) (by omega) (by simp; omega) ?_; intro v1 w1 hown1 hgrow1 hni; clear hni; have HO1 := Lib.hid hown1; have HG1 := Lib.hid hgrow1; clear hown1 hgrow1))
            go_roundw
            case rel =>
              refine ⟨2 + 1, by omega, by go_num, ?_, ?_⟩
              · rw [HS.out, solid_snoc_f HP.out, flat_append, List.length_append]; exact HO1.out
              · exact (((HB.out.alloc hsz _).alloc (by simp; omega) _).alloc (by simp; omega) _).grown HG1.out (by simp; omega) (fun g hg => (HO.out.lt g hg).1)
            case measure => simp [intOf]
        · have hix := index35_3
          have hstep : (partsL a (meetR a b)).take (3 + 1) = (partsL a (meetR a b)).take 3 ++ [⟨(meetR a b).x1, (meetR a b).y0, a.x1, (meetR a b).y1⟩] := rfl
          have HS := Lib.hid hstep
          clear hstep
          rcases Bool.eq_false_or_eq_true (emptyB ⟨(meetR a b).x1, (meetR a b).y0, a.x1, (meetR a b).y1⟩) with hp | hp
          · have HP := Lib.hid hp
            clear hp
            go_wp2_with (go_at_call 28; refine (empty_ex ⟨(meetR a b).x1, (meetR a b).y0, a.x1, (meetR a b).y1⟩ _).mono ?_; rintro e w' ⟨rfl, rfl⟩; rw [HP.out])
            go_roundw
            case rel =>
              refine ⟨3 + 1, by omega, by go_num, ?_, ?_⟩
              · rw [HS.out, solid_snoc_t HP.out]; exact (HO.out.alloc _).alloc _
              · exact (HB.out.alloc hsz _).alloc (by simp; omega) _
            case measure => simp [intOf]
          · have HP := Lib.hid hp
            clear hp
            have hle := solid_length ((partsL a (meetR a b)).take 3)
            have hle4 : (solid ((partsL a (meetR a b)).take 3)).length ≤ 4 := Nat.le_trans hle (Nat.le_trans (List.length_take_le _ _) (by decide))
            clear hle
            go_wp2_with (first | (go_at_call 28; refine (empty_ex ⟨(meetR a b).x1, (meetR a b).y0, a.x1, (meetR a b).y1⟩ _).mono ?_; rintro e w' ⟨rfl, rfl⟩; rw [HP.out]) | (at_builtin; refine wpList_append_own _ rfl (.tmp 61) (.tmp 63) 24 rfl w.heap.size 23 i0 (.agg #[.int .i64 0, .int .i64 0, .int .i64 0, .int .i64 0]) 4 32 Try.underlying24 hi0 hz0 hz1 hz2 rfl (by decide) u6 _ _ rfl (((HO.out.alloc _).alloc _).alloc _) ⟨wr.heap.size + 1 + 1, 0, none⟩ 1 1 (flat [⟨(meetR a b).x1, (meetR a b).y0, a.x1, (meetR a b).y1⟩]) rfl rfl (new_cells_at _ ⟨(meetR a b).x1, (meetR a b).y0, a.x1, (meetR a b).y1⟩ _ (by simp)) (flat_one _) (by unfold maxLen; omega) (by omega) (by simp; omega) ?_; intro v1 w1 hown1 hgrow1 hni; clear hni; have HO1 := Lib.hid hown1; have HG1 := Lib.hid hgrow1; clear hown1 hgrow1))
            go_roundw
            case rel =>
              refine ⟨3 + 1, by omega, by go_num, ?_, ?_⟩
              · rw [HS.out, solid_snoc_f HP.out, flat_append, List.length_append]; exact HO1.out
              · exact (((HB.out.alloc hsz _).alloc (by simp; omega) _).alloc (by simp; omega) _).grown HG1.out (by simp; omega) (fun g hg => (HO.out.lt g hg).1)
            case measure => simp [intOf]
        · go_wp2
          go_ret
          refine ⟨⟨_, rfl, ?_⟩, HB.out⟩
          have hc : cutL a b = solid ((partsL a (meetR a b)).take 4) := by unfold cutL; rw [HE.out, HM.out]; rfl
          rw [hc]
          exact HO.out
end Go.Proofs.Ytckfdlolmenigaa
