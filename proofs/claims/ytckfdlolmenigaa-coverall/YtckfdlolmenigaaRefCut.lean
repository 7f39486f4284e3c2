/- Contract of Cut's reference twin. -/
import Derived.Test.YtckfdlolmenigaaCut
import Derived.Test.YtckfdlolmenigaaRefMeet
import Derived.Deep.DeepCutAuto
import Derived.Lib.SmallJoins
namespace Go.Proofs.Ytckfdlolmenigaa
open Go.ChangeShapes Go.WideShapes Go.ChangeAt Go.RowKit
theorem emptyB_no {p q r s : Int} (h : p < r ∧ q < s) : emptyB ⟨p, q, r, s⟩ = false := by simpa [emptyB] using h
theorem emptyB_yes {p q r s : Int} (h : r ≤ p ∨ s ≤ q) : emptyB ⟨p, q, r, s⟩ = true := by simpa [emptyB] using h
set_option maxRecDepth 100000 in
set_option maxHeartbeats 8000000 in
theorem refCut_any (a b : R4) (w : World) :
    Calls Try.prog 22 #[.agg #[.int .i64 a.x0, .int .i64 a.y0, .int .i64 a.x1, .int .i64 a.y1], .agg #[.int .i64 b.x0, .int .i64 b.y0, .int .i64 b.x1, .int .i64 b.y1]] w fun e w' => (∃ v, e = .returned v ∧ w'.ownsRow w.heap.size 23 4 v (cutL a b).length (flat (cutL a b))) ∧ Below w.heap.size w w' := by
  obtain ⟨i0, hi0, hz0, hz1, hz2⟩ := info_parts info23
  go_enter Try.func22, Try.ntmps22
  go_wp2_with fail
  refine (refMeet_any a b _).mono ?_
  rintro e w1 ⟨rfl, hb⟩
  have h1 : Seen ((w.alloc (.cells #[.int .i64 a.x0, .int .i64 a.y0, .int .i64 a.x1, .int .i64 a.y1] 23)).alloc (.cells #[.int .i64 b.x0, .int .i64 b.y0, .int .i64 b.x1, .int .i64 b.y1] 23)) w1 := hb
  have hsz1 : w.heap.size + 1 + 1 ≤ w1.heap.size := by simpa using hb.size
  clear hb
  have hne : ¬ w.heap.size = w1.heap.size := by omega
  obtain ⟨W, hW⟩ : ∃ W, W = w1.alloc (.cells #[.int .i64 (meetR a b).x0, .int .i64 (meetR a b).y0, .int .i64 (meetR a b).x1, .int .i64 (meetR a b).y1] 23) := ⟨_, rfl⟩
  have hs : Seen w1 W := by rw [hW]; exact (Seen.refl _).alloc _
  have ba := Box.rules (show Box W w.heap.size a from hs.box (h1.box ((box_new w a).alloc _)))
  have bm := Box.rules (show Box W w1.heap.size (meetR a b) by rw [hW]; exact box_new w1 _)
  have hWb : Below w.heap.size w W := Seen.trans (Seen.trans (by unfold Seen; go_grown) h1) hs
  have ba1 := ba W (Seen.refl W)
  rw [hW] at ba1
  have HW : Hid (W = w1.alloc (.cells #[.int .i64 (meetR a b).x0, .int .i64 (meetR a b).y0, .int .i64 (meetR a b).x1, .int .i64 (meetR a b).y1] 23)) := hW
  clear hW h1 hs
  go_wp2_with fail
  rw [← HW.out]
  clear HW hne ba1 hsz1
  rcases Bool.eq_false_or_eq_true (emptyB a) with he | he
  · have HC : Hid (cutL a b = []) := by unfold cutL; rw [he]; rfl
    have HE := Lib.hid he
    clear he
    refine (isB (refEmpty_any a _) HE.out).mono ?_
    rintro e wA ⟨rfl, hA⟩
    go_wp2_with fail
    go_ret
    exact ⟨⟨_, rfl, by rw [HC.out]; exact World.ownsRow_nil _ _ _ _⟩, Seen.trans hWb hA⟩
  · have HE := Lib.hid he
    clear he
    refine (isB (refEmpty_any a _) HE.out).mono ?_
    rintro e wA ⟨rfl, hA⟩
    have sA : Seen W wA := hA
    clear hA
    go_wp2_with fail
    rcases Bool.eq_false_or_eq_true (emptyB (meetR a b)) with hm | hm
    · have HM := Lib.hid hm
      clear hm
      refine (isB (refEmpty_any (meetR a b) _) HM.out).mono ?_
      rintro e wB ⟨rfl, hB⟩
      have sB : Seen W wB := sA.next hB
      clear hB
      go_wp2_with fail
      go_ret
      have hWb2 := Seen.trans hWb sB
      refine ⟨⟨_, rfl, ?_⟩, hWb2.alloc _⟩
      have hc : cutL a b = [a] := by unfold cutL; rw [HE.out, HM.out]; rfl
      rw [hc]
      exact own_one wB a _ hWb2.size
    · have HM := Lib.hid hm
      clear hm
      refine (isB (refEmpty_any (meetR a b) _) HM.out).mono ?_
      rintro e wB ⟨rfl, hB⟩
      have sB : Seen W wB := sA.next hB
      clear hB
      have HO := Lib.hid (World.ownsRow_nil wB W.heap.size 23 4)
      have hs := sB
      have nA : a.x0 < a.x1 ∧ a.y0 < a.y1 := by simpa [emptyB] using HE.out
      have nM : (meetR a b).x0 < (meetR a b).x1 ∧ (meetR a b).y0 < (meetR a b).y1 := by simpa [emptyB] using HM.out
      have HN := Lib.hid (And.intro nA nM)
      clear nA nM
      have hstep : (partsL a (meetR a b)).take (0 + 1) = (partsL a (meetR a b)).take 0 ++ [⟨a.x0, a.y0, a.x1, (meetR a b).y0⟩] := rfl
      have HS := Lib.hid hstep
      clear hstep
      have hle4 : (solid ((partsL a (meetR a b)).take 0)).length ≤ 4 := Nat.le_trans (solid_length _) (Nat.le_trans (List.length_take_le _ _) (by decide))
      have hsz := Below.size hs
      go_upto_if 20 with fail
      go_cut [5] (fun v wx => wx.ownsRow W.heap.size 23 4 v (solid ((partsL a (meetR a b)).take 1)).length (flat (solid ((partsL a (meetR a b)).take 1))) ∧ Seen W wx)
      case first =>
        by_cases ht : a.y0 < (meetR a b).y0
        · have HP : Hid (emptyB ⟨a.x0, a.y0, a.x1, (meetR a b).y0⟩ = false) := emptyB_no (by obtain ⟨⟨_, _⟩, _, _⟩ := HN.out; omega)
          go_wp2_with (at_builtin; refine wpList_append_own _ rfl (.tmp 21) (.tmp 31) 24 rfl W.heap.size 23 i0 (.agg #[.int .i64 0, .int .i64 0, .int .i64 0, .int .i64 0]) 4 32 Try.underlying24 hi0 hz0 hz1 hz2 rfl (by decide) (.slice none 0 0) _ _ rfl (HO.out.alloc _) ⟨wB.heap.size, 0, none⟩ 1 1 (flat [⟨a.x0, a.y0, a.x1, (meetR a b).y0⟩]) rfl rfl (new_cells_at _ ⟨a.x0, a.y0, a.x1, (meetR a b).y0⟩ _ rfl) (flat_one _) (by unfold maxLen; omega) (by omega) (by simp; omega) ?_; intro v1 wn hown1 hgrow1 hni; clear hni; have HO1 := Lib.hid hown1; have HG1 := Lib.hid hgrow1; clear hown1 hgrow1)
          go_meet
          refine ⟨?_, ?_⟩
          · rw [HS.out, solid_snoc_f HP.out, flat_append, List.length_append]; exact HO1.out
          · exact Below.grown (Seen.alloc hs _) HG1.out (by simp; omega) (fun g hg => (HO.out.lt g hg).1)
        · have HP : Hid (emptyB ⟨a.x0, a.y0, a.x1, (meetR a b).y0⟩ = true) := emptyB_yes (by omega)
          go_wp2_with fail
          go_meet
          refine ⟨?_, hs⟩
          rw [HS.out, solid_snoc_t HP.out]; exact HO.out
      case rest =>
        obtain ⟨hown, hs2⟩ := hcut
        clear hs HO hsz hle4 HS sA sB
        have HO := Lib.hid hown
        have hs := hs2
        clear hown hs2
        have hstep : (partsL a (meetR a b)).take (1 + 1) = (partsL a (meetR a b)).take 1 ++ [⟨a.x0, (meetR a b).y1, a.x1, a.y1⟩] := rfl
        have HS := Lib.hid hstep
        clear hstep
        have hle4 : (solid ((partsL a (meetR a b)).take 1)).length ≤ 4 := Nat.le_trans (solid_length _) (Nat.le_trans (List.length_take_le _ _) (by decide))
        have hsz := Below.size hs
        go_upto_if 37 with fail
        go_cut [5] (fun v wx => wx.ownsRow W.heap.size 23 4 v (solid ((partsL a (meetR a b)).take 2)).length (flat (solid ((partsL a (meetR a b)).take 2))) ∧ Seen W wx)
        case first =>
          by_cases ht : (meetR a b).y1 < a.y1
          · have HP : Hid (emptyB ⟨a.x0, (meetR a b).y1, a.x1, a.y1⟩ = false) := emptyB_no (by obtain ⟨⟨_, _⟩, _, _⟩ := HN.out; omega)
            go_wp2_with (at_builtin; refine wpList_append_own _ rfl (.tmp 38) (.tmp 48) 24 rfl W.heap.size 23 i0 (.agg #[.int .i64 0, .int .i64 0, .int .i64 0, .int .i64 0]) 4 32 Try.underlying24 hi0 hz0 hz1 hz2 rfl (by decide) u5 _ _ rfl (HO.out.alloc _) ⟨wc.heap.size, 0, none⟩ 1 1 (flat [⟨a.x0, (meetR a b).y1, a.x1, a.y1⟩]) rfl rfl (new_cells_at _ ⟨a.x0, (meetR a b).y1, a.x1, a.y1⟩ _ rfl) (flat_one _) (by unfold maxLen; omega) (by omega) (by simp; omega) ?_; intro v1 wn hown1 hgrow1 hni; clear hni; have HO1 := Lib.hid hown1; have HG1 := Lib.hid hgrow1; clear hown1 hgrow1)
            go_meet
            refine ⟨?_, ?_⟩
            · rw [HS.out, solid_snoc_f HP.out, flat_append, List.length_append]; exact HO1.out
            · exact Below.grown (Seen.alloc hs _) HG1.out (by simp; omega) (fun g hg => (HO.out.lt g hg).1)
          · have HP : Hid (emptyB ⟨a.x0, (meetR a b).y1, a.x1, a.y1⟩ = true) := emptyB_yes (by omega)
            go_wp2_with fail
            go_meet
            refine ⟨?_, hs⟩
            rw [HS.out, solid_snoc_t HP.out]; exact HO.out
        case rest =>
          obtain ⟨hown, hs2⟩ := hcut
          clear hs HO hsz hle4 HS 
          have HO := Lib.hid hown
          have hs := hs2
          clear hown hs2
          have hstep : (partsL a (meetR a b)).take (2 + 1) = (partsL a (meetR a b)).take 2 ++ [⟨a.x0, (meetR a b).y0, (meetR a b).x0, (meetR a b).y1⟩] := rfl
          have HS := Lib.hid hstep
          clear hstep
          have hle4 : (solid ((partsL a (meetR a b)).take 2)).length ≤ 4 := Nat.le_trans (solid_length _) (Nat.le_trans (List.length_take_le _ _) (by decide))
          have hsz := Below.size hs
          go_upto_if 54 with fail
          go_cut [5] (fun v wx => wx.ownsRow W.heap.size 23 4 v (solid ((partsL a (meetR a b)).take 3)).length (flat (solid ((partsL a (meetR a b)).take 3))) ∧ Seen W wx)
          case first =>
            by_cases ht : a.x0 < (meetR a b).x0
            · have HP : Hid (emptyB ⟨a.x0, (meetR a b).y0, (meetR a b).x0, (meetR a b).y1⟩ = false) := emptyB_no (by obtain ⟨⟨_, _⟩, _, _⟩ := HN.out; omega)
              go_wp2_with (at_builtin; refine wpList_append_own _ rfl (.tmp 55) (.tmp 65) 24 rfl W.heap.size 23 i0 (.agg #[.int .i64 0, .int .i64 0, .int .i64 0, .int .i64 0]) 4 32 Try.underlying24 hi0 hz0 hz1 hz2 rfl (by decide) u5 _ _ rfl (HO.out.alloc _) ⟨wc.heap.size, 0, none⟩ 1 1 (flat [⟨a.x0, (meetR a b).y0, (meetR a b).x0, (meetR a b).y1⟩]) rfl rfl (new_cells_at _ ⟨a.x0, (meetR a b).y0, (meetR a b).x0, (meetR a b).y1⟩ _ rfl) (flat_one _) (by unfold maxLen; omega) (by omega) (by simp; omega) ?_; intro v1 wn hown1 hgrow1 hni; clear hni; have HO1 := Lib.hid hown1; have HG1 := Lib.hid hgrow1; clear hown1 hgrow1)
              go_meet
              refine ⟨?_, ?_⟩
              · rw [HS.out, solid_snoc_f HP.out, flat_append, List.length_append]; exact HO1.out
              · exact Below.grown (Seen.alloc hs _) HG1.out (by simp; omega) (fun g hg => (HO.out.lt g hg).1)
            · have HP : Hid (emptyB ⟨a.x0, (meetR a b).y0, (meetR a b).x0, (meetR a b).y1⟩ = true) := emptyB_yes (by omega)
              go_wp2_with fail
              go_meet
              refine ⟨?_, hs⟩
              rw [HS.out, solid_snoc_t HP.out]; exact HO.out
          case rest =>
            obtain ⟨hown, hs2⟩ := hcut
            clear hs HO hsz hle4 HS 
            have HO := Lib.hid hown
            have hs := hs2
            clear hown hs2
            have hstep : (partsL a (meetR a b)).take (3 + 1) = (partsL a (meetR a b)).take 3 ++ [⟨(meetR a b).x1, (meetR a b).y0, a.x1, (meetR a b).y1⟩] := rfl
            have HS := Lib.hid hstep
            clear hstep
            have hle4 : (solid ((partsL a (meetR a b)).take 3)).length ≤ 4 := Nat.le_trans (solid_length _) (Nat.le_trans (List.length_take_le _ _) (by decide))
            have hsz := Below.size hs
            go_upto_if 71 with fail
            go_cut [5] (fun v wx => wx.ownsRow W.heap.size 23 4 v (solid ((partsL a (meetR a b)).take 4)).length (flat (solid ((partsL a (meetR a b)).take 4))) ∧ Seen W wx)
            case first =>
              by_cases ht : (meetR a b).x1 < a.x1
              · have HP : Hid (emptyB ⟨(meetR a b).x1, (meetR a b).y0, a.x1, (meetR a b).y1⟩ = false) := emptyB_no (by obtain ⟨⟨_, _⟩, _, _⟩ := HN.out; omega)
                go_wp2_with (at_builtin; refine wpList_append_own _ rfl (.tmp 72) (.tmp 82) 24 rfl W.heap.size 23 i0 (.agg #[.int .i64 0, .int .i64 0, .int .i64 0, .int .i64 0]) 4 32 Try.underlying24 hi0 hz0 hz1 hz2 rfl (by decide) u5 _ _ rfl (HO.out.alloc _) ⟨wc.heap.size, 0, none⟩ 1 1 (flat [⟨(meetR a b).x1, (meetR a b).y0, a.x1, (meetR a b).y1⟩]) rfl rfl (new_cells_at _ ⟨(meetR a b).x1, (meetR a b).y0, a.x1, (meetR a b).y1⟩ _ rfl) (flat_one _) (by unfold maxLen; omega) (by omega) (by simp; omega) ?_; intro v1 wn hown1 hgrow1 hni; clear hni; have HO1 := Lib.hid hown1; have HG1 := Lib.hid hgrow1; clear hown1 hgrow1)
                go_meet
                refine ⟨?_, ?_⟩
                · rw [HS.out, solid_snoc_f HP.out, flat_append, List.length_append]; exact HO1.out
                · exact Below.grown (Seen.alloc hs _) HG1.out (by simp; omega) (fun g hg => (HO.out.lt g hg).1)
              · have HP : Hid (emptyB ⟨(meetR a b).x1, (meetR a b).y0, a.x1, (meetR a b).y1⟩ = true) := emptyB_yes (by omega)
                go_wp2_with fail
                go_meet
                refine ⟨?_, hs⟩
                rw [HS.out, solid_snoc_t HP.out]; exact HO.out
            case rest =>
              obtain ⟨hown, hs2⟩ := hcut
              clear hs HO hsz hle4 HS 
              have HO := Lib.hid hown
              have hs := hs2
              clear hown hs2
              go_wp2_with fail
              go_ret
              refine ⟨⟨_, rfl, ?_⟩, Seen.trans hWb hs⟩
              have hc : cutL a b = solid ((partsL a (meetR a b)).take 4) := by unfold cutL; rw [HE.out, HM.out]; rfl
              rw [hc]
              exact Go.Joins.ownsRow_le HO.out hWb.size
end Go.Proofs.Ytckfdlolmenigaa
