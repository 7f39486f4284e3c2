/- Contract of the law package's own awake: it answers true. -/
import Derived.Test.YtckfdlolmenigaaApart
namespace Go.Proofs.Ytckfdlolmenigaa
open Go.ChangeShapes Go.WideShapes Go.ChangeAt Go.RowKit
theorem rs_new2 (w : World) (a b : R4) : RS (w.alloc (.cells #[.int .i64 a.x0, .int .i64 a.y0, .int .i64 a.x1, .int .i64 a.y1, .int .i64 b.x0, .int .i64 b.y0, .int .i64 b.x1, .int .i64 b.y1] 23)) (some ⟨w.heap.size, 0, none⟩) 2 [a, b] := by
  refine ⟨rfl, fun _ => ⟨w.heap.size, 0, rfl, fun i hi => ?_⟩⟩
  match i, hi with
  | 0, _ => unfold At4; simp [rat]
  | 1, _ => unfold At4; simp [rat]
theorem aw1 : coveredB ⟨0, 0, 2, 1⟩ [⟨0, 0, 1, 1⟩, ⟨1, 0, 2, 1⟩] = true := by decide
theorem aw2 : coveredB ⟨0, 0, 3, 1⟩ [⟨0, 0, 1, 1⟩, ⟨1, 0, 2, 1⟩] = false := by decide
theorem aw3 : apartB [⟨0, 0, 1, 1⟩, ⟨1, 0, 2, 1⟩] = true := by decide
set_option maxHeartbeats 2000000 in
theorem awake_any (w : World) : Calls Try.prog 7 #[] w fun e w' => e = .returned (.bool true) ∧ Below w.heap.size w w' := by
  obtain ⟨W, hW⟩ : ∃ W, W = (w.alloc (.cells #[.int .i64 0, .int .i64 0, .int .i64 1, .int .i64 1] 23)).alloc (.cells #[.int .i64 1, .int .i64 0, .int .i64 2, .int .i64 1] 23) := ⟨_, rfl⟩
  have ba := Box.rules (show Box W w.heap.size ⟨0, 0, 1, 1⟩ by rw [hW]; exact (box_new w ⟨0, 0, 1, 1⟩).alloc _)
  have bb := Box.rules (show Box W (w.heap.size + 1) ⟨1, 0, 2, 1⟩ by rw [hW]; unfold Box; simp)
  have hWb : Seen w W := by rw [hW]; exact ((Seen.refl w).alloc _).alloc _
  have HW := Lib.hid hW
  clear hW
  go_enter Try.func7, Try.ntmps7
  go_wp2_with fail
  rw [← HW.out]
  have hz : W.heap.size = w.heap.size + 1 + 1 := by rw [HW.out]; simp
  have hr1 := rs_new2 W ⟨0, 0, 1, 1⟩ ⟨1, 0, 2, 1⟩
  rw [hz] at hr1
  clear HW
  have H1 := Lib.hid hr1
  clear hr1 hz
  refine (isB (covered_any ⟨0, 0, 2, 1⟩ _ 2 2 [⟨0, 0, 1, 1⟩, ⟨1, 0, 2, 1⟩] _ H1.out (by omega) (by omega)) aw1).mono ?_
  rintro e w1 ⟨rfl, h1⟩
  have s1 : Seen W w1 := ((Seen.refl W).alloc _).next h1
  clear h1 H1
  go_wp2_with fail
  refine (isB (covered_any ⟨0, 0, 3, 1⟩ _ 2 2 [⟨0, 0, 1, 1⟩, ⟨1, 0, 2, 1⟩] _ (rs_new2 w1 ⟨0, 0, 1, 1⟩ ⟨1, 0, 2, 1⟩) (by omega) (by omega)) aw2).mono ?_
  rintro e w2 ⟨rfl, h2⟩
  have s2 : Seen W w2 := (s1.alloc _).next h2
  clear h2 s1
  go_wp2_with fail
  refine (isB (apart_any _ 2 2 [⟨0, 0, 1, 1⟩, ⟨1, 0, 2, 1⟩] _ (rs_new2 w2 ⟨0, 0, 1, 1⟩ ⟨1, 0, 2, 1⟩) (by omega) (by omega)) aw3).mono ?_
  rintro e w3 ⟨rfl, h3⟩
  have s3 : Seen W w3 := (s2.alloc _).next h3
  clear h3 s2
  go_wp2_with fail
  go_ret
  exact ⟨rfl, hWb.trans s3⟩
end Go.Proofs.Ytckfdlolmenigaa
