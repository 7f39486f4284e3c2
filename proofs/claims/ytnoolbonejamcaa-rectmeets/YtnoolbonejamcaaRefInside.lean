/- Contract of Inside's reference twin, where the first rectangle's numbers fit int64. -/
import Derived.Test.YtnoolbonejamcaaInside
import Derived.Test.YtnoolbonejamcaaArgs
namespace Go.Proofs.Ytnoolbonejamcaa
open Go.ChangeShapes Go.WideShapes Go.ChangeAt Go.RowKit
theorem inside_holds {a b : R4} (h : emptyB a = false) : insideB a b = (holdsB b a.x0 a.y0 && holdsB b (a.x1 - 1) (a.y1 - 1)) := by
  refine bool_iff ?_
  unfold insideB
  rw [h]
  have h1 : a.x0 < a.x1 ∧ a.y0 < a.y1 := by simpa [emptyB] using h
  simp [holdsB]; omega
theorem refInside_any (a b : R4) (w : World) (oa : okR a) :
    Calls Try.prog 16 #[.agg #[.int .i64 a.x0, .int .i64 a.y0, .int .i64 a.x1, .int .i64 a.y1], .agg #[.int .i64 b.x0, .int .i64 b.y0, .int .i64 b.x1, .int .i64 b.y1]] w fun e w' => e = .returned (.bool (insideB a b)) ∧ Below w.heap.size w w' := by
  obtain ⟨W, hW⟩ : ∃ W, W = (w.alloc (.cells #[.int .i64 a.x0, .int .i64 a.y0, .int .i64 a.x1, .int .i64 a.y1] 23)).alloc (.cells #[.int .i64 b.x0, .int .i64 b.y0, .int .i64 b.x1, .int .i64 b.y1] 23) := ⟨_, rfl⟩
  have ba := Box.rules (show Box W w.heap.size a by rw [hW]; exact (box_new w a).alloc _)
  have bb := Box.rules (show Box W (w.heap.size + 1) b by subst hW; unfold Box; simp)
  have hWb : Below w.heap.size w W := by subst hW; go_grown
  rcases Bool.eq_false_or_eq_true (emptyB a) with he | he
  · have HE := Lib.hid he
    clear he oa
    go_enter Try.func16, Try.ntmps16
    go_wp2_with fail
    rw [← hW]
    clear hW
    have sW := Seen.refl W
    refine (isB (refEmpty_any a _) HE.out).mono ?_
    rintro e wA ⟨rfl, hwA⟩
    have swA : Seen W wA := sW.next hwA
    clear hwA
    go_wp2_with fail
    go_ret
    exact ⟨ret_bool (by unfold insideB; rw [HE.out]; rfl), Seen.trans hWb swA⟩
  · have HE := Lib.hid he
    have h1 : a.x0 < a.x1 ∧ a.y0 < a.y1 := by simpa [emptyB] using he
    obtain ⟨hx, hy⟩ := h1
    have b1 : -9223372036854775808 ≤ a.x0 := oa.1.1
    have b2 : a.x1 ≤ 9223372036854775807 := oa.2.2.1.2
    have b3 : -9223372036854775808 ≤ a.y0 := oa.2.1.1
    have b4 : a.y1 ≤ 9223372036854775807 := oa.2.2.2.2
    clear he oa
    rcases Bool.eq_false_or_eq_true (holdsB b a.x0 a.y0) with hh | hh
    · have HH := Lib.hid hh
      clear hh
      go_enter Try.func16, Try.ntmps16
      go_wp2_with fail
      rw [← hW]
      clear hW
      have sW := Seen.refl W
      refine (isB (refEmpty_any a _) HE.out).mono ?_
      rintro e wA ⟨rfl, hwA⟩
      have swA : Seen W wA := sW.next hwA
      clear hwA
      go_wp2_with fail
      refine (isB (refHolds_any b a.x0 a.y0 _) HH.out).mono ?_
      rintro e wB ⟨rfl, hwB⟩
      have swB : Seen W wB := swA.next hwB
      clear hwB
      go_wp2_with fail
      refine (refHolds_any b (a.x1 - 1) (a.y1 - 1) _).mono ?_
      rintro e wC ⟨rfl, hwC⟩
      have swC : Seen W wC := swB.next hwC
      clear hwC
      go_wp2_with fail
      go_ret
      exact ⟨ret_bool (by rw [inside_holds HE.out, HH.out]; rfl), Seen.trans hWb swC⟩
    · have HH := Lib.hid hh
      clear hh
      go_enter Try.func16, Try.ntmps16
      go_wp2_with fail
      rw [← hW]
      clear hW
      have sW := Seen.refl W
      refine (isB (refEmpty_any a _) HE.out).mono ?_
      rintro e wA ⟨rfl, hwA⟩
      have swA : Seen W wA := sW.next hwA
      clear hwA
      go_wp2_with fail
      refine (isB (refHolds_any b a.x0 a.y0 _) HH.out).mono ?_
      rintro e wB ⟨rfl, hwB⟩
      have swB : Seen W wB := swA.next hwB
      clear hwB
      go_wp2_with fail
      go_ret
      exact ⟨ret_bool (by rw [inside_holds HE.out, HH.out]; rfl), Seen.trans hWb swB⟩
end Go.Proofs.Ytnoolbonejamcaa
