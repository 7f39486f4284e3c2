/- Contract of Inside. -/
import Derived.Test.YtnoolbonejamcaaSeen
import Derived.Test.YtnoolbonejamcaaMeet
namespace Go.Proofs.Ytnoolbonejamcaa
open Go.ChangeShapes Go.WideShapes Go.ChangeAt Go.RowKit
/-- All points of a are in b. -/
def insideB (a b : R4) : Bool := emptyB a || decide (b.x0 ≤ a.x0 ∧ a.x1 ≤ b.x1 ∧ b.y0 ≤ a.y0 ∧ a.y1 ≤ b.y1)
theorem inside_meet {a b : R4} (h : emptyB a = false) : eq4 (meetR a b).x0 (meetR a b).y0 (meetR a b).x1 (meetR a b).y1 a.x0 a.y0 a.x1 a.y1 = insideB a b := by
  refine bool_iff ?_
  unfold insideB
  rw [h]
  have h1 : a.x0 < a.x1 ∧ a.y0 < a.y1 := by simpa [emptyB] using h
  by_cases hm : max a.x0 b.x0 < min a.x1 b.x1 ∧ max a.y0 b.y0 < min a.y1 b.y1
  · rw [meetR_t hm]; simp [eq4]; omega
  · rw [meetR_f hm]; simp [eq4]; omega
theorem inside_any (a b : R4) (w : World) :
    Calls Try.prog 15 #[.agg #[.int .i64 a.x0, .int .i64 a.y0, .int .i64 a.x1, .int .i64 a.y1], .agg #[.int .i64 b.x0, .int .i64 b.y0, .int .i64 b.x1, .int .i64 b.y1]] w fun e w' => e = .returned (.bool (insideB a b)) ∧ Below w.heap.size w w' := by
  have hq := run_eql23
  obtain ⟨W, hW⟩ : ∃ W, W = (w.alloc (.cells #[.int .i64 a.x0, .int .i64 a.y0, .int .i64 a.x1, .int .i64 a.y1] 23)).alloc (.cells #[.int .i64 b.x0, .int .i64 b.y0, .int .i64 b.x1, .int .i64 b.y1] 23) := ⟨_, rfl⟩
  have ba := Box.rules (show Box W w.heap.size a by subst hW; unfold Box; simp)
  have bb := Box.rules (show Box W (w.heap.size + 1) b by subst hW; unfold Box; simp)
  have hWb : Below w.heap.size w W := by subst hW; go_grown
  rcases Bool.eq_false_or_eq_true (emptyB a) with he | he
  · have HE := Lib.hid he
    clear he
    go_enter Try.func15, Try.ntmps15
    go_wp2_with fail
    rw [← hW]
    clear hW
    refine wp_region_quiet (C := Seen W) (by kernel_rfl) (by kernel_rfl) (Seen.drew (Seen.refl W)) ?_
    simp only []
    repeat (first
      | go_big_quiet_skip
      | (go_big_quiet_want
         apply Exists.intro
         refine ⟨fun w1 h1 => ?_, ?_⟩
         focus
           go_simp
           first | done | rfl | (go_at_call 11; exact quiet_call h1 (isB (empty_any a _) HE.out))
         (try simp only [Act.put, List.setIfInBounds_toArray, List.set_cons_zero, List.set_cons_succ])
         go_big_quiet_on))
    refine wpQuiet_nil ?_
    intro w2 h2
    go_wp2
    go_ret
    exact ⟨ret_bool (by unfold insideB; rw [HE.out]; rfl), hWb.trans (h2.mono hWb.size)⟩
  · have HE := Lib.hid he
    clear he
    go_enter Try.func15, Try.ntmps15
    go_wp2_with fail
    rw [← hW]
    clear hW
    refine wp_region_quiet (C := Seen W) (by kernel_rfl) (by kernel_rfl) (Seen.drew (Seen.refl W)) ?_
    simp only []
    repeat (first
      | go_big_quiet_skip
      | (go_big_quiet_want
         apply Exists.intro
         refine ⟨fun w1 h1 => ?_, ?_⟩
         focus
           go_simp
           first | done | rfl | (go_at_call 11; exact quiet_call h1 (isB (empty_any a _) HE.out)) | (go_at_call 13; exact quiet_call h1 (meet_any a b _))
         (try simp only [Act.put, List.setIfInBounds_toArray, List.set_cons_zero, List.set_cons_succ])
         go_big_quiet_on))
    refine wpQuiet_nil ?_
    intro w2 h2
    go_wp2
    go_ret
    exact ⟨ret_bool (inside_meet HE.out), hWb.trans (h2.mono hWb.size)⟩
end Go.Proofs.Ytnoolbonejamcaa
