/- Contract of Entry.Compare: what it answers; it lays new blocks and draws, and turns nothing. -/
import Derived.Test.YtacdgfihabjfkaaBase
import Derived.Sort.Grow
import Derived.StillTailTactics
namespace Go.Proofs.Ytacdgfihabjfkaa
open Go.ChangeShapes Go.WideShapes Go.ChangeAt Go.RowKit
/-- New blocks lie behind those of W, and numbers have been drawn; that is all. -/
def Laid (W w' : World) : Prop := ∃ q os, w' = Sort.grow (W.drewN q) os
theorem Laid.refl (W : World) : Laid W W := ⟨0, #[], by simp [Sort.grow, World.drewN]⟩
theorem Laid.drew {W w' : World} (h : Laid W w') : Laid W w'.drew := by
  obtain ⟨q, os, rfl⟩ := h
  exact ⟨q + 1, os, rfl⟩
theorem Laid.alloc {W w' : World} (h : Laid W w') (o : Obj) : Laid W (w'.alloc o) := by
  obtain ⟨q, os, rfl⟩ := h
  exact ⟨q, os ++ #[o], by rw [Sort.alloc_eq_grow, Sort.grow_grow]⟩
theorem Laid.below {W w' : World} (h : Laid W w') : Below W.heap.size W w' := by
  obtain ⟨q, os, rfl⟩ := h
  exact ⟨rfl, rfl, rfl, by simp [Sort.grow, World.drewN], fun k hk => Sort.heap_grow_old (W.drewN q) os hk⟩
set_option maxHeartbeats 2000000 in
theorem compare_laid (a b : E3) (w : World) :
    Calls Try.prog 16 #[.agg #[.int .i64 a.k, .int .i64 a.t, .int .i64 a.n], .agg #[.int .i64 b.k, .int .i64 b.t, .int .i64 b.n]] w fun e w' => e = .returned (.int .i64 (cmpE a b)) ∧ Laid w w' := by
  obtain ⟨c1, h1⟩ : ∃ c, cI a.k b.k = c := ⟨_, rfl⟩
  obtain ⟨c2, h2⟩ : ∃ c, cI a.t b.t = c := ⟨_, rfl⟩
  obtain ⟨c3, h3⟩ : ∃ c, cI a.n b.n = c := ⟨_, rfl⟩
  have H : Hid (cmpE a b = orI c1 c2 c3) := by unfold Hid cmpE; rw [h1, h2, h3]
  have q1 : ∀ w, Calls Try.prog 23 #[.int .i64 a.k, .int .i64 b.k] w fun e w' => e = .returned (.int .i64 c1) ∧ w' = w := fun w => h1 ▸ cmp_any _ _ w
  have q2 : ∀ w, Calls Try.prog 23 #[.int .i64 a.t, .int .i64 b.t] w fun e w' => e = .returned (.int .i64 c2) ∧ w' = w := fun w => h2 ▸ cmp_any _ _ w
  have q3 : ∀ w, Calls Try.prog 24 #[.int .i64 a.n, .int .i64 b.n] w fun e w' => e = .returned (.int .i64 c3) ∧ w' = w := fun w => h3 ▸ cmp_any' _ _ w
  clear h1 h2 h3
  go_enter Try.func16, Try.ntmps16
  go_wp2_with fail
  obtain ⟨W, hW⟩ : ∃ W, W = (w.alloc (.cells #[.int .i64 a.k, .int .i64 a.t, .int .i64 a.n] 31)).alloc (.cells #[.int .i64 b.k, .int .i64 b.t, .int .i64 b.n] 31) := ⟨_, rfl⟩
  have hl : Laid w W := by rw [hW]; exact ((Laid.refl w).alloc _).alloc _
  have c0 : W.cell? ⟨w.heap.size, 0, none⟩ = some (.int .i64 a.k) := by rw [hW]; simp
  have c1' : W.cell? ⟨w.heap.size, 1, none⟩ = some (.int .i64 a.t) := by rw [hW]; simp
  have c2' : W.cell? ⟨w.heap.size, 2, none⟩ = some (.int .i64 a.n) := by rw [hW]; simp
  have d0 : W.cell? ⟨w.heap.size + 1, 0, none⟩ = some (.int .i64 b.k) := by rw [hW]; simp
  have d1 : W.cell? ⟨w.heap.size + 1, 1, none⟩ = some (.int .i64 b.t) := by rw [hW]; simp
  have d2 : W.cell? ⟨w.heap.size + 1, 2, none⟩ = some (.int .i64 b.n) := by rw [hW]; simp
  have HL := Lib.hid hl
  rw [← hW]
  clear hW hl
  refine wp_region_still_tail 15 (by kernel_rfl) (by kernel_rfl) ?_
  simp only [List.take_succ_cons, List.take_zero, List.drop_succ_cons, List.drop_zero]
  still_step
  still_step
  still_step
  still_step
  still_call (q1 _)
  still_step
  still_step
  still_step
  still_step
  still_call (q2 _)
  still_step
  still_step
  still_step
  still_step
  still_call (q3 _)
  refine wpStill_nil ?_
  clear q1 q2 q3
  go_wp2_with (go_at_call 22; refine (or_any _ c1 c2 c3 _ (by simp) (by simp) (by simp)).mono ?_; rintro e w' ⟨rfl, rfl⟩)
  go_ret
  exact ⟨ret_int H.out.symm, HL.out.drew.alloc _⟩
theorem compare_any (a b : E3) (w : World) :
    Calls Try.prog 16 #[.agg #[.int .i64 a.k, .int .i64 a.t, .int .i64 a.n], .agg #[.int .i64 b.k, .int .i64 b.t, .int .i64 b.n]] w fun e w' => e = .returned (.int .i64 (cmpE a b)) ∧ Below w.heap.size w w' :=
  (compare_laid a b w).mono fun _ _ h => ⟨h.1, h.2.below⟩
end Go.Proofs.Ytacdgfihabjfkaa
