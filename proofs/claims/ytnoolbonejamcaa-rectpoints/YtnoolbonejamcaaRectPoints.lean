/- Proved: for all rectangles a and b and all int64 x and y the law RectPoints returns true, and its arguments read afterwards as before; no conditions. -/
import Derived.Test.YtnoolbonejamcaaRows
import Derived.WalkKit
import Derived.Test.YtnoolbonejamcaaAwake
import Derived.Test.YtnoolbonejamcaaArgs
import Derived.ProofKit
import Derived.OpenShut
import Derived.ShutString
import Derived.ChangeOld
import Derived.Below
namespace Go.Proofs.Ytnoolbonejamcaa.rectPoints
open Go.ChangeShapes Go.WideShapes Go.ChangeAt Go.RowKit
set_option linter.unusedVariables false

theorem own : ownKnob Try.prog.godebug = none := by kernel_rfl
theorem laidOut : laidOutB Try.prog = true := by kernel_rfl

theorem holds_meet (a b : R4) (x y : Int) : holdsB (meetR a b) x y = (holdsB a x y && holdsB b x y) := by
  refine bool_iff ?_
  by_cases hm : max a.x0 b.x0 < min a.x1 b.x1 ∧ max a.y0 b.y0 < min a.y1 b.y1
  · rw [meetR_t hm]; simp [holdsB]; omega
  · rw [meetR_f hm]; simp [holdsB]; omega


set_option maxHeartbeats 2000000 in
theorem walk (a b : R4) (x y : Int) (w : World) (oa : okR a) (ob : okR b) (ox : okN x) (oy : okN y) :
    Calls Try.prog 3 #[.agg #[.int .i64 a.x0, .int .i64 a.y0, .int .i64 a.x1, .int .i64 a.y1], .agg #[.int .i64 b.x0, .int .i64 b.y0, .int .i64 b.x1, .int .i64 b.y1], .int .i64 x, .int .i64 y] w fun e w' => e = .returned (.bool true) ∧ Below w.heap.size w w' := by
  clear oa ob ox oy
  obtain ⟨W, hW⟩ : ∃ W, W = (w.alloc (.cells #[.int .i64 a.x0, .int .i64 a.y0, .int .i64 a.x1, .int .i64 a.y1] 23)).alloc (.cells #[.int .i64 b.x0, .int .i64 b.y0, .int .i64 b.x1, .int .i64 b.y1] 23) := ⟨_, rfl⟩
  have ba := Box.rules (show Box W w.heap.size a by rw [hW]; exact (box_new w a).alloc _)
  have bb := Box.rules (show Box W (w.heap.size + 1) b by subst hW; unfold Box; simp)
  have hWb : Below w.heap.size w W := by subst hW; go_grown
  obtain ⟨c2, hc2⟩ : ∃ c, holdsB b x y = c := ⟨_, rfl⟩
  obtain ⟨c3, hc3⟩ : ∃ c, emptyB a = c := ⟨_, rfl⟩
  have H2 := Lib.hid hc2
  have H3 := Lib.hid hc3
  clear hc2 hc3
  rcases Bool.eq_false_or_eq_true (holdsB a x y) with hc1 | hc1
  · have H1 := Lib.hid hc1
    have HM : Hid (holdsB (meetR a b) x y = c2) := by unfold Hid; rw [holds_meet, hc1, H2.out]; rfl
    clear hc1
    go_enter Try.func3, Try.ntmps3
    go_wp2_with fail
    rw [← hW]
    clear hW
    refine (awake_any _).mono ?_
    rintro e wA ⟨rfl, hA⟩
    have sA : Seen W wA := hA
    clear hA
    go_wp2_with fail
    refine (isB (refHolds_any a x y _) H1.out).mono ?_
    rintro e wB ⟨rfl, hB⟩
    have sB : Seen W wB := sA.next hB
    clear hB
    go_wp2_with fail
    refine (isB (refHolds_any b x y _) H2.out).mono ?_
    rintro e wC ⟨rfl, hC⟩
    have sC : Seen W wC := sB.next hC
    clear hC
    go_wp2_with fail
    refine wp_region_quiet (C := Seen W) (by kernel_rfl) (by kernel_rfl) (Seen.drew sC) ?_
    simp only []
    repeat (first
      | go_big_quiet_skip
      | (go_big_quiet_want
         apply Exists.intro
         refine ⟨fun w1 h1 => ?_, ?_⟩
         focus
           go_simp
           first | done | rfl | (go_at_call 10; with_reducible exact quiet_call h1 (isB (holds_any a x y _) H1.out)) | (go_at_call 9; with_reducible exact quiet_call h1 (isB (refHolds_any a x y _) H1.out)) | (go_at_call 11; with_reducible exact quiet_call h1 (isB (empty_any a _) H3.out)) | (go_at_call 12; with_reducible exact quiet_call h1 (isB (refEmpty_any a _) H3.out)) | (go_at_call 13; with_reducible exact quiet_call h1 (meet_any a b _)) | (go_at_call 10; with_reducible exact quiet_call h1 (isB (holds_any (meetR a b) x y _) HM.out))
         (try simp only [Act.put, List.setIfInBounds_toArray, List.set_cons_zero, List.set_cons_succ])
         go_big_quiet_on))
    refine wpQuiet_nil ?_
    intro w2 h2
    go_wp2
    go_ret
    exact ⟨rfl, Seen.trans hWb h2⟩
  · have H1 := Lib.hid hc1
    have HM : Hid (holdsB (meetR a b) x y = false) := by unfold Hid; rw [holds_meet, hc1]; rfl
    clear hc1
    go_enter Try.func3, Try.ntmps3
    go_wp2_with fail
    rw [← hW]
    clear hW
    refine (awake_any _).mono ?_
    rintro e wA ⟨rfl, hA⟩
    have sA : Seen W wA := hA
    clear hA
    go_wp2_with fail
    refine (isB (refHolds_any a x y _) H1.out).mono ?_
    rintro e wB ⟨rfl, hB⟩
    have sB : Seen W wB := sA.next hB
    clear hB
    go_wp2_with fail
    refine wp_region_quiet (C := Seen W) (by kernel_rfl) (by kernel_rfl) (Seen.drew sB) ?_
    simp only []
    repeat (first
      | go_big_quiet_skip
      | (go_big_quiet_want
         apply Exists.intro
         refine ⟨fun w1 h1 => ?_, ?_⟩
         focus
           go_simp
           first | done | rfl | (go_at_call 10; with_reducible exact quiet_call h1 (isB (holds_any a x y _) H1.out)) | (go_at_call 9; with_reducible exact quiet_call h1 (isB (refHolds_any a x y _) H1.out)) | (go_at_call 11; with_reducible exact quiet_call h1 (isB (empty_any a _) H3.out)) | (go_at_call 12; with_reducible exact quiet_call h1 (isB (refEmpty_any a _) H3.out)) | (go_at_call 13; with_reducible exact quiet_call h1 (meet_any a b _)) | (go_at_call 10; with_reducible exact quiet_call h1 (isB (holds_any (meetR a b) x y _) HM.out))
         (try simp only [Act.put, List.setIfInBounds_toArray, List.set_cons_zero, List.set_cons_succ])
         go_big_quiet_on))
    refine wpQuiet_nil ?_
    intro w2 h2
    go_wp2
    go_ret
    exact ⟨rfl, Seen.trans hWb h2⟩

/-! ### The row's step. -/
set_option maxRecDepth 100000 in
theorem lifted (os : Os) (started : os.Started) (H : Type) (enc : TypeId × Value → H) :
    ReturnsInHanded {} Try.checked os 3 .any (Rows.rectPointsSpec.pre6 enc Try.prog Try.f3 Rows.rectPointsRow.domain false) (Rows.rectPointsSpec.post enc Try.prog Try.f3 false true false false) := by
  refine returnsInHanded_of_change (C := Try.checked) own started (by kernel_rfl) Try.func3
    (ChangeSpec.witness6 (enc := enc) (C := Try.checked) false ⟨#[], #[.agg #[.int .i64 0, .int .i64 0, .int .i64 0, .int .i64 0], .agg #[.int .i64 0, .int .i64 0, .int .i64 0, .int .i64 0], .int .i64 0, .int .i64 0], []⟩ 8 (by kernel_rfl) (by kernel_rfl) (by kernel_rfl) (by kernel_rfl)) ?_
  intro W base args ds gs before hval0 hW hcnd _
  have hval : ∀ (j : Nat) t v, Try.f3.params[j]? = some t → args[j]? = some v → Value.okWide Try.prog W .any base t v := hval0
  have hW' := hW
  obtain ⟨p, q, hA0, hV, rfl, hfz, hnd⟩ := hW
  have hA : DataW.TrodAll enc Try.prog W 0 (fun _ => true) true Try.f3.params.toList args.toList ds p := hA0
  rw [Try.params3] at hA hval
  obtain ⟨v0, vs0, d0, ds0, p0, q0, hargs, rfl, rfl, h0, r0⟩ := trodAll_cons hA
  obtain ⟨v1, vs1, d1, ds1, p1, q1, rfl, rfl, rfl, h1, r1⟩ := trodAll_cons r0
  obtain ⟨v2, vs2, d2, ds2, p2, q2, rfl, rfl, rfl, h2, r2⟩ := trodAll_cons r1
  obtain ⟨v3, vs3, d3, ds3, p3, q3, rfl, rfl, rfl, h3, r3⟩ := trodAll_cons r2
  obtain ⟨rfl, rfl, rfl⟩ := trodAll_nil r3
  obtain rfl : args = #[v0, v1, v2, v3] := by cases args; simp_all
  obtain ⟨rfl, rfl⟩ := trodVars_none hV
  have k0 := h0
  have lt0 : ∀ x ∈ p0, x.block < W.heap.size := by obtain ⟨m, hm⟩ := k0; exact DataW.trod_lt m _ _ _ hm
  obtain ⟨g0, rfl, o0⟩ := open_rect (hval 0 23 v0 rfl rfl) h0
  have k1 := h1
  have lt1 : ∀ x ∈ p1, x.block < W.heap.size := by obtain ⟨m, hm⟩ := k1; exact DataW.trod_lt m _ _ _ hm
  obtain ⟨g1, rfl, o1⟩ := open_rect (hval 1 23 v1 rfl rfl) h1
  have k2 := h2
  have lt2 : ∀ x ∈ p2, x.block < W.heap.size := by obtain ⟨m, hm⟩ := k2; exact DataW.trod_lt m _ _ _ hm
  obtain ⟨g2, rfl, o2⟩ := open_num (hval 2 2 v2 rfl rfl) h2
  have k3 := h3
  have lt3 : ∀ x ∈ p3, x.block < W.heap.size := by obtain ⟨m, hm⟩ := k3; exact DataW.trod_lt m _ _ _ hm
  obtain ⟨g3, rfl, o3⟩ := open_num (hval 3 2 v3 rfl rfl) h3
  clear hA0 hval0
  refine (walk g0 g1 g2 g3 W o0 o1 o2 o3).mono fun e W' ⟨he, bel⟩ => ?_
  subst he
  exact ⟨_, rfl, _, _, _, [], _, [], hW', trodAll_mk1 (shut_bool Try.underlying4 _), (trodAll_cons_mk (Below.trod laidOut (by kernel_rfl) (of_decide_eq_true (by kernel_rfl)) k0 bel lt0) (trodAll_cons_mk (Below.trod laidOut (by kernel_rfl) (of_decide_eq_true (by kernel_rfl)) k1 bel lt1) (trodAll_cons_mk (Below.trod laidOut (by kernel_rfl) (of_decide_eq_true (by kernel_rfl)) k2 bel lt2) (trodAll_cons_mk (Below.trod laidOut (by kernel_rfl) (of_decide_eq_true (by kernel_rfl)) k3 bel lt3) trodAll_mk0)))), rfl, bel.frame _, fun h => by cases h⟩

theorem over : Rows.rectPointsRow.holds Try.pinned (OpenSpec.ofChange Rows.rectPointsSpec) :=
  OpenClaim.holds_of_wide 3 Try.f3 rfl rfl rfl rfl rfl rfl rfl ⟨rfl, rfl, rfl, rfl, rfl⟩ rfl rfl rfl rfl rfl (by kernel_rfl) Try.func3 (by kernel_rfl)
    (of_decide_eq_true (by kernel_rfl)) (by unfold Func.isWrapper; first | (rw [if_pos (by decide +kernel)]; kernel_rfl) | (rw [if_neg (by decide +kernel)]; exact ⟨rfl, rfl⟩))
    (fun os started H enc _ => lifted os started H enc)

/-- The statement. -/
theorem proved : Rows.RectPointsSaid := over
#print axioms proved
end Go.Proofs.Ytnoolbonejamcaa.rectPoints
