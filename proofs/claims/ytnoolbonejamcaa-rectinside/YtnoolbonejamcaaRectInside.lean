/- Proved: for all rectangles a and b and all int64 x and y the law RectInside returns true, and its arguments read afterwards as before; no conditions. -/
import Derived.Test.YtnoolbonejamcaaRows
import Derived.WalkKit
import Derived.Test.YtnoolbonejamcaaAwake
import Derived.Test.YtnoolbonejamcaaArgs
import Derived.ProofKit
import Derived.OpenShut
import Derived.ShutString
import Derived.ChangeOld
import Derived.Below
namespace Go.Proofs.Ytnoolbonejamcaa.rectInside
open Go.ChangeShapes Go.WideShapes Go.ChangeAt Go.RowKit
set_option linter.unusedVariables false

theorem own : ownKnob Try.prog.godebug = none := by kernel_rfl
theorem laidOut : laidOutB Try.prog = true := by kernel_rfl

theorem inside_point {a b : R4} {x y : Int} (h : insideB a b = true) (h2 : holdsB a x y = true) : holdsB b x y = true := by
  simp only [insideB, emptyB, holdsB, Bool.or_eq_true, decide_eq_true_eq] at *; omega
theorem same_inside (a b : R4) : sameB a b = (insideB a b && insideB b a) := by
  refine bool_iff ?_
  simp only [sameB, eq4, insideB, emptyB, Bool.or_eq_true, Bool.and_eq_true, decide_eq_true_eq]; omega
theorem not_inside {a b : R4} (h : insideB a b = false) : eq4 (meetR a b).x0 (meetR a b).y0 (meetR a b).x1 (meetR a b).y1 a.x0 a.y0 a.x1 a.y1 = false := by
  have he : emptyB a = false := by
    unfold insideB at h; rw [Bool.or_eq_false_iff] at h; exact h.1
  rw [inside_meet he, h]

set_option maxHeartbeats 4000000 in
theorem walk (a b : R4) (x y : Int) (w : World) (oa : okR a) (ob : okR b) (ox : okN x) (oy : okN y) :
    Calls Try.prog 5 #[.agg #[.int .i64 a.x0, .int .i64 a.y0, .int .i64 a.x1, .int .i64 a.y1], .agg #[.int .i64 b.x0, .int .i64 b.y0, .int .i64 b.x1, .int .i64 b.y1], .int .i64 x, .int .i64 y] w fun e w' => e = .returned (.bool true) ∧ Below w.heap.size w w' := by
  clear oa ob ox oy
  have hq := run_neq23
  obtain ⟨W, hW⟩ : ∃ W, W = (w.alloc (.cells #[.int .i64 a.x0, .int .i64 a.y0, .int .i64 a.x1, .int .i64 a.y1] 23)).alloc (.cells #[.int .i64 b.x0, .int .i64 b.y0, .int .i64 b.x1, .int .i64 b.y1] 23) := ⟨_, rfl⟩
  have ba := Box.rules (show Box W w.heap.size a by rw [hW]; exact (box_new w a).alloc _)
  have bb := Box.rules (show Box W (w.heap.size + 1) b by subst hW; unfold Box; simp)
  have hWb : Below w.heap.size w W := by subst hW; go_grown
  rcases Bool.eq_false_or_eq_true (insideB a b) with hc1 | hc1
  · have H1 := Lib.hid hc1
    obtain ⟨c3, hc3⟩ : ∃ c, insideB b a = c := ⟨_, rfl⟩
    have H3 := Lib.hid hc3
    have HS : Hid (sameB a b = c3) := by unfold Hid; rw [same_inside, hc1, hc3]; rfl
    clear hc3
    rcases Bool.eq_false_or_eq_true (holdsB a x y) with hc2 | hc2
    · have H2 := Lib.hid hc2
      have H2b := Lib.hid (inside_point hc1 hc2)
      clear hc1 hc2
      go_enter Try.func5, Try.ntmps5
      go_wp2_with fail
      rw [← hW]
      clear hW
      have sW := Seen.refl W
      refine (awake_any _).mono ?_
      rintro e wA ⟨rfl, hwA⟩
      have swA : Seen W wA := sW.next hwA
      clear hwA
      go_wp2_with fail
      refine (isB (inside_any a b _) H1.out).mono ?_
      rintro e wB ⟨rfl, hwB⟩
      have swB : Seen W wB := swA.next hwB
      clear hwB
      go_wp2_with fail
      refine (isB (holds_any a x y _) H2.out).mono ?_
      rintro e wC ⟨rfl, hwC⟩
      have swC : Seen W wC := swB.next hwC
      clear hwC
      go_wp2_with fail
      refine (isB (holds_any b x y _) H2b.out).mono ?_
      rintro e wD ⟨rfl, hwD⟩
      have swD : Seen W wD := swC.next hwD
      clear hwD
      go_wp2_with fail
      refine (isB (inside_any a b _) H1.out).mono ?_
      rintro e wE ⟨rfl, hwE⟩
      have swE : Seen W wE := swD.next hwE
      clear hwE
      go_wp2_with fail
      refine (isB (inside_any b a _) H3.out).mono ?_
      rintro e wF ⟨rfl, hwF⟩
      have swF : Seen W wF := swE.next hwF
      clear hwF
      go_wp2_with fail
      refine wp_region_quiet (C := Seen W) (by kernel_rfl) (by kernel_rfl) (Seen.drew swF) ?_
      simp only []
      repeat (first
        | go_big_quiet_skip
        | (go_big_quiet_want
           apply Exists.intro
           refine ⟨fun w1 h1 => ?_, ?_⟩
           focus
             go_simp
             first | done | rfl | (go_at_call 17; with_reducible exact quiet_call h1 (isB (same_any a b _) HS.out)) | (go_at_call 13; with_reducible exact quiet_call h1 (meet_any a b _))
           (try simp only [Act.put, List.setIfInBounds_toArray, List.set_cons_zero, List.set_cons_succ])
           go_big_quiet_on))
      refine wpQuiet_nil ?_
      intro w2 h2
      go_wp2
      go_ret
      exact ⟨rfl, Seen.trans hWb h2⟩
    · have H2 := Lib.hid hc2
      clear hc1 hc2
      go_enter Try.func5, Try.ntmps5
      go_wp2_with fail
      rw [← hW]
      clear hW
      have sW := Seen.refl W
      refine (awake_any _).mono ?_
      rintro e wA ⟨rfl, hwA⟩
      have swA : Seen W wA := sW.next hwA
      clear hwA
      go_wp2_with fail
      refine (isB (inside_any a b _) H1.out).mono ?_
      rintro e wB ⟨rfl, hwB⟩
      have swB : Seen W wB := swA.next hwB
      clear hwB
      go_wp2_with fail
      refine (isB (holds_any a x y _) H2.out).mono ?_
      rintro e wC ⟨rfl, hwC⟩
      have swC : Seen W wC := swB.next hwC
      clear hwC
      go_wp2_with fail
      refine (isB (inside_any a b _) H1.out).mono ?_
      rintro e wE ⟨rfl, hwE⟩
      have swE : Seen W wE := swC.next hwE
      clear hwE
      go_wp2_with fail
      refine (isB (inside_any b a _) H3.out).mono ?_
      rintro e wF ⟨rfl, hwF⟩
      have swF : Seen W wF := swE.next hwF
      clear hwF
      go_wp2_with fail
      refine wp_region_quiet (C := Seen W) (by kernel_rfl) (by kernel_rfl) (Seen.drew swF) ?_
      simp only []
      repeat (first
        | go_big_quiet_skip
        | (go_big_quiet_want
           apply Exists.intro
           refine ⟨fun w1 h1 => ?_, ?_⟩
           focus
             go_simp
             first | done | rfl | (go_at_call 17; with_reducible exact quiet_call h1 (isB (same_any a b _) HS.out)) | (go_at_call 13; with_reducible exact quiet_call h1 (meet_any a b _))
           (try simp only [Act.put, List.setIfInBounds_toArray, List.set_cons_zero, List.set_cons_succ])
           go_big_quiet_on))
      refine wpQuiet_nil ?_
      intro w2 h2
      go_wp2
      go_ret
      exact ⟨rfl, Seen.trans hWb h2⟩
  · have H1 := Lib.hid hc1
    have HS : Hid (sameB a b = false) := by unfold Hid; rw [same_inside, hc1]; rfl
    have hne := not_inside hc1
    clear hc1
    go_enter Try.func5, Try.ntmps5
    go_wp2_with fail
    rw [← hW]
    clear hW
    have sW := Seen.refl W
    refine (awake_any _).mono ?_
    rintro e wA ⟨rfl, hwA⟩
    have swA : Seen W wA := sW.next hwA
    clear hwA
    go_wp2_with fail
    refine (isB (inside_any a b _) H1.out).mono ?_
    rintro e wB ⟨rfl, hwB⟩
    have swB : Seen W wB := swA.next hwB
    clear hwB
    go_wp2_with fail
    refine (isB (inside_any a b _) H1.out).mono ?_
    rintro e wE ⟨rfl, hwE⟩
    have swE : Seen W wE := swB.next hwE
    clear hwE
    go_wp2_with fail
    refine wp_region_quiet (C := Seen W) (by kernel_rfl) (by kernel_rfl) (Seen.drew swE) ?_
    simp only []
    repeat (first
      | go_big_quiet_skip
      | (go_big_quiet_want
         apply Exists.intro
         refine ⟨fun w1 h1 => ?_, ?_⟩
         focus
           go_simp
           first | done | rfl | (go_at_call 17; with_reducible exact quiet_call h1 (isB (same_any a b _) HS.out)) | (go_at_call 13; with_reducible exact quiet_call h1 (meet_any a b _))
         (try simp only [Act.put, List.setIfInBounds_toArray, List.set_cons_zero, List.set_cons_succ])
         go_big_quiet_on))
    refine wpQuiet_nil ?_
    intro w2 h2
    go_wp2
    go_ret
    exact ⟨rfl, Seen.trans hWb h2⟩


/-! ### The row's step. -/
set_option maxRecDepth 100000 in
theorem lifted (os : Os) (started : os.Started) (H : Type) (enc : TypeId × Value → H) :
    ReturnsInHanded {} Try.checked os 5 .any (Rows.rectInsideSpec.pre6 enc Try.prog Try.f5 Rows.rectInsideRow.domain false) (Rows.rectInsideSpec.post enc Try.prog Try.f5 false true false false) := by
  refine returnsInHanded_of_change (C := Try.checked) own started (by kernel_rfl) Try.func5
    (ChangeSpec.witness6 (enc := enc) (C := Try.checked) false ⟨#[], #[.agg #[.int .i64 0, .int .i64 0, .int .i64 0, .int .i64 0], .agg #[.int .i64 0, .int .i64 0, .int .i64 0, .int .i64 0], .int .i64 0, .int .i64 0], []⟩ 8 (by kernel_rfl) (by kernel_rfl) (by kernel_rfl) (by kernel_rfl)) ?_
  intro W base args ds gs before hval0 hW hcnd _
  have hval : ∀ (j : Nat) t v, Try.f5.params[j]? = some t → args[j]? = some v → Value.okWide Try.prog W .any base t v := hval0
  have hW' := hW
  obtain ⟨p, q, hA0, hV, rfl, hfz, hnd⟩ := hW
  have hA : DataW.TrodAll enc Try.prog W 0 (fun _ => true) true Try.f5.params.toList args.toList ds p := hA0
  rw [Try.params5] at hA hval
  obtain ⟨v0, vs0, d0, ds0, p0, q0, hargs, rfl, rfl, h0, r0⟩ := trodAll_cons hA
  obtain ⟨v1, vs1, d1, ds1, p1, q1, rfl, rfl, rfl, h1, r1⟩ := trodAll_cons r0
  obtain ⟨v2, vs2, d2, ds2, p2, q2, rfl, rfl, rfl, h2, r2⟩ := trodAll_cons r1
  obtain ⟨v3, vs3, d3, ds3, p3, q3, rfl, rfl, rfl, h3, r3⟩ := trodAll_cons r2
  obtain ⟨rfl, rfl, rfl⟩ := trodAll_nil r3
  obtain rfl : args = #[v0, v1, v2, v3] := by cases args; simp_all
  obtain ⟨rfl, rfl⟩ := trodVars_none hV
  have k0 := h0
  have lt0 : ∀ x ∈ p0, x.block < W.heap.size := by obtain ⟨m, hm⟩ := k0; exact DataW.trod_lt m _ _ _ hm
  obtain ⟨g0, rfl, o0⟩ := open_rect (hval 0 23 v0 rfl rfl) h0
  have k1 := h1
  have lt1 : ∀ x ∈ p1, x.block < W.heap.size := by obtain ⟨m, hm⟩ := k1; exact DataW.trod_lt m _ _ _ hm
  obtain ⟨g1, rfl, o1⟩ := open_rect (hval 1 23 v1 rfl rfl) h1
  have k2 := h2
  have lt2 : ∀ x ∈ p2, x.block < W.heap.size := by obtain ⟨m, hm⟩ := k2; exact DataW.trod_lt m _ _ _ hm
  obtain ⟨g2, rfl, o2⟩ := open_num (hval 2 2 v2 rfl rfl) h2
  have k3 := h3
  have lt3 : ∀ x ∈ p3, x.block < W.heap.size := by obtain ⟨m, hm⟩ := k3; exact DataW.trod_lt m _ _ _ hm
  obtain ⟨g3, rfl, o3⟩ := open_num (hval 3 2 v3 rfl rfl) h3
  clear hA0 hval0
  refine (walk g0 g1 g2 g3 W o0 o1 o2 o3).mono fun e W' ⟨he, bel⟩ => ?_
  subst he
  exact ⟨_, rfl, _, _, _, [], _, [], hW', trodAll_mk1 (shut_bool Try.underlying4 _), (trodAll_cons_mk (Below.trod laidOut (by kernel_rfl) (of_decide_eq_true (by kernel_rfl)) k0 bel lt0) (trodAll_cons_mk (Below.trod laidOut (by kernel_rfl) (of_decide_eq_true (by kernel_rfl)) k1 bel lt1) (trodAll_cons_mk (Below.trod laidOut (by kernel_rfl) (of_decide_eq_true (by kernel_rfl)) k2 bel lt2) (trodAll_cons_mk (Below.trod laidOut (by kernel_rfl) (of_decide_eq_true (by kernel_rfl)) k3 bel lt3) trodAll_mk0)))), rfl, bel.frame _, fun h => by cases h⟩

theorem over : Rows.rectInsideRow.holds Try.pinned (OpenSpec.ofChange Rows.rectInsideSpec) :=
  OpenClaim.holds_of_wide 5 Try.f5 rfl rfl rfl rfl rfl rfl rfl ⟨rfl, rfl, rfl, rfl, rfl⟩ rfl rfl rfl rfl rfl (by kernel_rfl) Try.func5 (by kernel_rfl)
    (of_decide_eq_true (by kernel_rfl)) (by unfold Func.isWrapper; first | (rw [if_pos (by decide +kernel)]; kernel_rfl) | (rw [if_neg (by decide +kernel)]; exact ⟨rfl, rfl⟩))
    (fun os started H enc _ => lifted os started H enc)

/-- The statement. -/
theorem proved : Rows.RectInsideSaid := over
#print axioms proved
end Go.Proofs.Ytnoolbonejamcaa.rectInside
