/- Proved: for all rectangles a and b the law RectMeets returns true, and its arguments read afterwards as before; no conditions. -/
import Derived.Test.YtnoolbonejamcaaRows
import Derived.WalkKit
import Derived.Test.YtnoolbonejamcaaAwake
import Derived.Test.YtnoolbonejamcaaRefMeet
import Derived.Test.YtnoolbonejamcaaRefInside
import Derived.Test.YtnoolbonejamcaaArgs
import Derived.ProofKit
import Derived.OpenShut
import Derived.ShutString
import Derived.ChangeOld
import Derived.Below
namespace Go.Proofs.Ytnoolbonejamcaa.rectMeets
open Go.ChangeShapes Go.WideShapes Go.ChangeAt Go.RowKit
set_option linter.unusedVariables false

theorem own : ownKnob Try.prog.godebug = none := by kernel_rfl
theorem laidOut : laidOutB Try.prog = true := by kernel_rfl

theorem meet_comm (a b : R4) : meetR b a = meetR a b := by
  by_cases hm : max a.x0 b.x0 < min a.x1 b.x1 ∧ max a.y0 b.y0 < min a.y1 b.y1
  · rw [meetR_t hm, meetR_t (by omega), Int.max_comm, Int.max_comm b.y0, Int.min_comm, Int.min_comm b.y1]
  · rw [meetR_f hm, meetR_f (by omega)]
theorem meet_swap (a b : R4) (w : World) :
    Calls Try.prog 13 #[.agg #[.int .i64 b.x0, .int .i64 b.y0, .int .i64 b.x1, .int .i64 b.y1], .agg #[.int .i64 a.x0, .int .i64 a.y0, .int .i64 a.x1, .int .i64 a.y1]] w fun e w' => e = .returned (.agg #[.int .i64 (meetR a b).x0, .int .i64 (meetR a b).y0, .int .i64 (meetR a b).x1, .int .i64 (meetR a b).y1]) ∧ Below w.heap.size w w' := meet_comm a b ▸ meet_any b a w
theorem meet_in (a b : R4) : insideB (meetR a b) a = true := by
  by_cases hm : max a.x0 b.x0 < min a.x1 b.x1 ∧ max a.y0 b.y0 < min a.y1 b.y1
  · rw [meetR_t hm]; simp [insideB]; omega
  · rw [meetR_f hm]; rfl
theorem eq4_self (p q r s : Int) : eq4 p q r s p q r s = true := by simp [eq4]

set_option maxHeartbeats 2000000 in
theorem walk (a b : R4) (w : World) (oa : okR a) (ob : okR b) :
    Calls Try.prog 4 #[.agg #[.int .i64 a.x0, .int .i64 a.y0, .int .i64 a.x1, .int .i64 a.y1], .agg #[.int .i64 b.x0, .int .i64 b.y0, .int .i64 b.x1, .int .i64 b.y1]] w fun e w' => e = .returned (.bool true) ∧ Below w.heap.size w w' := by
  clear ob
  have HA := Lib.hid (meet_in a b)
  have HB := Lib.hid (show insideB (meetR a b) b = true by rw [← meet_comm]; exact meet_in b a)
  obtain ⟨c, hc⟩ : ∃ c, insideB a b = c := ⟨_, rfl⟩
  have HC := Lib.hid hc
  clear hc
  have hq := run_eql23
  have hs4 := eq4_self
  go_enter Try.func4, Try.ntmps4
  go_wp2_with fail
  refine (meet_any a b _).mono ?_
  rintro e w1 ⟨rfl, hb⟩
  have h1 : Seen ((w.alloc (.cells #[.int .i64 a.x0, .int .i64 a.y0, .int .i64 a.x1, .int .i64 a.y1] 23)).alloc (.cells #[.int .i64 b.x0, .int .i64 b.y0, .int .i64 b.x1, .int .i64 b.y1] 23)) w1 := hb
  clear hb
  obtain ⟨W, hW⟩ : ∃ W, W = w1.alloc (.cells #[.int .i64 (meetR a b).x0, .int .i64 (meetR a b).y0, .int .i64 (meetR a b).x1, .int .i64 (meetR a b).y1] 23) := ⟨_, rfl⟩
  have hs : Seen w1 W := by rw [hW]; exact (Seen.refl _).alloc _
  have ba := Box.rules (show Box W w.heap.size a from hs.box (h1.box ((box_new w a).alloc _)))
  have bb := Box.rules (show Box W (w.heap.size + 1) b from hs.box (h1.box (by unfold Box; simp)))
  have bm := Box.rules (show Box W w1.heap.size (meetR a b) by rw [hW]; exact box_new w1 _)
  have hWb : Below w.heap.size w W := Seen.trans (Seen.trans (by unfold Seen; go_grown) h1) hs
  clear h1 hs
  go_wp2_with fail
  rw [← hW]
  clear hW
  refine wp_region_quiet (C := Seen W) (by kernel_rfl) (by kernel_rfl) (Seen.drew (Seen.refl W)) ?_
  simp only []
  repeat (first
    | go_big_quiet_skip
    | (go_big_quiet_want
       apply Exists.intro
       refine ⟨fun w1 h1 => ?_, ?_⟩
       focus
         go_simp
         first | done | rfl | (go_at_call 8; with_reducible exact quiet_call h1 (awake_any _)) | (go_at_call 14; with_reducible exact quiet_call h1 (refMeet_any a b _)) | (go_at_call 13; with_reducible exact quiet_call h1 (meet_swap a b _)) | (go_at_call 15; with_reducible exact quiet_call h1 (isB (inside_any (meetR a b) a _) HA.out)) | (go_at_call 15; with_reducible exact quiet_call h1 (isB (inside_any (meetR a b) b _) HB.out)) | (go_at_call 15; with_reducible exact quiet_call h1 (isB (inside_any a b _) HC.out)) | (go_at_call 16; with_reducible exact quiet_call h1 (isB (refInside_any a b _ oa) HC.out))
       (try simp only [Act.put, List.setIfInBounds_toArray, List.set_cons_zero, List.set_cons_succ])
       go_big_quiet_on))
  refine wpQuiet_nil ?_
  intro w2 h2
  go_wp2
  go_ret
  exact ⟨rfl, Seen.trans hWb h2⟩

/-! ### The row's step. -/
set_option maxRecDepth 100000 in
theorem lifted (os : Os) (started : os.Started) (H : Type) (enc : TypeId × Value → H) :
    ReturnsInHanded {} Try.checked os 4 .any (Rows.rectMeetsSpec.pre6 enc Try.prog Try.f4 Rows.rectMeetsRow.domain false) (Rows.rectMeetsSpec.post enc Try.prog Try.f4 false true false false) := by
  refine returnsInHanded_of_change (C := Try.checked) own started (by kernel_rfl) Try.func4
    (ChangeSpec.witness6 (enc := enc) (C := Try.checked) false ⟨#[], #[.agg #[.int .i64 0, .int .i64 0, .int .i64 0, .int .i64 0], .agg #[.int .i64 0, .int .i64 0, .int .i64 0, .int .i64 0]], []⟩ 8 (by kernel_rfl) (by kernel_rfl) (by kernel_rfl) (by kernel_rfl)) ?_
  intro W base args ds gs before hval0 hW hcnd _
  have hval : ∀ (j : Nat) t v, Try.f4.params[j]? = some t → args[j]? = some v → Value.okWide Try.prog W .any base t v := hval0
  have hW' := hW
  obtain ⟨p, q, hA0, hV, rfl, hfz, hnd⟩ := hW
  have hA : DataW.TrodAll enc Try.prog W 0 (fun _ => true) true Try.f4.params.toList args.toList ds p := hA0
  rw [Try.params4] at hA hval
  obtain ⟨v0, vs0, d0, ds0, p0, q0, hargs, rfl, rfl, h0, r0⟩ := trodAll_cons hA
  obtain ⟨v1, vs1, d1, ds1, p1, q1, rfl, rfl, rfl, h1, r1⟩ := trodAll_cons r0
  obtain ⟨rfl, rfl, rfl⟩ := trodAll_nil r1
  obtain rfl : args = #[v0, v1] := by cases args; simp_all
  obtain ⟨rfl, rfl⟩ := trodVars_none hV
  have k0 := h0
  have lt0 : ∀ x ∈ p0, x.block < W.heap.size := by obtain ⟨m, hm⟩ := k0; exact DataW.trod_lt m _ _ _ hm
  obtain ⟨g0, rfl, o0⟩ := open_rect (hval 0 23 v0 rfl rfl) h0
  have k1 := h1
  have lt1 : ∀ x ∈ p1, x.block < W.heap.size := by obtain ⟨m, hm⟩ := k1; exact DataW.trod_lt m _ _ _ hm
  obtain ⟨g1, rfl, o1⟩ := open_rect (hval 1 23 v1 rfl rfl) h1
  clear hA0 hval0
  refine (walk g0 g1 W o0 o1).mono fun e W' ⟨he, bel⟩ => ?_
  subst he
  exact ⟨_, rfl, _, _, _, [], _, [], hW', trodAll_mk1 (shut_bool Try.underlying4 _), (trodAll_cons_mk (Below.trod laidOut (by kernel_rfl) (of_decide_eq_true (by kernel_rfl)) k0 bel lt0) (trodAll_cons_mk (Below.trod laidOut (by kernel_rfl) (of_decide_eq_true (by kernel_rfl)) k1 bel lt1) trodAll_mk0)), rfl, bel.frame _, fun h => by cases h⟩

theorem over : Rows.rectMeetsRow.holds Try.pinned (OpenSpec.ofChange Rows.rectMeetsSpec) :=
  OpenClaim.holds_of_wide 4 Try.f4 rfl rfl rfl rfl rfl rfl rfl ⟨rfl, rfl, rfl, rfl, rfl⟩ rfl rfl rfl rfl rfl (by kernel_rfl) Try.func4 (by kernel_rfl)
    (of_decide_eq_true (by kernel_rfl)) (by unfold Func.isWrapper; first | (rw [if_pos (by decide +kernel)]; kernel_rfl) | (rw [if_neg (by decide +kernel)]; exact ⟨rfl, rfl⟩))
    (fun os started H enc _ => lifted os started H enc)

/-- The statement. -/
theorem proved : Rows.RectMeetsSaid := over
#print axioms proved
end Go.Proofs.Ytnoolbonejamcaa.rectMeets
