/- Proved: for every rectangle r and every slice l of rectangles the law CoverAll returns true, and its arguments read afterwards as before; no conditions. -/
import Derived.Test.YtckfdlolmenigaaRows
import Derived.WalkKit
import Derived.Test.YtckfdlolmenigaaAwake
import Derived.Test.YtckfdlolmenigaaRefCovered
import Derived.Test.YtckfdlolmenigaaArgCap
import Derived.ProofKit
import Derived.OpenShut
import Derived.ShutString
import Derived.ChangeOld
import Derived.Below
namespace Go.Proofs.Ytckfdlolmenigaa.coverAll
open Go.ChangeShapes Go.WideShapes Go.ChangeAt Go.RowKit
set_option linter.unusedVariables false

theorem own : ownKnob Try.prog.godebug = none := by kernel_rfl
theorem laidOut : laidOutB Try.prog = true := by kernel_rfl


set_option maxHeartbeats 8000000 in
theorem walk (r : R4) (ad : Option Addr) (n c : Nat) (rs : List R4) (w : World) (_ : okR r) (h : RS w ad n rs ∧ n ≤ c) :
    Calls Try.prog 4 #[.agg #[.int .i64 r.x0, .int .i64 r.y0, .int .i64 r.x1, .int .i64 r.y1], .slice ad n c] w fun e w' => e = .returned (.bool true) ∧ Below w.heap.size w w' := by
  rename_i hx1
  clear hx1
  obtain ⟨h, hc⟩ := h
  have HR := Lib.hid h
  clear h
  by_cases hn : 8 < n
  · have hn' : (8 : Int) < (n : Int) := by omega
    go_enter Try.func4, Try.ntmps4
    go_wp2_with fail
    refine (awake_any _).mono ?_
    rintro e wA ⟨rfl, hA⟩
    have sA : Seen w wA := ((Seen.refl w).alloc _).next hA
    clear hA
    go_wp2_with fail
    refine (awake_any _).mono ?_
    rintro e wB ⟨rfl, hB⟩
    go_wp2_with fail
    go_ret
    exact ⟨rfl, sA.next hB⟩
  · have hn' : ¬ (8 : Int) < (n : Int) := by omega
    obtain ⟨W, hW⟩ : ∃ W, W = w.alloc (.cells #[.int .i64 r.x0, .int .i64 r.y0, .int .i64 r.x1, .int .i64 r.y1] 23) := ⟨_, rfl⟩
    have br := Box.rules (show Box W w.heap.size r by rw [hW]; exact box_new w r)
    have hwW : Seen w W := by rw [hW]; exact (Seen.refl w).alloc _
    have HW := Lib.hid hW
    clear hW
    go_enter Try.func4, Try.ntmps4
    go_wp2_with fail
    rw [← HW.out]
    clear HW
    refine (awake_any _).mono ?_
    rintro e wA ⟨rfl, hwA⟩
    have swA : Seen W wA := hwA
    have swAd : Seen W wA.drew := swA.drew
    have HRW := Lib.hid (HR.out.seen hwW)
    clear hwA
    rcases Bool.eq_false_or_eq_true (gridB r rs) with hb | hb
    all_goals
      have HB := Lib.hid hb
      have HC := Lib.hid ((covered_grid r rs).trans hb)
      clear hb
      go_wp2_with fail
      refine wp_region_quiet (C := Seen W) (by kernel_rfl) (by kernel_rfl) swAd ?_
      simp only []
      repeat (first
        | go_big_quiet_skip
        | (go_big_quiet_want
           apply Exists.intro
           refine ⟨fun w1 h1 => ?_, ?_⟩
           focus
             go_simp
             first | done | rfl | (go_at_call 14; with_reducible exact quiet_call h1 (isB (covered_any r ad n c rs _ (HRW.out.seen h1) (by omega) hc) HC.out)) | (go_at_call 15; with_reducible exact quiet_call h1 (isB (refCovered_any r ad n c rs _ (HRW.out.seen h1) (by omega)) HB.out))
           (try simp only [Act.put, List.setIfInBounds_toArray, List.set_cons_zero, List.set_cons_succ])
           go_big_quiet_on))
      refine wpQuiet_nil ?_
      intro w2 h2
      go_wp2_with fail
      go_ret
      exact ⟨rfl, hwW.trans h2⟩

/-! ### The row's step. -/
set_option maxRecDepth 100000 in
theorem lifted (os : Os) (started : os.Started) (H : Type) (enc : TypeId × Value → H) :
    ReturnsInHanded {} Try.checked os 4 .any (Rows.coverAllSpec.pre6 enc Try.prog Try.f4 Rows.coverAllRow.domain false) (Rows.coverAllSpec.post enc Try.prog Try.f4 false true false false) := by
  refine returnsInHanded_of_change (C := Try.checked) own started (by kernel_rfl) Try.func4
    (ChangeSpec.witness6 (enc := enc) (C := Try.checked) false ⟨#[], #[.agg #[.int .i64 0, .int .i64 0, .int .i64 0, .int .i64 0], .slice none 0 0], []⟩ 8 (by kernel_rfl) (by kernel_rfl) (by kernel_rfl) (by kernel_rfl)) ?_
  intro W base args ds gs before hval0 hW hcnd _
  have hval : ∀ (j : Nat) t v, Try.f4.params[j]? = some t → args[j]? = some v → Value.okWide Try.prog W .any base t v := hval0
  have hW' := hW
  obtain ⟨p, q, hA0, hV, rfl, hfz, hnd⟩ := hW
  have hA : DataW.TrodAll enc Try.prog W 0 (fun _ => true) true Try.f4.params.toList args.toList ds p := hA0
  rw [Try.params4] at hA hval
  obtain ⟨v0, vs0, d0, ds0, p0, q0, hargs, rfl, rfl, h0, r0⟩ := trodAll_cons hA
  obtain ⟨v1, vs1, d1, ds1, p1, q1, rfl, rfl, rfl, h1, r1⟩ := trodAll_cons r0
  obtain ⟨rfl, rfl, rfl⟩ := trodAll_nil r1
  obtain rfl : args = #[v0, v1] := by cases args; simp_all
  obtain ⟨rfl, rfl⟩ := trodVars_none hV
  have k0 := h0
  have lt0 : ∀ x ∈ p0, x.block < W.heap.size := by obtain ⟨m, hm⟩ := k0; exact DataW.trod_lt m _ _ _ hm
  obtain ⟨g0, rfl, o0⟩ := open_rect (hval 0 23 v0 rfl rfl) h0
  have k1 := h1
  have lt1 : ∀ x ∈ p1, x.block < W.heap.size := by obtain ⟨m, hm⟩ := k1; exact DataW.trod_lt m _ _ _ hm
  obtain ⟨a1, len1, cap1, g1, rfl, o1⟩ := open_rowc (hval 1 24 v1 rfl rfl) h1
  clear hA0 hval0
  refine (walk g0 a1 len1 cap1 g1 W o0 o1).mono fun e W' ⟨he, bel⟩ => ?_
  subst he
  exact ⟨_, rfl, _, _, _, [], _, [], hW', trodAll_mk1 (shut_bool Try.underlying4 _), (trodAll_cons_mk (Below.trod laidOut (by kernel_rfl) (of_decide_eq_true (by kernel_rfl)) k0 bel lt0) (trodAll_cons_mk (Below.trod laidOut (by kernel_rfl) (of_decide_eq_true (by kernel_rfl)) k1 bel lt1) trodAll_mk0)), rfl, bel.frame _, fun h => by cases h⟩

theorem over : Rows.coverAllRow.holds Try.pinned (OpenSpec.ofChange Rows.coverAllSpec) :=
  OpenClaim.holds_of_wide 4 Try.f4 rfl rfl rfl rfl rfl rfl rfl ⟨rfl, rfl, rfl, rfl, rfl⟩ rfl rfl rfl rfl rfl (by kernel_rfl) Try.func4 (by kernel_rfl)
    (of_decide_eq_true (by kernel_rfl)) (by unfold Func.isWrapper; first | (rw [if_pos (by decide +kernel)]; kernel_rfl) | (rw [if_neg (by decide +kernel)]; exact ⟨rfl, rfl⟩))
    (fun os started H enc _ => lifted os started H enc)

/-- The statement. -/
theorem proved : Rows.CoverAllSaid := over
#print axioms proved
end Go.Proofs.Ytckfdlolmenigaa.coverAll
