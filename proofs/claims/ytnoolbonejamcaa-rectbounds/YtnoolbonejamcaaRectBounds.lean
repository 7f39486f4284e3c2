/- Proved: for every slice of rectangles the law RectBounds returns true, and its argument reads afterwards as before; no conditions. -/
import Derived.Test.YtnoolbonejamcaaRows
import Derived.WalkKit
import Derived.Test.YtnoolbonejamcaaAwake
import Derived.Test.YtnoolbonejamcaaBound
import Derived.Test.YtnoolbonejamcaaRefBound
import Derived.Test.YtnoolbonejamcaaArgRow
import Derived.ProofKit
import Derived.OpenShut
import Derived.ShutString
import Derived.ChangeOld
import Derived.Below
namespace Go.Proofs.Ytnoolbonejamcaa.rectBounds
open Go.ChangeShapes Go.WideShapes Go.ChangeAt Go.RowKit
set_option linter.unusedVariables false

theorem own : ownKnob Try.prog.godebug = none := by kernel_rfl
theorem laidOut : laidOutB Try.prog = true := by kernel_rfl


set_option maxHeartbeats 4000000 in
theorem walk (ad : Option Addr) (n c : Nat) (rs : List R4) (w : World) (h : RS w ad n rs) :
    Calls Try.prog 6 #[.slice ad n c] w fun e w' => e = .returned (.bool true) ∧ Below w.heap.size w w' := by
  have HR := Lib.hid h
  clear h
  have hq := run_eql23
  have hs4 := eq4_same
  by_cases hn : 50 < n
  · have hn' : (50 : Int) < (n : Int) := by omega
    go_enter Try.func6, Try.ntmps6
    go_wp2_with fail
    refine (awake_any _).mono ?_
    rintro e wA ⟨rfl, hA⟩
    go_wp2_with fail
    refine (awake_any _).mono ?_
    rintro e wB ⟨rfl, hB⟩
    go_wp2_with fail
    go_ret
    exact ⟨rfl, Seen.next hA hB⟩
  · have hn' : ¬ (50 : Int) < (n : Int) := by omega
    go_enter Try.func6, Try.ntmps6
    go_wp2_with fail
    refine (awake_any _).mono ?_
    rintro e wA ⟨rfl, hA⟩
    have sA : Seen w wA := hA
    clear hA
    go_wp2_with fail
    refine (bound_any _ _ _ rs _ (HR.out.seen sA) (by omega)).mono ?_
    rintro e wB ⟨rfl, hB⟩
    have sB : Seen w wB := sA.next hB
    clear hB
    obtain ⟨W, hW⟩ : ∃ W, W = wB.alloc (.cells #[.int .i64 (boundL rs).x0, .int .i64 (boundL rs).y0, .int .i64 (boundL rs).x1, .int .i64 (boundL rs).y1] 23) := ⟨_, rfl⟩
    have sW : Seen w W := by rw [hW]; exact sB.alloc _
    have bm := Box.rules (show Box W wB.heap.size (boundL rs) by rw [hW]; exact box_new wB _)
    have HW : Hid (W = wB.alloc (.cells #[.int .i64 (boundL rs).x0, .int .i64 (boundL rs).y0, .int .i64 (boundL rs).x1, .int .i64 (boundL rs).y1] 23)) := hW
    clear hW
    go_wp2_with fail
    rw [← HW.out]
    clear HW
    go_loopw [17] (fun i wr => ∃ k : Nat, k ≤ n ∧ i = .int .i64 k ∧ Seen W wr) (fun i _ => n - (intOf i).toNat)
    case atStart => exact ⟨0, Nat.zero_le _, rfl, Seen.refl _⟩
    case round =>
      obtain ⟨k, hk, rfl, hs⟩ := hrel
      by_cases hlt : k < n
      · obtain ⟨b1, o1, rfl, hc1⟩ := (HR.out.seen sW).2 (by omega)
        have rk := At4.rules (hc1 k hlt)
        clear hc1
        have HI : Hid (insideB (rat rs k) (boundL rs) = true) := by
          have hkl : k < rs.length := by rw [HR.out.1]; exact hlt
          unfold Hid
          rw [rat_eq hkl]
          exact inside_bound rs _ _ (List.getElem_mem hkl)
        go_wp2_with fail
        refine wp_region_quiet (C := Seen W) (by kernel_rfl) (by kernel_rfl) (Seen.drew hs) ?_
        simp only []
        repeat (first
          | go_big_quiet_skip
          | (go_big_quiet_want
             apply Exists.intro
             refine ⟨fun w1 h1 => ?_, ?_⟩
             focus
               go_simp
               first | done | rfl | (go_at_call 15; with_reducible exact quiet_call h1 (isB (inside_any (rat rs k) (boundL rs) _) HI.out))
             (try simp only [Act.put, List.setIfInBounds_toArray, List.set_cons_zero, List.set_cons_succ])
             go_big_quiet_on))
        refine wpQuiet_nil ?_
        intro w2 h2
        go_wp2_with fail
        go_roundw
        case rel => exact ⟨k + 1, by omega, by go_num, h2⟩
        case measure => simp [intOf]; omega
      · go_wp2_with fail
        refine wp_region_quiet (C := Seen W) (by kernel_rfl) (by kernel_rfl) (Seen.drew hs) ?_
        simp only []
        repeat (first
          | go_big_quiet_skip
          | (go_big_quiet_want
             apply Exists.intro
             refine ⟨fun w1 h1 => ?_, ?_⟩
             focus
               go_simp
               first | done | rfl | (go_at_call 19; with_reducible exact quiet_call h1 (refBound_any _ _ _ rs _ (HR.out.seen (sW.trans h1)) (by omega)))
             (try simp only [Act.put, List.setIfInBounds_toArray, List.set_cons_zero, List.set_cons_succ])
             go_big_quiet_on))
        refine wpQuiet_nil ?_
        intro w2 h2
        go_wp2_with fail
        go_ret
        exact ⟨rfl, sW.trans h2⟩

/-! ### The row's step. -/
set_option maxRecDepth 100000 in
theorem lifted (os : Os) (started : os.Started) (H : Type) (enc : TypeId × Value → H) :
    ReturnsInHanded {} Try.checked os 6 .any (Rows.rectBoundsSpec.pre6 enc Try.prog Try.f6 Rows.rectBoundsRow.domain false) (Rows.rectBoundsSpec.post enc Try.prog Try.f6 false true false false) := by
  refine returnsInHanded_of_change (C := Try.checked) own started (by kernel_rfl) Try.func6
    (ChangeSpec.witness6 (enc := enc) (C := Try.checked) false ⟨#[], #[.slice none 0 0], []⟩ 8 (by kernel_rfl) (by kernel_rfl) (by kernel_rfl) (by kernel_rfl)) ?_
  intro W base args ds gs before hval0 hW hcnd _
  have hval : ∀ (j : Nat) t v, Try.f6.params[j]? = some t → args[j]? = some v → Value.okWide Try.prog W .any base t v := hval0
  have hW' := hW
  obtain ⟨p, q, hA0, hV, rfl, hfz, hnd⟩ := hW
  have hA : DataW.TrodAll enc Try.prog W 0 (fun _ => true) true Try.f6.params.toList args.toList ds p := hA0
  rw [Try.params6] at hA hval
  obtain ⟨v0, vs0, d0, ds0, p0, q0, hargs, rfl, rfl, h0, r0⟩ := trodAll_cons hA
  obtain ⟨rfl, rfl, rfl⟩ := trodAll_nil r0
  obtain rfl : args = #[v0] := by cases args; simp_all
  obtain ⟨rfl, rfl⟩ := trodVars_none hV
  have k0 := h0
  have lt0 : ∀ x ∈ p0, x.block < W.heap.size := by obtain ⟨m, hm⟩ := k0; exact DataW.trod_lt m _ _ _ hm
  obtain ⟨a0, len0, cap0, g0, rfl, o0⟩ := open_rects (hval 0 30 v0 rfl rfl) h0
  clear hA0 hval0
  refine (walk a0 len0 cap0 g0 W o0).mono fun e W' ⟨he, bel⟩ => ?_
  subst he
  exact ⟨_, rfl, _, _, _, [], _, [], hW', trodAll_mk1 (shut_bool Try.underlying4 _), (trodAll_cons_mk (Below.trod laidOut (by kernel_rfl) (of_decide_eq_true (by kernel_rfl)) k0 bel lt0) trodAll_mk0), rfl, bel.frame _, fun h => by cases h⟩

theorem over : Rows.rectBoundsRow.holds Try.pinned (OpenSpec.ofChange Rows.rectBoundsSpec) :=
  OpenClaim.holds_of_wide 6 Try.f6 rfl rfl rfl rfl rfl rfl rfl ⟨rfl, rfl, rfl, rfl, rfl⟩ rfl rfl rfl rfl rfl (by kernel_rfl) Try.func6 (by kernel_rfl)
    (of_decide_eq_true (by kernel_rfl)) (by unfold Func.isWrapper; first | (rw [if_pos (by decide +kernel)]; kernel_rfl) | (rw [if_neg (by decide +kernel)]; exact ⟨rfl, rfl⟩))
    (fun os started H enc _ => lifted os started H enc)

/-- The statement. -/
theorem proved : Rows.RectBoundsSaid := over
#print axioms proved
end Go.Proofs.Ytnoolbonejamcaa.rectBounds
