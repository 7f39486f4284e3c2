/- Proved: for every style s the law StyleForms returns true, and its argument reads afterwards as before; no conditions. -/
import Derived.Test.YtgmoolleckaiaaaRows
import Derived.WalkKit
import Derived.Test.YtgmoolleckaiaaaRefWithin
import Derived.Test.YtgmoolleckaiaaaOpenS
import Derived.Test.YtgmoolleckaiaaaFormsBase
import Derived.ProofKit
import Derived.OpenShut
import Derived.ShutString
import Derived.ChangeOld
import Derived.Below
namespace Go.Proofs.Ytgmoolleckaiaaa.styleForms
open Go.ChangeShapes Go.WideShapes Go.ChangeAt Go.RowKit
set_option linter.unusedVariables false

theorem own : ownKnob Try.prog.godebug = none := by kernel_rfl
theorem laidOut : laidOutB Try.prog = true := by kernel_rfl


set_option maxRecDepth 100000 in
set_option maxHeartbeats 8000000 in
theorem walk (s : Sty) (w : World) (os : OkS s) :
    Calls Try.prog 3 #[sv s] w fun e w' => e = .returned (.bool true) ∧ Below w.heap.size w w' := by
  have HF := Lib.hid os.full
  clear os
  obtain ⟨W, hW⟩ : ∃ W, W = w.alloc (.cells (stl s).toArray 27) := ⟨_, rfl⟩
  have H0 : Hid (Hs W w.heap.size s) := by rw [hW]; exact hs_new w s
  have S0 : Hid (Seen w W) := by rw [hW]; exact (Seen.refl w).alloc _
  have hld : ∀ w1, Seen W w1 → (Instr.loadAt 27 (.pointer (some ⟨w.heap.size, 0, none⟩))).run Try.prog w1 = .ok (sv s) w1 := fun w1 h1 => load_style (H0.out.seen h1) HF.out
  have HLD := Lib.hid hld
  clear hld
  unfold sv
  cases hfb : formedB s
  all_goals
    go_enter Try.func3, Try.ntmps3
    go_wp2_with fail
    rw [← hW]
    clear hW
    refine wp_region_quiet (C := Seen W) (by kernel_rfl) (by kernel_rfl) (Seen.drew (Seen.refl _)) ?_
    simp only []
    repeat (first
      | go_big_quiet_skip
      | (go_big_quiet_want
         apply Exists.intro
         refine ⟨fun w1 h1 => ?_, ?_⟩
         focus
           first
           | exact quiet_loadS _ rfl rfl (HLD.out w1 h1)
           | (go_simp
              first
                | done
                | rfl
                | (go_at_call 7; with_reducible exact quiet_call h1 (awake_any _))
                | (go_at_call 8; with_reducible exact quiet_call h1 (isB (formed_any s HF.out _) hfb))
                | (go_at_call 9; with_reducible exact quiet_call h1 (isB (refFormed_any s HF.out _) hfb))
                | (go_at_call 10; with_reducible exact quiet_call h1 (within_any s HF.out _))
                | (go_at_call 11; with_reducible exact quiet_call h1 (refWithin_any s HF.out _)))
         (try simp only [Act.put, List.setIfInBounds_toArray, List.set_cons_zero, List.set_cons_succ])
         go_big_quiet_on))
    refine wpQuiet_nil ?_
    intro w3 h3
    go_wp2_with fail
    go_ret
    exact ⟨rfl, S0.out.trans h3⟩

/-! ### The row's step. -/
set_option maxRecDepth 100000 in
theorem lifted (os : Os) (started : os.Started) (H : Type) (enc : TypeId × Value → H) :
    ReturnsInHanded {} Try.checked os 3 .any (Rows.styleFormsSpec.pre6 enc Try.prog Try.f3 Rows.styleFormsRow.domain false) (Rows.styleFormsSpec.post enc Try.prog Try.f3 false true false false) := by
  refine returnsInHanded_of_change (C := Try.checked) own started (by kernel_rfl) Try.func3
    (ChangeSpec.witness6 (enc := enc) (C := Try.checked) false ⟨#[], #[.agg #[.bool false, .int .i64 0, .int .i64 0, .int .i64 0, .int .i64 0, .int .i64 0, .int .i64 0, .int .i64 0, .int .i64 0, .int .i64 0, .int .i64 0, .int .i64 0, .int .i64 0, .int .i64 0, .int .i64 0, .int .i64 0, .int .i64 0, .int .i64 0, .int .i64 0, .int .i64 0, .int .i64 0, .int .i64 0, .int .i64 0, .int .i64 0, .int .i64 0, .int .i64 0, .int .i64 0, .int .i64 0, .int .i64 0, .int .i64 0, .int .i64 0, .int .i64 0, .int .i64 0, .int .i64 0, .int .i64 0, .int .i64 0, .int .i64 0, .int .i64 0, .int .i64 0, .int .i64 0, .int .i64 0, .int .i64 0, .bool false, .bool false, .int .i64 0, .bool false, .int .i64 0, .int .i64 0]], []⟩ 8 (by kernel_rfl) (by kernel_rfl) (by kernel_rfl) (by kernel_rfl)) ?_
  intro W base args ds gs before hval0 hW hcnd _
  have hval : ∀ (j : Nat) t v, Try.f3.params[j]? = some t → args[j]? = some v → Value.okWide Try.prog W .any base t v := hval0
  have hW' := hW
  obtain ⟨p, q, hA0, hV, rfl, hfz, hnd⟩ := hW
  have hA : DataW.TrodAll enc Try.prog W 0 (fun _ => true) true Try.f3.params.toList args.toList ds p := hA0
  rw [Try.params3] at hA hval
  obtain ⟨v0, vs0, d0, ds0, p0, q0, hargs, rfl, rfl, h0, r0⟩ := trodAll_cons hA
  obtain ⟨rfl, rfl, rfl⟩ := trodAll_nil r0
  obtain rfl : args = #[v0] := by cases args; simp_all
  obtain ⟨rfl, rfl⟩ := trodVars_none hV
  have k0 := h0
  have lt0 : ∀ x ∈ p0, x.block < W.heap.size := by obtain ⟨m, hm⟩ := k0; exact DataW.trod_lt m _ _ _ hm
  obtain ⟨g0, rfl, o0⟩ := open_style (hval 0 27 v0 rfl rfl) h0
  clear hA0 hval0
  refine (walk g0 W o0).mono fun e W' ⟨he, bel⟩ => ?_
  subst he
  exact ⟨_, rfl, _, _, _, [], _, [], hW', trodAll_mk1 (shut_bool Try.underlying4 _), (trodAll_cons_mk (Below.trod laidOut (by kernel_rfl) (of_decide_eq_true (by kernel_rfl)) k0 bel lt0) trodAll_mk0), rfl, bel.frame _, fun h => by cases h⟩

theorem over : Rows.styleFormsRow.holds Try.pinned (OpenSpec.ofChange Rows.styleFormsSpec) :=
  OpenClaim.holds_of_wide 3 Try.f3 rfl rfl rfl rfl rfl rfl rfl ⟨rfl, rfl, rfl, rfl, rfl⟩ rfl rfl rfl rfl rfl (by kernel_rfl) Try.func3 (by kernel_rfl)
    (of_decide_eq_true (by kernel_rfl)) (by unfold Func.isWrapper; first | (rw [if_pos (by decide +kernel)]; kernel_rfl) | (rw [if_neg (by decide +kernel)]; exact ⟨rfl, rfl⟩))
    (fun os started H enc _ => lifted os started H enc)

/-- The statement. -/
theorem proved : Rows.StyleFormsSaid := over
#print axioms proved
end Go.Proofs.Ytgmoolleckaiaaa.styleForms
