/- Proved: for every box the margins and the width are what the document says (the law AcrossSolves returns true), and its argument reads afterwards as before; no conditions. -/
import Derived.Test.YtimnhognjkgohaaRows
import Derived.WalkKit
import Derived.Test.YtimnhognjkgohaaSolve
import Derived.Test.YtimnhognjkgohaaRefSolve
import Derived.Test.YtimnhognjkgohaaOf
import Derived.Test.YtimnhognjkgohaaArgs
import Derived.ProofKit
import Derived.OpenShut
import Derived.ShutString
import Derived.ChangeOld
import Derived.Below
namespace Go.Proofs.Ytimnhognjkgohaa.acrossSolves
open Go.ChangeShapes Go.WideShapes Go.ChangeAt Go.RowKit
set_option linter.unusedVariables false

theorem own : ownKnob Try.prog.godebug = none := by kernel_rfl
theorem laidOut : laidOutB Try.prog = true := by kernel_rfl

set_option maxHeartbeats 4000000 in
theorem walk (b : Bx) (w : World) (ob : okX b) :
    Calls Try.prog 3 #[bxv b] w fun e w' => e = .returned (.bool true) ∧ Below w.heap.size w w' := by
  clear ob
  have A1 := fun w => awake_any w
  have C := fun w => solve_any b w
  have F := fun w => of_any b w
  have R := fun w => refSolve_any b w
  have ee := run_eql28
  obtain ⟨W, hW⟩ : ∃ W, W = w.alloc (.cells (bxl b).toArray 25) := ⟨_, rfl⟩
  have kb : Blk W w.heap.size (bxl b) 25 := by rw [hW]; exact Blk.new w _ _
  have SW : Hid (Seen w W) := by rw [hW]; exact (Seen.refl w).alloc _
  have rb := kb.rulesB
  have sr := Seen.refl W
  clear kb
  obtain ⟨o, ho⟩ : ∃ x, solO b = x := ⟨_, rfl⟩
  obtain ⟨p, hp⟩ : ∃ x, solB b = x := ⟨_, rfl⟩
  rw [ho, hp] at C R
  obtain ⟨l, m, r⟩ := o
  have es : eqO ⟨l, m, r⟩ ⟨l, m, r⟩ = true := eqO_self _
  clear ho hp
  go_enter Try.func3, Try.ntmps3
  go_upto_region 1 with fail
  rw [← hW]
  clear hW
  go_upto_region 4 with (first
    | (go_at_call 6; refine (A1 _).mono ?_; clear A1; rintro e w1 ⟨rfl, hb⟩; replace sr := sr.trans hb; clear hb)
    | (go_at_call 7; refine (C _).mono ?_; clear C; rintro e w2 ⟨rfl, hb⟩; have sC := sr.trans hb; clear hb sr))
  obtain ⟨V, hV⟩ : ∃ V, V = w2.alloc (.cells #[.int .i64 l, .int .i64 m, .int .i64 r] 28) := ⟨_, rfl⟩
  obtain ⟨A, hA⟩ : ∃ A, w2.heap.size = A := ⟨_, rfl⟩
  have kV : Blk V A [.int .i64 l, .int .i64 m, .int .i64 r] 28 := by rw [hV, ← hA]; exact Blk.new w2 _ _
  have sr : Seen W V := by rw [hV]; exact sC.alloc _
  rw [← hV, hA]
  clear hV hA sC
  go_upto_region 5 with (first
    | (go_at_call 9; refine (F _).mono ?_; clear F; rintro e w3 ⟨rfl, hb⟩; have s3 := hb; clear hb)
    | (go_at_call 8; refine (R _).mono ?_; clear R; rintro e w4 ⟨rfl, hb⟩; have s4 : Seen V w4 := s3.trans hb; clear hb))
  obtain ⟨U, hU⟩ : ∃ U, U = w4.alloc (.cells #[.int .i64 l, .int .i64 m, .int .i64 r] 31) := ⟨_, rfl⟩
  obtain ⟨B, hB⟩ : ∃ B, w4.heap.size = B := ⟨_, rfl⟩
  have kU : Blk U B [.int .i64 l, .int .i64 m, .int .i64 r] 31 := by rw [hU, ← hB]; exact Blk.new w4 _ _
  have sU : Seen V U := by rw [hU]; exact s4.alloc _
  have rV := kV.rules3 _ sU
  have rU := kU.rules3 _ (Seen.refl _)
  have HS := Lib.hid (SW.out.trans (sr.trans sU))
  rw [← hU, hB]
  clear hU hB kV kU sr sU s3 s4 rb SW
  cases p
  all_goals
    go_wp2_with fail
    go_ret
    exact ⟨rfl, HS.out⟩

/-! ### The row's step. -/
set_option maxRecDepth 100000 in
theorem lifted (os : Os) (started : os.Started) (H : Type) (enc : TypeId × Value → H) :
    ReturnsInHanded {} Try.checked os 3 .any (Rows.acrossSolvesSpec.pre6 enc Try.prog Try.f3 Rows.acrossSolvesRow.domain false) (Rows.acrossSolvesSpec.post enc Try.prog Try.f3 false true false false) := by
  refine returnsInHanded_of_change (C := Try.checked) own started (by kernel_rfl) Try.func3
    (ChangeSpec.witness6 (enc := enc) (C := Try.checked) false ⟨#[], #[.agg #[.int .i64 0, .bool false, .int .i64 0, .bool false, .int .i64 0, .bool false, .int .i64 0, .int .i64 0, .bool false, .int .i64 0, .int .i64 0]], []⟩ 8 (by kernel_rfl) (by kernel_rfl) (by kernel_rfl) (by kernel_rfl)) ?_
  intro W base args ds gs before hval0 hW hcnd _
  have hval : ∀ (j : Nat) t v, Try.f3.params[j]? = some t → args[j]? = some v → Value.okWide Try.prog W .any base t v := hval0
  have hW' := hW
  obtain ⟨p, q, hA0, hV, rfl, hfz, hnd⟩ := hW
  have hA : DataW.TrodAll enc Try.prog W 0 (fun _ => true) true Try.f3.params.toList args.toList ds p := hA0
  rw [Try.params3] at hA hval
  obtain ⟨v0, vs0, d0, ds0, p0, q0, hargs, rfl, rfl, h0, r0⟩ := trodAll_cons hA
  obtain ⟨rfl, rfl, rfl⟩ := trodAll_nil r0
  obtain rfl : args = #[v0] := by cases args; simp_all
  obtain ⟨rfl, rfl⟩ := trodVars_none hV
  have k0 := h0
  have lt0 : ∀ x ∈ p0, x.block < W.heap.size := by obtain ⟨m, hm⟩ := k0; exact DataW.trod_lt m _ _ _ hm
  obtain ⟨g0, rfl, o0⟩ := open_box (hval 0 25 v0 rfl rfl) h0
  clear hA0 hval0
  refine (walk g0 W o0).mono fun e W' ⟨he, bel⟩ => ?_
  subst he
  exact ⟨_, rfl, _, _, _, [], _, [], hW', trodAll_mk1 (shut_bool Try.underlying4 _), (trodAll_cons_mk (Below.trod laidOut (by kernel_rfl) (of_decide_eq_true (by kernel_rfl)) k0 bel lt0) trodAll_mk0), rfl, bel.frame _, fun h => by cases h⟩

theorem over : Rows.acrossSolvesRow.holds Try.pinned (OpenSpec.ofChange Rows.acrossSolvesSpec) :=
  OpenClaim.holds_of_wide 3 Try.f3 rfl rfl rfl rfl rfl rfl rfl ⟨rfl, rfl, rfl, rfl, rfl⟩ rfl rfl rfl rfl rfl (by kernel_rfl) Try.func3 (by kernel_rfl)
    (of_decide_eq_true (by kernel_rfl)) (by unfold Func.isWrapper; first | (rw [if_pos (by decide +kernel)]; kernel_rfl) | (rw [if_neg (by decide +kernel)]; exact ⟨rfl, rfl⟩))
    (fun os started H enc _ => lifted os started H enc)

/-- The statement. -/
theorem proved : Rows.AcrossSolvesSaid := over
#print axioms proved
end Go.Proofs.Ytimnhognjkgohaa.acrossSolves
