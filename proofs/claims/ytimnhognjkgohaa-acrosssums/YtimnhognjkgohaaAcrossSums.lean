/- Proved: for every box whose least width is at most its most the margins, what is around and the width sum to the width of the container, and the width is between its bounds (the law AcrossSums returns true), and its argument reads afterwards as before; no conditions. -/
import Derived.Test.YtimnhognjkgohaaRows
import Derived.WalkKit
import Derived.Test.YtimnhognjkgohaaSolve
import Derived.Test.YtimnhognjkgohaaLaws
import Derived.Test.YtimnhognjkgohaaArgs
import Derived.ProofKit
import Derived.OpenShut
import Derived.ShutString
import Derived.ChangeOld
import Derived.Below
namespace Go.Proofs.Ytimnhognjkgohaa.acrossSums
open Go.ChangeShapes Go.WideShapes Go.ChangeAt Go.RowKit
set_option linter.unusedVariables false

theorem own : ownKnob Try.prog.godebug = none := by kernel_rfl
theorem laidOut : laidOutB Try.prog = true := by kernel_rfl

set_option maxHeartbeats 4000000 in
theorem walk (b : Bx) (w : World) (ob : okX b) :
    Calls Try.prog 4 #[bxv b] w fun e w' => e = .returned (.bool true) ∧ Below w.heap.size w w' := by
  clear ob
  have A1 := fun w => awake_any w
  have A2 := fun w => awake_any w
  have C := fun w => solve_any b w
  obtain ⟨W, hW⟩ : ∃ W, W = w.alloc (.cells (bxl b).toArray 25) := ⟨_, rfl⟩
  have kb : Blk W w.heap.size (bxl b) 25 := by rw [hW]; exact Blk.new w _ _
  have SW : Hid (Seen w W) := by rw [hW]; exact (Seen.refl w).alloc _
  have rb := kb.rulesB
  have sr := Seen.refl W
  clear kb
  by_cases hl : b.lo > b.hi
  · clear C
    go_enter Try.func4, Try.ntmps4
    go_upto_region 1 with fail
    rw [← hW]
    clear hW
    go_wp2_with (first
      | (go_at_call 6; refine (A1 _).mono ?_; clear A1; rintro e w1 ⟨rfl, hb⟩; replace sr := sr.trans hb; clear hb)
      | (go_at_call 6; refine (A2 _).mono ?_; clear A2; rintro e w2 ⟨rfl, hb⟩; replace sr := sr.trans hb; clear hb))
    go_ret
    exact ⟨rfl, SW.out.trans sr⟩
  · have hl' : ¬ b.hi < b.lo := by omega
    have M := fun h => sums_math (b := b) h (by omega)
    obtain ⟨o, ho⟩ : ∃ x, solO b = x := ⟨_, rfl⟩
    obtain ⟨p, hp⟩ : ∃ x, solB b = x := ⟨_, rfl⟩
    rw [ho, hp] at C M
    obtain ⟨l, m, r⟩ := o
    clear A2 ho hp
    cases p with
    | false =>
      clear M
      go_enter Try.func4, Try.ntmps4
      go_upto_region 1 with fail
      rw [← hW]
      clear hW
      go_wp2_with (first
        | (go_at_call 6; refine (A1 _).mono ?_; clear A1; rintro e w1 ⟨rfl, hb⟩; replace sr := sr.trans hb; clear hb)
        | (go_at_call 7; refine (C _).mono ?_; clear C; rintro e w2 ⟨rfl, hb⟩; replace sr := sr.trans hb; clear hb))
      go_ret
      exact ⟨rfl, SW.out.trans (sr.alloc _)⟩
    | true =>
      obtain ⟨⟨e1, e2, e3⟩, ⟨b1, b2⟩, ⟨b3, b4⟩, ⟨b5, b6⟩, ⟨b7, b8⟩⟩ := M rfl
      simp only at e1 e2 e3 b1 b2 b3 b4
      obtain ⟨y1, q1⟩ : ∃ x, l + b.ar = x := ⟨_, rfl⟩
      obtain ⟨y2, q2⟩ : ∃ x, y1 + m = x := ⟨_, rfl⟩
      have x1 : wrap64 (l + b.ar) = y1 := (w64 (by omega) (by omega)).trans q1
      have x2 : wrap64 (y1 + m) = y2 := (w64 (by omega) (by omega)).trans q2
      have x3 : wrap64 (y2 + r) = b.base := (w64 (by omega) (by omega)).trans (by omega)
      clear q1 q2 e1 b1 b2 b3 b4 b5 b6 b7 b8 M
      go_enter Try.func4, Try.ntmps4
      go_upto_region 1 with fail
      rw [← hW]
      clear hW
      go_upto_region 4 with (first
        | (go_at_call 6; refine (A1 _).mono ?_; clear A1; rintro e w1 ⟨rfl, hb⟩; replace sr := sr.trans hb; clear hb)
        | (go_at_call 7; refine (C _).mono ?_; clear C; rintro e w2 ⟨rfl, hb⟩; have sC := sr.trans hb; clear hb sr))
      obtain ⟨V, hV⟩ : ∃ V, V = w2.alloc (.cells #[.int .i64 l, .int .i64 m, .int .i64 r] 28) := ⟨_, rfl⟩
      have kV : Blk V w2.heap.size [.int .i64 l, .int .i64 m, .int .i64 r] 28 := by rw [hV]; exact Blk.new w2 _ _
      have sr : Seen W V := by rw [hV]; exact sC.alloc _
      have rV := kV.rules3 _ (Seen.refl _)
      rw [← hV]
      clear hV sC kV
      go_wp2_with fail
      go_ret
      exact ⟨rfl, SW.out.trans sr⟩

/-! ### The row's step. -/
set_option maxRecDepth 100000 in
theorem lifted (os : Os) (started : os.Started) (H : Type) (enc : TypeId × Value → H) :
    ReturnsInHanded {} Try.checked os 4 .any (Rows.acrossSumsSpec.pre6 enc Try.prog Try.f4 Rows.acrossSumsRow.domain false) (Rows.acrossSumsSpec.post enc Try.prog Try.f4 false true false false) := by
  refine returnsInHanded_of_change (C := Try.checked) own started (by kernel_rfl) Try.func4
    (ChangeSpec.witness6 (enc := enc) (C := Try.checked) false ⟨#[], #[.agg #[.int .i64 0, .bool false, .int .i64 0, .bool false, .int .i64 0, .bool false, .int .i64 0, .int .i64 0, .bool false, .int .i64 0, .int .i64 0]], []⟩ 8 (by kernel_rfl) (by kernel_rfl) (by kernel_rfl) (by kernel_rfl)) ?_
  intro W base args ds gs before hval0 hW hcnd _
  have hval : ∀ (j : Nat) t v, Try.f4.params[j]? = some t → args[j]? = some v → Value.okWide Try.prog W .any base t v := hval0
  have hW' := hW
  obtain ⟨p, q, hA0, hV, rfl, hfz, hnd⟩ := hW
  have hA : DataW.TrodAll enc Try.prog W 0 (fun _ => true) true Try.f4.params.toList args.toList ds p := hA0
  rw [Try.params4] at hA hval
  obtain ⟨v0, vs0, d0, ds0, p0, q0, hargs, rfl, rfl, h0, r0⟩ := trodAll_cons hA
  obtain ⟨rfl, rfl, rfl⟩ := trodAll_nil r0
  obtain rfl : args = #[v0] := by cases args; simp_all
  obtain ⟨rfl, rfl⟩ := trodVars_none hV
  have k0 := h0
  have lt0 : ∀ x ∈ p0, x.block < W.heap.size := by obtain ⟨m, hm⟩ := k0; exact DataW.trod_lt m _ _ _ hm
  obtain ⟨g0, rfl, o0⟩ := open_box (hval 0 25 v0 rfl rfl) h0
  clear hA0 hval0
  refine (walk g0 W o0).mono fun e W' ⟨he, bel⟩ => ?_
  subst he
  exact ⟨_, rfl, _, _, _, [], _, [], hW', trodAll_mk1 (shut_bool Try.underlying4 _), (trodAll_cons_mk (Below.trod laidOut (by kernel_rfl) (of_decide_eq_true (by kernel_rfl)) k0 bel lt0) trodAll_mk0), rfl, bel.frame _, fun h => by cases h⟩

theorem over : Rows.acrossSumsRow.holds Try.pinned (OpenSpec.ofChange Rows.acrossSumsSpec) :=
  OpenClaim.holds_of_wide 4 Try.f4 rfl rfl rfl rfl rfl rfl rfl ⟨rfl, rfl, rfl, rfl, rfl⟩ rfl rfl rfl rfl rfl (by kernel_rfl) Try.func4 (by kernel_rfl)
    (of_decide_eq_true (by kernel_rfl)) (by unfold Func.isWrapper; first | (rw [if_pos (by decide +kernel)]; kernel_rfl) | (rw [if_neg (by decide +kernel)]; exact ⟨rfl, rfl⟩))
    (fun os started H enc _ => lifted os started H enc)

/-- The statement. -/
theorem proved : Rows.AcrossSumsSaid := over
#print axioms proved
end Go.Proofs.Ytimnhognjkgohaa.acrossSums
