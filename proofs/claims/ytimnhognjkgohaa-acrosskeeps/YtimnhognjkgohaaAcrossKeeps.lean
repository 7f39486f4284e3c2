/- Proved: for every box what is not auto stays as it was said, but for one margin, by the direction, and a width beyond its bounds (the law AcrossKeeps returns true), and its argument reads afterwards as before; no conditions. -/
import Derived.Test.YtimnhognjkgohaaRows
import Derived.WalkKit
import Derived.Test.YtimnhognjkgohaaSolve
import Derived.Test.YtimnhognjkgohaaLaws
import Derived.Test.YtimnhognjkgohaaArgs
import Derived.ProofKit
import Derived.Deep.DeepCutAuto
import Derived.OpenShut
import Derived.ShutString
import Derived.ChangeOld
import Derived.Below
namespace Go.Proofs.Ytimnhognjkgohaa.acrossKeeps
open Go.ChangeShapes Go.WideShapes Go.ChangeAt Go.RowKit
set_option linter.unusedVariables false

theorem own : ownKnob Try.prog.godebug = none := by kernel_rfl
theorem laidOut : laidOutB Try.prog = true := by kernel_rfl

theorem two {a b : Bool} {P : Prop} [Decidable P] (h : a = true ∨ P ∨ b = true) : ((a || decide P) || b) = true := by
  rcases h with h | h | h
  · rw [h]; rfl
  · rw [decide_eq_true h]; cases a <;> rfl
  · rw [h]; simp
set_option maxHeartbeats 4000000 in
theorem walk (b : Bx) (w : World) (ob : okX b) :
    Calls Try.prog 5 #[bxv b] w fun e w' => e = .returned (.bool true) ∧ Below w.heap.size w w' := by
  clear ob
  have A1 := fun w => awake_any w
  have C := fun w => solve_any b w
  have M := fun (h : solB b = true) => And.intro (kept_lr b (lastS b)) (kept_w b)
  have MS := fun (h : solB b = true) => (sol_parts h).2.2
  obtain ⟨W, hW⟩ : ∃ W, W = w.alloc (.cells (bxl b).toArray 25) := ⟨_, rfl⟩
  have kb : Blk W w.heap.size (bxl b) 25 := by rw [hW]; exact Blk.new w _ _
  have SW : Hid (Seen w W) := by rw [hW]; exact (Seen.refl w).alloc _
  have rb := kb.rulesB
  have sr := Seen.refl W
  clear kb
  cases p : solB b with
  | false =>
    have C' := C
    rw [p] at C'
    obtain ⟨o, ho⟩ : ∃ x, solO b = x := ⟨_, rfl⟩
    rw [ho] at C'
    obtain ⟨l, m, r⟩ := o
    clear C M MS p ho
    go_enter Try.func5, Try.ntmps5
    go_upto_region 1 with fail
    rw [← hW]
    clear hW
    go_wp2_with (first
      | (go_at_call 6; refine (A1 _).mono ?_; clear A1; rintro e w1 ⟨rfl, hb⟩; replace sr := sr.trans hb; clear hb)
      | (go_at_call 7; refine (C' _).mono ?_; clear C'; rintro e w2 ⟨rfl, hb⟩; replace sr := sr.trans hb; clear hb))
    go_ret
    exact ⟨rfl, SW.out.trans (sr.alloc _)⟩
  | true =>
    have C' := C
    rw [p, MS p] at C'
    obtain ⟨⟨M1, M2⟩, M3⟩ := M p
    obtain ⟨o, ho⟩ : ∃ x, fillW b (lastS b) = x := ⟨_, rfl⟩
    rw [ho] at C' M1 M2 M3
    obtain ⟨l, m, r⟩ := o
    simp only at M1 M2 M3
    have H1 := Lib.hid M1
    have H2 := Lib.hid M2
    have H3 := Lib.hid M3
    clear C M MS p ho M1 M2 M3
    go_enter Try.func5, Try.ntmps5
    go_upto_region 1 with fail
    rw [← hW]
    clear hW
    go_upto_region 6 with (first
      | (go_at_call 6; refine (A1 _).mono ?_; clear A1; rintro e w1 ⟨rfl, hb⟩; replace sr := sr.trans hb; clear hb)
      | (go_at_call 7; refine (C' _).mono ?_; clear C'; rintro e w2 ⟨rfl, hb⟩; have sC := sr.trans hb; clear hb sr))
    obtain ⟨V, hV⟩ : ∃ V, V = w2.alloc (.cells #[.int .i64 l, .int .i64 m, .int .i64 r] 28) := ⟨_, rfl⟩
    obtain ⟨A, hA⟩ : ∃ A, w2.heap.size = A := ⟨_, rfl⟩
    have kV : Blk V A [.int .i64 l, .int .i64 m, .int .i64 r] 28 := by rw [hV, ← hA]; exact Blk.new w2 _ _
    have sr : Seen W V := by rw [hV]; exact sC.alloc _
    have rV := kV.rules3 _ (Seen.refl _)
    rw [← hV, hA]
    clear hV hA sC kV
    obtain ⟨base, ⟨la, ln⟩, ⟨wa, wn⟩, ⟨ra, rn⟩, ar, rtl, lo, hi⟩ := b
    simp only at rb H1 H2 H3
    go_cut [5] (fun v wx => (v = .bool (la || decide (l = ln)) ∧ wx = V) : Value → World → Prop)
    case first =>
      clear H1 H2 H3
      cases la with
      | true => go_wp2_with fail; go_meet; exact ⟨rfl, rfl⟩
      | false =>
        by_cases h : l = ln
        · go_wp2_with fail; go_meet; exact ⟨by rw [decide_eq_true h]; rfl, rfl⟩
        · go_wp2_with fail; go_meet; exact ⟨congrArg Value.bool (by simp [h]), rfl⟩
    obtain ⟨rfl, rfl⟩ := hcut
    go_upto_region 7 with fail
    go_cut [6] (fun v wx => (v = .bool (ra || decide (r = rn)) ∧ wx = wc) : Value → World → Prop)
    case first =>
      clear H1 H2 H3
      cases ra with
      | true => go_wp2_with fail; go_meet; exact ⟨rfl, rfl⟩
      | false =>
        by_cases h : r = rn
        · go_wp2_with fail; go_meet; exact ⟨by rw [decide_eq_true h]; rfl, rfl⟩
        · go_wp2_with fail; go_meet; exact ⟨congrArg Value.bool (by simp [h]), rfl⟩
    obtain ⟨rfl, rfl⟩ := hcut
    go_upto_region 8 with fail
    go_cut [7] (fun v wx => (v = .bool true ∧ wx = wc) : Value → World → Prop)
    case first =>
      have M3 := H3.out
      clear H1 H2 H3
      cases wa with
      | true => go_wp2_with fail; go_meet; exact ⟨rfl, rfl⟩
      | false =>
        by_cases h : m = wn
        · go_wp2_with fail; go_meet; exact ⟨rfl, rfl⟩
        · by_cases h2 : m = lo
          · clear M3; go_wp2_with fail; go_meet; exact ⟨rfl, rfl⟩
          · have h3 : m = hi := M3.elim (fun g => nomatch g) (fun g => g.elim (fun g => absurd g h) (fun g => g.elim (fun g => absurd g h2) id))
            clear M3
            go_wp2_with fail; go_meet; exact ⟨rfl, rfl⟩
    obtain ⟨rfl, rfl⟩ := hcut
    have E1 : Hid (((la || decide (l = ln)) || rtl) = true) := Lib.hid (two H1.out)
    have E2 : Hid (((ra || decide (r = rn)) || !rtl) = true) := Lib.hid (two (by have h := H2.out; revert h; cases rtl <;> simp))
    obtain ⟨X1, g1⟩ : ∃ x, (la || decide (l = ln)) = x := ⟨_, rfl⟩
    obtain ⟨X2, g2⟩ : ∃ x, (ra || decide (r = rn)) = x := ⟨_, rfl⟩
    rw [g1] at E1 ⊢
    rw [g2] at E2 ⊢
    clear g1 g2 H1 H2 H3
    go_upto_region 9 with fail
    cases X1 <;> cases X2 <;> cases rtl
    all_goals first
      | (exfalso; revert E1; unfold Hid; simp; done)
      | (exfalso; revert E2; unfold Hid; simp; done)
      | (go_wp2_with fail; go_ret; exact ⟨rfl, SW.out.trans sr⟩)

/-! ### The row's step. -/
set_option maxRecDepth 100000 in
theorem lifted (os : Os) (started : os.Started) (H : Type) (enc : TypeId × Value → H) :
    ReturnsInHanded {} Try.checked os 5 .any (Rows.acrossKeepsSpec.pre6 enc Try.prog Try.f5 Rows.acrossKeepsRow.domain false) (Rows.acrossKeepsSpec.post enc Try.prog Try.f5 false true false false) := by
  refine returnsInHanded_of_change (C := Try.checked) own started (by kernel_rfl) Try.func5
    (ChangeSpec.witness6 (enc := enc) (C := Try.checked) false ⟨#[], #[.agg #[.int .i64 0, .bool false, .int .i64 0, .bool false, .int .i64 0, .bool false, .int .i64 0, .int .i64 0, .bool false, .int .i64 0, .int .i64 0]], []⟩ 8 (by kernel_rfl) (by kernel_rfl) (by kernel_rfl) (by kernel_rfl)) ?_
  intro W base args ds gs before hval0 hW hcnd _
  have hval : ∀ (j : Nat) t v, Try.f5.params[j]? = some t → args[j]? = some v → Value.okWide Try.prog W .any base t v := hval0
  have hW' := hW
  obtain ⟨p, q, hA0, hV, rfl, hfz, hnd⟩ := hW
  have hA : DataW.TrodAll enc Try.prog W 0 (fun _ => true) true Try.f5.params.toList args.toList ds p := hA0
  rw [Try.params5] at hA hval
  obtain ⟨v0, vs0, d0, ds0, p0, q0, hargs, rfl, rfl, h0, r0⟩ := trodAll_cons hA
  obtain ⟨rfl, rfl, rfl⟩ := trodAll_nil r0
  obtain rfl : args = #[v0] := by cases args; simp_all
  obtain ⟨rfl, rfl⟩ := trodVars_none hV
  have k0 := h0
  have lt0 : ∀ x ∈ p0, x.block < W.heap.size := by obtain ⟨m, hm⟩ := k0; exact DataW.trod_lt m _ _ _ hm
  obtain ⟨g0, rfl, o0⟩ := open_box (hval 0 25 v0 rfl rfl) h0
  clear hA0 hval0
  refine (walk g0 W o0).mono fun e W' ⟨he, bel⟩ => ?_
  subst he
  exact ⟨_, rfl, _, _, _, [], _, [], hW', trodAll_mk1 (shut_bool Try.underlying4 _), (trodAll_cons_mk (Below.trod laidOut (by kernel_rfl) (of_decide_eq_true (by kernel_rfl)) k0 bel lt0) trodAll_mk0), rfl, bel.frame _, fun h => by cases h⟩

theorem over : Rows.acrossKeepsRow.holds Try.pinned (OpenSpec.ofChange Rows.acrossKeepsSpec) :=
  OpenClaim.holds_of_wide 5 Try.f5 rfl rfl rfl rfl rfl rfl rfl ⟨rfl, rfl, rfl, rfl, rfl⟩ rfl rfl rfl rfl rfl (by kernel_rfl) Try.func5 (by kernel_rfl)
    (of_decide_eq_true (by kernel_rfl)) (by unfold Func.isWrapper; first | (rw [if_pos (by decide +kernel)]; kernel_rfl) | (rw [if_neg (by decide +kernel)]; exact ⟨rfl, rfl⟩))
    (fun os started H enc _ => lifted os started H enc)

/-- The statement. -/
theorem proved : Rows.AcrossKeepsSaid := over
#print axioms proved
end Go.Proofs.Ytimnhognjkgohaa.acrossKeeps
