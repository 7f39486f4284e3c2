/- Proved: for any two struts the law StrutValues returns true, and its arguments read afterwards as before; no conditions. -/
import Derived.Test.YtmmekemklcogmaaRows
import Derived.WalkKit
import Derived.Test.YtmmekemklcogmaaArgs
import Derived.ProofKit
import Derived.OpenShut
import Derived.ShutString
import Derived.ChangeOld
import Derived.Below
namespace Go.Proofs.Ytmmekemklcogmaa.strutValues
open Go.ChangeShapes Go.WideShapes Go.ChangeAt Go.RowKit
set_option linter.unusedVariables false

theorem own : ownKnob Try.prog.godebug = none := by kernel_rfl
theorem laidOut : laidOutB Try.prog = true := by kernel_rfl

set_option maxHeartbeats 2000000 in
theorem walk (a b : St) (w : World) (oa : okS a) (ob : okS b) :
    Calls Try.prog 4 #[.agg #[.int .i64 a.p, .int .i64 a.n], .agg #[.int .i64 b.p, .int .i64 b.n]] w fun e w' => e = .returned (.bool true) ∧ Below w.heap.size w w' := by
  clear oa ob
  have eql := run_eql25
  obtain ⟨W, hW⟩ : ∃ W, W = (w.alloc (.cells #[.int .i64 a.p, .int .i64 a.n] 25)).alloc (.cells #[.int .i64 b.p, .int .i64 b.n] 25) := ⟨_, rfl⟩
  have b0 := Blk.rules2 (show Blk W w.heap.size [.int .i64 a.p, .int .i64 a.n] 25 by rw [hW]; exact (Blk.new w _ _).alloc _)
  have b1 := Blk.rules2 (show Blk W (w.heap.size + 1) [.int .i64 b.p, .int .i64 b.n] 25 by rw [hW]; simpa using Blk.new (w.alloc (.cells #[.int .i64 a.p, .int .i64 a.n] 25)) [.int .i64 b.p, .int .i64 b.n] 25)
  have hWb : Seen w W := by rw [hW]; exact ((Seen.refl w).alloc _).alloc _
  have sr := Seen.refl W
  have v0 := value_any a
  have v1 := refValue_any a
  have j0 := join_any a b
  have j1 := refJoin_any a b
  generalize valN a = vn at v0 v1
  generalize valB a = vb at v0 v1
  generalize joinS a b = s at j0 j1
  have q0 := eqS_self s
  go_enter Try.func4, Try.ntmps4
  go_wp2_with (first
    | (go_at_call 6; rw [← hW]; clear hW; refine (awake_any _).mono ?_; rintro e wA ⟨rfl, hA⟩; have sA : Seen W wA := hA; clear hA sr)
    | (go_at_call 10; refine (v0 _).mono ?_; clear v0; rintro e wB ⟨rfl, hB⟩; have sB : Seen W wB := sA.next hB; clear hB sA)
    | (go_at_call 11; refine (v1 _).mono ?_; clear v1; rintro e wC ⟨rfl, hC⟩; have sC : Seen W wC := sB.next hC; clear hC sB))
  refine wp_region_quiet (C := Seen W) (by kernel_rfl) (by kernel_rfl) (Seen.drew sC) ?_
  simp only []
  repeat (first
    | go_big_quiet_skip
    | (go_big_quiet_want
       apply Exists.intro
       refine ⟨fun w1 h1 => ?_, ?_⟩
       focus
         go_simp
         first | done | rfl | (go_at_call 7; with_reducible exact quiet_call h1 (j0 _)) | (go_at_call 12; with_reducible exact quiet_call h1 (j1 _))
       (try simp only [Act.put, List.setIfInBounds_toArray, List.set_cons_zero, List.set_cons_succ])
       go_big_quiet_on))
  refine wpQuiet_nil ?_
  intro w2 h2
  go_wp2
  go_ret
  exact ⟨rfl, hWb.trans h2⟩

/-! ### The row's step. -/
set_option maxRecDepth 100000 in
theorem lifted (os : Os) (started : os.Started) (H : Type) (enc : TypeId × Value → H) :
    ReturnsInHanded {} Try.checked os 4 .any (Rows.strutValuesSpec.pre6 enc Try.prog Try.f4 Rows.strutValuesRow.domain false) (Rows.strutValuesSpec.post enc Try.prog Try.f4 false true false false) := by
  refine returnsInHanded_of_change (C := Try.checked) own started (by kernel_rfl) Try.func4
    (ChangeSpec.witness6 (enc := enc) (C := Try.checked) false ⟨#[], #[.agg #[.int .i64 0, .int .i64 0], .agg #[.int .i64 0, .int .i64 0]], []⟩ 8 (by kernel_rfl) (by kernel_rfl) (by kernel_rfl) (by kernel_rfl)) ?_
  intro W base args ds gs before hval0 hW hcnd _
  have hval : ∀ (j : Nat) t v, Try.f4.params[j]? = some t → args[j]? = some v → Value.okWide Try.prog W .any base t v := hval0
  have hW' := hW
  obtain ⟨p, q, hA0, hV, rfl, hfz, hnd⟩ := hW
  have hA : DataW.TrodAll enc Try.prog W 0 (fun _ => true) true Try.f4.params.toList args.toList ds p := hA0
  rw [Try.params4] at hA hval
  obtain ⟨v0, vs0, d0, ds0, p0, q0, hargs, rfl, rfl, h0, r0⟩ := trodAll_cons hA
  obtain ⟨v1, vs1, d1, ds1, p1, q1, rfl, rfl, rfl, h1, r1⟩ := trodAll_cons r0
  obtain ⟨rfl, rfl, rfl⟩ := trodAll_nil r1
  obtain rfl : args = #[v0, v1] := by cases args; simp_all
  obtain ⟨rfl, rfl⟩ := trodVars_none hV
  have k0 := h0
  have lt0 : ∀ x ∈ p0, x.block < W.heap.size := by obtain ⟨m, hm⟩ := k0; exact DataW.trod_lt m _ _ _ hm
  obtain ⟨g0, rfl, o0⟩ := open_strut (hval 0 25 v0 rfl rfl) h0
  have k1 := h1
  have lt1 : ∀ x ∈ p1, x.block < W.heap.size := by obtain ⟨m, hm⟩ := k1; exact DataW.trod_lt m _ _ _ hm
  obtain ⟨g1, rfl, o1⟩ := open_strut (hval 1 25 v1 rfl rfl) h1
  clear hA0 hval0
  refine (walk g0 g1 W o0 o1).mono fun e W' ⟨he, bel⟩ => ?_
  subst he
  exact ⟨_, rfl, _, _, _, [], _, [], hW', trodAll_mk1 (shut_bool Try.underlying4 _), (trodAll_cons_mk (Below.trod laidOut (by kernel_rfl) (of_decide_eq_true (by kernel_rfl)) k0 bel lt0) (trodAll_cons_mk (Below.trod laidOut (by kernel_rfl) (of_decide_eq_true (by kernel_rfl)) k1 bel lt1) trodAll_mk0)), rfl, bel.frame _, fun h => by cases h⟩

theorem over : Rows.strutValuesRow.holds Try.pinned (OpenSpec.ofChange Rows.strutValuesSpec) :=
  OpenClaim.holds_of_wide 4 Try.f4 rfl rfl rfl rfl rfl rfl rfl ⟨rfl, rfl, rfl, rfl, rfl⟩ rfl rfl rfl rfl rfl (by kernel_rfl) Try.func4 (by kernel_rfl)
    (of_decide_eq_true (by kernel_rfl)) (by unfold Func.isWrapper; first | (rw [if_pos (by decide +kernel)]; kernel_rfl) | (rw [if_neg (by decide +kernel)]; exact ⟨rfl, rfl⟩))
    (fun os started H enc _ => lifted os started H enc)

/-- The statement. -/
theorem proved : Rows.StrutValuesSaid := over
#print axioms proved
end Go.Proofs.Ytmmekemklcogmaa.strutValues
