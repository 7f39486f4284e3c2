/- Proved: for any three struts the law StrutLaws returns true, and its arguments read afterwards as before; no conditions. -/
import Derived.Test.YtmmekemklcogmaaRows
import Derived.WalkKit
import Derived.Test.YtmmekemklcogmaaArgs
import Derived.ProofKit
import Derived.OpenShut
import Derived.ShutString
import Derived.ChangeOld
import Derived.Below
namespace Go.Proofs.Ytmmekemklcogmaa.strutLaws
open Go.ChangeShapes Go.WideShapes Go.ChangeAt Go.RowKit
set_option linter.unusedVariables false

theorem own : ownKnob Try.prog.godebug = none := by kernel_rfl
theorem laidOut : laidOutB Try.prog = true := by kernel_rfl

theorem join_self (a : St) : joinS a a = a := by
  unfold joinS
  rw [show max a.p a.p = a.p by omega, show min a.n a.n = a.n by omega]
theorem join_comm (a b : St) : joinS b a = joinS a b := by
  unfold joinS
  rw [show max b.p a.p = max a.p b.p by omega, show min b.n a.n = min a.n b.n by omega]
theorem join_assoc (a b c : St) : joinS (joinS a b) c = joinS a (joinS b c) := by
  unfold joinS
  simp only []
  rw [show max (max a.p b.p) c.p = max a.p (max b.p c.p) by omega, show min (min a.n b.n) c.n = min a.n (min b.n c.n) by omega]
set_option maxHeartbeats 2000000 in
theorem walk (a b c : St) (w : World) (oa : okS a) (ob : okS b) (oc : okS c) :
    Calls Try.prog 5 #[.agg #[.int .i64 a.p, .int .i64 a.n], .agg #[.int .i64 b.p, .int .i64 b.n], .agg #[.int .i64 c.p, .int .i64 c.n]] w fun e w' => e = .returned (.bool true) ∧ Below w.heap.size w w' := by
  clear oa ob oc
  have eql := run_eql25
  obtain ⟨W, hW⟩ : ∃ W, W = ((w.alloc (.cells #[.int .i64 a.p, .int .i64 a.n] 25)).alloc (.cells #[.int .i64 b.p, .int .i64 b.n] 25)).alloc (.cells #[.int .i64 c.p, .int .i64 c.n] 25) := ⟨_, rfl⟩
  have b0 := Blk.rules2 (show Blk W w.heap.size [.int .i64 a.p, .int .i64 a.n] 25 by rw [hW]; exact ((Blk.new w _ _).alloc _).alloc _)
  have b1 := Blk.rules2 (show Blk W (w.heap.size + 1) [.int .i64 b.p, .int .i64 b.n] 25 by rw [hW]; simpa using (Blk.new (w.alloc (.cells #[.int .i64 a.p, .int .i64 a.n] 25)) [.int .i64 b.p, .int .i64 b.n] 25).alloc (.cells #[.int .i64 c.p, .int .i64 c.n] 25))
  have b2 := Blk.rules2 (show Blk W (w.heap.size + 2) [.int .i64 c.p, .int .i64 c.n] 25 by rw [hW]; simpa using Blk.new ((w.alloc (.cells #[.int .i64 a.p, .int .i64 a.n] 25)).alloc (.cells #[.int .i64 b.p, .int .i64 b.n] 25)) [.int .i64 c.p, .int .i64 c.n] 25)
  have hWb : Seen w W := by rw [hW]; exact (((Seen.refl w).alloc _).alloc _).alloc _
  have sr := Seen.refl W
  have j0 := join_any a a
  have j1 := join_any a b
  have j2 := join_any b a
  have j3 := join_any b c
  have j4 := join_any a (joinS b c)
  have j5 := join_any (joinS a b) c
  rw [join_self] at j0
  rw [join_comm] at j2
  rw [join_assoc] at j5
  generalize joinS a b = s1 at j1 j2 j5
  generalize joinS a (joinS b c) = s2 at j4 j5
  generalize joinS b c = s3 at j3 j4
  have q0 := eqS_self a
  have q1 := eqS_self s1
  have q2 := eqS_self s2
  go_enter Try.func5, Try.ntmps5
  go_wp2_with fail
  rw [← hW]
  clear hW
  refine wp_region_quiet (C := Seen W) (by kernel_rfl) (by kernel_rfl) (Seen.drew sr) ?_
  simp only []
  repeat (first
    | go_big_quiet_skip
    | (go_big_quiet_want
       apply Exists.intro
       refine ⟨fun w1 h1 => ?_, ?_⟩
       focus
         go_simp
         first | done | rfl | (go_at_call 6; with_reducible exact quiet_call h1 (awake_any _)) | (go_at_call 7; with_reducible exact quiet_call h1 (j0 _)) | (go_at_call 7; with_reducible exact quiet_call h1 (j1 _)) | (go_at_call 7; with_reducible exact quiet_call h1 (j2 _)) | (go_at_call 7; with_reducible exact quiet_call h1 (j3 _)) | (go_at_call 7; with_reducible exact quiet_call h1 (j4 _)) | (go_at_call 7; with_reducible exact quiet_call h1 (j5 _))
       (try simp only [Act.put, List.setIfInBounds_toArray, List.set_cons_zero, List.set_cons_succ])
       go_big_quiet_on))
  refine wpQuiet_nil ?_
  intro w2 h2
  go_wp2
  go_ret
  exact ⟨rfl, hWb.trans h2⟩

/-! ### The row's step. -/
set_option maxRecDepth 100000 in
theorem lifted (os : Os) (started : os.Started) (H : Type) (enc : TypeId × Value → H) :
    ReturnsInHanded {} Try.checked os 5 .any (Rows.strutLawsSpec.pre6 enc Try.prog Try.f5 Rows.strutLawsRow.domain false) (Rows.strutLawsSpec.post enc Try.prog Try.f5 false true false false) := by
  refine returnsInHanded_of_change (C := Try.checked) own started (by kernel_rfl) Try.func5
    (ChangeSpec.witness6 (enc := enc) (C := Try.checked) false ⟨#[], #[.agg #[.int .i64 0, .int .i64 0], .agg #[.int .i64 0, .int .i64 0], .agg #[.int .i64 0, .int .i64 0]], []⟩ 8 (by kernel_rfl) (by kernel_rfl) (by kernel_rfl) (by kernel_rfl)) ?_
  intro W base args ds gs before hval0 hW hcnd _
  have hval : ∀ (j : Nat) t v, Try.f5.params[j]? = some t → args[j]? = some v → Value.okWide Try.prog W .any base t v := hval0
  have hW' := hW
  obtain ⟨p, q, hA0, hV, rfl, hfz, hnd⟩ := hW
  have hA : DataW.TrodAll enc Try.prog W 0 (fun _ => true) true Try.f5.params.toList args.toList ds p := hA0
  rw [Try.params5] at hA hval
  obtain ⟨v0, vs0, d0, ds0, p0, q0, hargs, rfl, rfl, h0, r0⟩ := trodAll_cons hA
  obtain ⟨v1, vs1, d1, ds1, p1, q1, rfl, rfl, rfl, h1, r1⟩ := trodAll_cons r0
  obtain ⟨v2, vs2, d2, ds2, p2, q2, rfl, rfl, rfl, h2, r2⟩ := trodAll_cons r1
  obtain ⟨rfl, rfl, rfl⟩ := trodAll_nil r2
  obtain rfl : args = #[v0, v1, v2] := by cases args; simp_all
  obtain ⟨rfl, rfl⟩ := trodVars_none hV
  have k0 := h0
  have lt0 : ∀ x ∈ p0, x.block < W.heap.size := by obtain ⟨m, hm⟩ := k0; exact DataW.trod_lt m _ _ _ hm
  obtain ⟨g0, rfl, o0⟩ := open_strut (hval 0 25 v0 rfl rfl) h0
  have k1 := h1
  have lt1 : ∀ x ∈ p1, x.block < W.heap.size := by obtain ⟨m, hm⟩ := k1; exact DataW.trod_lt m _ _ _ hm
  obtain ⟨g1, rfl, o1⟩ := open_strut (hval 1 25 v1 rfl rfl) h1
  have k2 := h2
  have lt2 : ∀ x ∈ p2, x.block < W.heap.size := by obtain ⟨m, hm⟩ := k2; exact DataW.trod_lt m _ _ _ hm
  obtain ⟨g2, rfl, o2⟩ := open_strut (hval 2 25 v2 rfl rfl) h2
  clear hA0 hval0
  refine (walk g0 g1 g2 W o0 o1 o2).mono fun e W' ⟨he, bel⟩ => ?_
  subst he
  exact ⟨_, rfl, _, _, _, [], _, [], hW', trodAll_mk1 (shut_bool Try.underlying4 _), (trodAll_cons_mk (Below.trod laidOut (by kernel_rfl) (of_decide_eq_true (by kernel_rfl)) k0 bel lt0) (trodAll_cons_mk (Below.trod laidOut (by kernel_rfl) (of_decide_eq_true (by kernel_rfl)) k1 bel lt1) (trodAll_cons_mk (Below.trod laidOut (by kernel_rfl) (of_decide_eq_true (by kernel_rfl)) k2 bel lt2) trodAll_mk0))), rfl, bel.frame _, fun h => by cases h⟩

theorem over : Rows.strutLawsRow.holds Try.pinned (OpenSpec.ofChange Rows.strutLawsSpec) :=
  OpenClaim.holds_of_wide 5 Try.f5 rfl rfl rfl rfl rfl rfl rfl ⟨rfl, rfl, rfl, rfl, rfl⟩ rfl rfl rfl rfl rfl (by kernel_rfl) Try.func5 (by kernel_rfl)
    (of_decide_eq_true (by kernel_rfl)) (by unfold Func.isWrapper; first | (rw [if_pos (by decide +kernel)]; kernel_rfl) | (rw [if_neg (by decide +kernel)]; exact ⟨rfl, rfl⟩))
    (fun os started H enc _ => lifted os started H enc)

/-- The statement. -/
theorem proved : Rows.StrutLawsSaid := over
#print axioms proved
end Go.Proofs.Ytmmekemklcogmaa.strutLaws
