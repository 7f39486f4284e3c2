/- Proved: for every length, every int64 base and both values of has the law SizeOf returns true, and its arguments read afterwards as before; no conditions. -/
import Derived.Test.YtjgpajbibmfjlaaRows
import Derived.WalkKit
import Derived.Test.YtjgpajbibmfjlaaRefSize
import Derived.Test.YtjgpajbibmfjlaaArgs
import Derived.ProofKit
import Derived.OpenShut
import Derived.ShutString
import Derived.ChangeOld
import Derived.Below
namespace Go.Proofs.Ytjgpajbibmfjlaa.sizeOf
open Go.ChangeShapes Go.WideShapes Go.ChangeAt Go.RowKit
set_option linter.unusedVariables false

theorem own : ownKnob Try.prog.godebug = none := by kernel_rfl
theorem laidOut : laidOutB Try.prog = true := by kernel_rfl

set_option maxHeartbeats 2000000 in
theorem walk (q : Ln) (b : Int) (has : Bool) (w : World) (oq : okL q) (ob : okN b) (oh : True) :
    Calls Try.prog 3 #[.agg #[.int .i64 q.k, .int .i64 q.n], .int .i64 b, .bool has] w fun e w' => e = .returned (.bool true) ∧ Below w.heap.size w w' := by
  clear oq ob oh
  have eq26 := run_eql26
  obtain ⟨W, hW⟩ : ∃ W, W = w.alloc (.cells #[.int .i64 q.k, .int .i64 q.n] 23) := ⟨_, rfl⟩
  have b0 := Blk.rules2 (show Blk W w.heap.size [.int .i64 q.k, .int .i64 q.n] 23 by rw [hW]; exact Blk.new w _ _)
  have hWb : Seen w W := by rw [hW]; exact (Seen.refl w).alloc _
  have sr := Seen.refl W
  obtain ⟨s, hs⟩ : ∃ s, ofS q.k q.n b has = s := ⟨_, rfl⟩
  obtain ⟨c, hc⟩ : ∃ c, ofB q.k q.n b has = c := ⟨_, rfl⟩
  obtain ⟨x0, h0⟩ : ∃ x, (if c then orV s 0 else 0) = x := ⟨_, rfl⟩
  obtain ⟨x1, h1⟩ : ∃ x, (if c then orV s 1125899906842624 else 0) = x := ⟨_, rfl⟩
  obtain ⟨y0, k0⟩ : ∃ y, orV s 0 = y := ⟨_, rfl⟩
  obtain ⟨y1, k1⟩ : ∃ y, orV s 1125899906842624 = y := ⟨_, rfl⟩
  have p0 : ∀ w, Calls Try.prog 7 #[.agg #[.int .i64 q.k, .int .i64 q.n], .int .i64 b, .bool has] w fun e w' => e = .returned (.tuple #[.agg #[.bool s.au, .int .i64 s.n], .bool c]) ∧ Below w.heap.size w w' := fun w => by rw [← hs, ← hc]; exact of_any _ _ _ _ w
  have p1 : ∀ w, Calls Try.prog 8 #[.agg #[.int .i64 q.k, .int .i64 q.n], .int .i64 b, .bool has] w fun e w' => e = .returned (.tuple #[.agg #[.bool s.au, .int .i64 s.n], .bool c]) ∧ Below w.heap.size w w' := fun w => by rw [← hs, ← hc]; exact refOf_any _ _ _ _ w
  have p2 : ∀ w, Calls Try.prog 9 #[.agg #[.int .i64 q.k, .int .i64 q.n], .int .i64 b, .bool has] w fun e w' => e = .returned (.tuple #[.int .i64 x0, .bool c]) ∧ Below w.heap.size w w' := fun w => by rw [← h0, ← hs, ← hc]; exact least_any _ _ _ _ w
  have p3 : ∀ w, Calls Try.prog 10 #[.agg #[.int .i64 q.k, .int .i64 q.n], .int .i64 b, .bool has] w fun e w' => e = .returned (.tuple #[.int .i64 x1, .bool c]) ∧ Below w.heap.size w w' := fun w => by rw [← h1, ← hs, ← hc]; exact most_any _ _ _ _ w
  have p4 : ∀ w, Calls Try.prog 11 #[.agg #[.bool s.au, .int .i64 s.n], .int .i64 0] w fun e w' => e = .returned (.int .i64 y0) ∧ Below w.heap.size w w' := fun w => by rw [← k0]; exact refOr_any _ _ w
  have p5 : ∀ w, Calls Try.prog 11 #[.agg #[.bool s.au, .int .i64 s.n], .int .i64 1125899906842624] w fun e w' => e = .returned (.int .i64 y1) ∧ Below w.heap.size w w' := fun w => by rw [← k1]; exact refOr_any _ _ w
  rw [k0] at h0
  rw [k1] at h1
  clear hs hc k0 k1
  have hq := eqS_self s
  cases c
  · simp only [Bool.false_eq_true, if_false] at h0 h1
    subst h0 h1
    go_enter Try.func3, Try.ntmps3
    go_wp2_with (first
      | (go_at_call 6; rw [← hW]; clear hW; refine (awake_any _).mono ?_; rintro e wA ⟨rfl, hA⟩; have sA : Seen W wA := hA; clear hA)
      | (go_at_call 7; refine (p0 _).mono ?_; rintro e wB ⟨rfl, hB⟩; have sB : Seen W wB := sA.next hB; clear hB p0; have rB := fun o => b0 (wB.alloc o) (sB.alloc o)
         obtain ⟨WB, hWB⟩ : ∃ V, V = wB.alloc (.cells #[.bool s.au, .int .i64 s.n] 26) := ⟨_, rfl⟩
         have bB := Blk.rules2 (show Blk WB wB.heap.size [.bool s.au, .int .i64 s.n] 26 by rw [hWB]; exact Blk.new wB _ _)
         have tB : Seen W WB := by rw [hWB]; exact sB.alloc _)
      | (go_at_call 8; rw [← hWB]; clear hWB; refine (p1 _).mono ?_; rintro e wC ⟨rfl, hC⟩; have sC : Seen WB wC := hC; have uC : Seen W wC := tB.trans sC; clear hC p1; have rC := fun o => b0 (wC.alloc o) (uC.alloc o); clear rB
         obtain ⟨WC, hWC⟩ : ∃ V, V = wC.alloc (.cells #[.bool s.au, .int .i64 s.n] 29) := ⟨_, rfl⟩
         have bC := Blk.rules2 (show Blk WC wC.heap.size [.bool s.au, .int .i64 s.n] 29 by rw [hWC]; exact Blk.new wC _ _)
         have tC : Seen WB WC := by rw [hWC]; exact sC.alloc _
         have vC : Seen W WC := by rw [hWC]; exact uC.alloc _)
      | (go_at_call 9; rw [← hWC]; clear hWC rC; refine (p2 _).mono ?_; rintro e wD ⟨rfl, hD⟩; have sD : Seen WC wD := hD; have uD : Seen W wD := vC.trans sD; clear hD p2)
      | (go_at_call 10; refine (p3 _).mono ?_; rintro e wE ⟨rfl, hE⟩; have sE : Seen WC wE := sD.next hE; clear hE p3))
    refine wp_region_quiet (C := Seen WC) (by kernel_rfl) (by kernel_rfl) (Seen.drew sE) ?_
    simp only []
    repeat (first
      | go_big_quiet_skip
      | (go_big_quiet_want
         apply Exists.intro
         refine ⟨fun w1 h1 => ?_, ?_⟩
         focus
           go_simp
           first | done | rfl | (go_at_call 11; with_reducible exact quiet_call h1 (p4 _)) | (go_at_call 11; with_reducible exact quiet_call h1 (p5 _))
         (try simp only [Act.put, List.setIfInBounds_toArray, List.set_cons_zero, List.set_cons_succ])
         go_big_quiet_on))
    refine wpQuiet_nil ?_
    intro w2 h2
    have v2 : Seen WB w2 := tC.trans h2
    go_wp2
    go_ret
    exact ⟨by simp, (hWb.trans vC).trans h2⟩
  · simp only [if_true] at h0 h1
    subst h0 h1
    go_enter Try.func3, Try.ntmps3
    go_wp2_with (first
      | (go_at_call 6; rw [← hW]; clear hW; refine (awake_any _).mono ?_; rintro e wA ⟨rfl, hA⟩; have sA : Seen W wA := hA; clear hA)
      | (go_at_call 7; refine (p0 _).mono ?_; rintro e wB ⟨rfl, hB⟩; have sB : Seen W wB := sA.next hB; clear hB p0; have rB := fun o => b0 (wB.alloc o) (sB.alloc o)
         obtain ⟨WB, hWB⟩ : ∃ V, V = wB.alloc (.cells #[.bool s.au, .int .i64 s.n] 26) := ⟨_, rfl⟩
         have bB := Blk.rules2 (show Blk WB wB.heap.size [.bool s.au, .int .i64 s.n] 26 by rw [hWB]; exact Blk.new wB _ _)
         have tB : Seen W WB := by rw [hWB]; exact sB.alloc _)
      | (go_at_call 8; rw [← hWB]; clear hWB; refine (p1 _).mono ?_; rintro e wC ⟨rfl, hC⟩; have sC : Seen WB wC := hC; have uC : Seen W wC := tB.trans sC; clear hC p1; have rC := fun o => b0 (wC.alloc o) (uC.alloc o); clear rB
         obtain ⟨WC, hWC⟩ : ∃ V, V = wC.alloc (.cells #[.bool s.au, .int .i64 s.n] 29) := ⟨_, rfl⟩
         have bC := Blk.rules2 (show Blk WC wC.heap.size [.bool s.au, .int .i64 s.n] 29 by rw [hWC]; exact Blk.new wC _ _)
         have tC : Seen WB WC := by rw [hWC]; exact sC.alloc _
         have vC : Seen W WC := by rw [hWC]; exact uC.alloc _)
      | (go_at_call 9; rw [← hWC]; clear hWC rC; refine (p2 _).mono ?_; rintro e wD ⟨rfl, hD⟩; have sD : Seen WC wD := hD; have uD : Seen W wD := vC.trans sD; clear hD p2)
      | (go_at_call 10; refine (p3 _).mono ?_; rintro e wE ⟨rfl, hE⟩; have sE : Seen WC wE := sD.next hE; clear hE p3))
    refine wp_region_quiet (C := Seen WC) (by kernel_rfl) (by kernel_rfl) (Seen.drew sE) ?_
    simp only []
    repeat (first
      | go_big_quiet_skip
      | (go_big_quiet_want
         apply Exists.intro
         refine ⟨fun w1 h1 => ?_, ?_⟩
         focus
           go_simp
           first | done | rfl | (go_at_call 11; with_reducible exact quiet_call h1 (p4 _)) | (go_at_call 11; with_reducible exact quiet_call h1 (p5 _))
         (try simp only [Act.put, List.setIfInBounds_toArray, List.set_cons_zero, List.set_cons_succ])
         go_big_quiet_on))
    refine wpQuiet_nil ?_
    intro w2 h2
    have v2 : Seen WB w2 := tC.trans h2
    go_wp2
    go_ret
    exact ⟨by simp, (hWb.trans vC).trans h2⟩

/-! ### The row's step. -/
set_option maxRecDepth 100000 in
theorem lifted (os : Os) (started : os.Started) (H : Type) (enc : TypeId × Value → H) :
    ReturnsInHanded {} Try.checked os 3 .any (Rows.sizeOfSpec.pre6 enc Try.prog Try.f3 Rows.sizeOfRow.domain false) (Rows.sizeOfSpec.post enc Try.prog Try.f3 false true false false) := by
  refine returnsInHanded_of_change (C := Try.checked) own started (by kernel_rfl) Try.func3
    (ChangeSpec.witness6 (enc := enc) (C := Try.checked) false ⟨#[], #[.agg #[.int .i64 0, .int .i64 0], .int .i64 0, .bool false], []⟩ 8 (by kernel_rfl) (by kernel_rfl) (by kernel_rfl) (by kernel_rfl)) ?_
  intro W base args ds gs before hval0 hW hcnd _
  have hval : ∀ (j : Nat) t v, Try.f3.params[j]? = some t → args[j]? = some v → Value.okWide Try.prog W .any base t v := hval0
  have hW' := hW
  obtain ⟨p, q, hA0, hV, rfl, hfz, hnd⟩ := hW
  have hA : DataW.TrodAll enc Try.prog W 0 (fun _ => true) true Try.f3.params.toList args.toList ds p := hA0
  rw [Try.params3] at hA hval
  obtain ⟨v0, vs0, d0, ds0, p0, q0, hargs, rfl, rfl, h0, r0⟩ := trodAll_cons hA
  obtain ⟨v1, vs1, d1, ds1, p1, q1, rfl, rfl, rfl, h1, r1⟩ := trodAll_cons r0
  obtain ⟨v2, vs2, d2, ds2, p2, q2, rfl, rfl, rfl, h2, r2⟩ := trodAll_cons r1
  obtain ⟨rfl, rfl, rfl⟩ := trodAll_nil r2
  obtain rfl : args = #[v0, v1, v2] := by cases args; simp_all
  obtain ⟨rfl, rfl⟩ := trodVars_none hV
  have k0 := h0
  have lt0 : ∀ x ∈ p0, x.block < W.heap.size := by obtain ⟨m, hm⟩ := k0; exact DataW.trod_lt m _ _ _ hm
  obtain ⟨g0, rfl, o0⟩ := open_len (hval 0 23 v0 rfl rfl) h0
  have k1 := h1
  have lt1 : ∀ x ∈ p1, x.block < W.heap.size := by obtain ⟨m, hm⟩ := k1; exact DataW.trod_lt m _ _ _ hm
  obtain ⟨g1, rfl, o1⟩ := open_num (hval 1 2 v1 rfl rfl) h1
  have k2 := h2
  have lt2 : ∀ x ∈ p2, x.block < W.heap.size := by obtain ⟨m, hm⟩ := k2; exact DataW.trod_lt m _ _ _ hm
  obtain ⟨g2, rfl, o2⟩ := open_boo (hval 2 4 v2 rfl rfl) h2
  clear hA0 hval0
  refine (walk g0 g1 g2 W o0 o1 o2).mono fun e W' ⟨he, bel⟩ => ?_
  subst he
  exact ⟨_, rfl, _, _, _, [], _, [], hW', trodAll_mk1 (shut_bool Try.underlying4 _), (trodAll_cons_mk (Below.trod laidOut (by kernel_rfl) (of_decide_eq_true (by kernel_rfl)) k0 bel lt0) (trodAll_cons_mk (Below.trod laidOut (by kernel_rfl) (of_decide_eq_true (by kernel_rfl)) k1 bel lt1) (trodAll_cons_mk (Below.trod laidOut (by kernel_rfl) (of_decide_eq_true (by kernel_rfl)) k2 bel lt2) trodAll_mk0))), rfl, bel.frame _, fun h => by cases h⟩

theorem over : Rows.sizeOfRow.holds Try.pinned (OpenSpec.ofChange Rows.sizeOfSpec) :=
  OpenClaim.holds_of_wide 3 Try.f3 rfl rfl rfl rfl rfl rfl rfl ⟨rfl, rfl, rfl, rfl, rfl⟩ rfl rfl rfl rfl rfl (by kernel_rfl) Try.func3 (by kernel_rfl)
    (of_decide_eq_true (by kernel_rfl)) (by unfold Func.isWrapper; first | (rw [if_pos (by decide +kernel)]; kernel_rfl) | (rw [if_neg (by decide +kernel)]; exact ⟨rfl, rfl⟩))
    (fun os started H enc _ => lifted os started H enc)

/-- The statement. -/
theorem proved : Rows.SizeOfSaid := over
#print axioms proved
end Go.Proofs.Ytjgpajbibmfjlaa.sizeOf
