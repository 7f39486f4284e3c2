/- Proved: for all entries a, b and c the law AgendaOrders returns true, and its arguments read afterwards as before; no conditions. -/
import Derived.Test.YtacdgfihabjfkaaRows
import Derived.WalkKit
import Derived.Test.YtacdgfihabjfkaaAwake
import Derived.Test.YtacdgfihabjfkaaArgs
import Derived.ProofKit
import Derived.OpenShut
import Derived.ShutString
import Derived.ChangeOld
import Derived.Below
namespace Go.Proofs.Ytacdgfihabjfkaa.agendaOrders
open Go.ChangeShapes Go.WideShapes Go.ChangeAt Go.RowKit
set_option linter.unusedVariables false

theorem own : ownKnob Try.prog.godebug = none := by kernel_rfl
theorem laidOut : laidOutB Try.prog = true := by kernel_rfl


theorem cmp_swap (a b : E3) : cmpE b a = - cmpE a b := by
  unfold cmpE orI
  rcases cI_cases a.k b.k with ⟨h1, e1⟩ | ⟨h1, e1⟩ | ⟨h1, e1⟩ <;> rcases cI_cases b.k a.k with ⟨g1, f1⟩ | ⟨g1, f1⟩ | ⟨g1, f1⟩ <;> (try omega) <;> rcases cI_cases a.t b.t with ⟨h2, e2⟩ | ⟨h2, e2⟩ | ⟨h2, e2⟩ <;> rcases cI_cases b.t a.t with ⟨g2, f2⟩ | ⟨g2, f2⟩ | ⟨g2, f2⟩ <;> (try omega) <;> rcases cI_cases a.n b.n with ⟨h3, e3⟩ | ⟨h3, e3⟩ | ⟨h3, e3⟩ <;> rcases cI_cases b.n a.n with ⟨g3, f3⟩ | ⟨g3, f3⟩ | ⟨g3, f3⟩ <;> (try omega) <;> simp only [e1, e2, e3, f1, f2, f3] <;> simp
theorem cmp_le (a b : E3) : cmpE a b ≤ 0 ↔ leE a b := by
  have h := cmpE_pos a b
  unfold leE
  rw [← Bool.not_eq_true, ← h]; omega
theorem cmp_eq (a b : E3) : (cmpE a b = 0) ↔ eq3 a.k a.t a.n b.k b.t b.n = true := by
  unfold eq3 cmpE orI
  rw [decide_eq_true_eq]
  rcases cI_cases a.k b.k with ⟨h1, e1⟩ | ⟨h1, e1⟩ | ⟨h1, e1⟩ <;> rcases cI_cases a.t b.t with ⟨h2, e2⟩ | ⟨h2, e2⟩ | ⟨h2, e2⟩ <;> rcases cI_cases a.n b.n with ⟨h3, e3⟩ | ⟨h3, e3⟩ | ⟨h3, e3⟩ <;> simp only [e1, e2, e3] <;> simp <;> omega
/-- What the three comparisons are to each other. -/
theorem facts (a b c : E3) : ∃ x y z : Int, cmpE a b = x ∧ cmpE b c = y ∧ cmpE a c = z ∧ cmpE b a = -x ∧ (x ≤ 0 → y ≤ 0 → z ≤ 0) ∧
    ((x = -1 ∧ ltE a b = true ∧ eq3 a.k a.t a.n b.k b.t b.n = false) ∨ (x = 0 ∧ ltE a b = false ∧ eq3 a.k a.t a.n b.k b.t b.n = true) ∨ (x = 1 ∧ ltE a b = false ∧ eq3 a.k a.t a.n b.k b.t b.n = false)) := by
  refine ⟨_, _, _, rfl, rfl, rfl, cmp_swap a b, fun h1 h2 => (cmp_le a c).2 (leE_trans ((cmp_le a b).1 h1) ((cmp_le b c).1 h2)), ?_⟩
  have hn := cmpE_neg a b
  have he := cmp_eq a b
  rcases cmpE_range a b with h | h | h
  · refine .inl ⟨h, hn.1 (by omega), ?_⟩
    rw [← Bool.not_eq_true, ← he]; omega
  · refine .inr (.inl ⟨h, ?_, he.1 h⟩)
    rw [← Bool.not_eq_true, ← hn]; omega
  · refine .inr (.inr ⟨h, ?_, ?_⟩)
    · rw [← Bool.not_eq_true, ← hn]; omega
    · rw [← Bool.not_eq_true, ← he]; omega
def Bx (w : World) (b : Nat) (r : E3) : Prop := At3 w b 0 r
theorem Bx.rules {W : World} {b : Nat} {r : E3} (hb : Bx W b r) : ∀ w', Seen W w' →
    w'.cell? ⟨b, 0, none⟩ = some (.int .i64 r.k) ∧ w'.cell? ⟨b, 1, none⟩ = some (.int .i64 r.t) ∧ w'.cell? ⟨b, 2, none⟩ = some (.int .i64 r.n) := fun _ h => h.at3 hb
theorem bx_new (w : World) (r : E3) : Bx (w.alloc (.cells #[.int .i64 r.k, .int .i64 r.t, .int .i64 r.n] 31)) w.heap.size r := by unfold Bx At3; simp
theorem boxes (a b c : E3) (w : World) : Bx (((w.alloc (.cells #[.int .i64 a.k, .int .i64 a.t, .int .i64 a.n] 31)).alloc (.cells #[.int .i64 b.k, .int .i64 b.t, .int .i64 b.n] 31)).alloc (.cells #[.int .i64 c.k, .int .i64 c.t, .int .i64 c.n] 31)) w.heap.size a ∧ Bx (((w.alloc (.cells #[.int .i64 a.k, .int .i64 a.t, .int .i64 a.n] 31)).alloc (.cells #[.int .i64 b.k, .int .i64 b.t, .int .i64 b.n] 31)).alloc (.cells #[.int .i64 c.k, .int .i64 c.t, .int .i64 c.n] 31)) (w.heap.size + 1) b ∧ Bx (((w.alloc (.cells #[.int .i64 a.k, .int .i64 a.t, .int .i64 a.n] 31)).alloc (.cells #[.int .i64 b.k, .int .i64 b.t, .int .i64 b.n] 31)).alloc (.cells #[.int .i64 c.k, .int .i64 c.t, .int .i64 c.n] 31)) (w.heap.size + 2) c := by
  have s : ∀ (w : World) (o : Obj), Seen w (w.alloc o) := fun w o => (Seen.refl w).alloc o
  refine ⟨(s _ _).at3 ((s _ _).at3 (bx_new w a)), ?_, ?_⟩
  · have h := bx_new (w.alloc (.cells #[.int .i64 a.k, .int .i64 a.t, .int .i64 a.n] 31)) b
    rw [World.size_alloc] at h
    exact (s _ _).at3 h
  · have h := bx_new ((w.alloc (.cells #[.int .i64 a.k, .int .i64 a.t, .int .i64 a.n] 31)).alloc (.cells #[.int .i64 b.k, .int .i64 b.t, .int .i64 b.n] 31)) c
    rw [World.size_alloc, World.size_alloc] at h
    exact h
theorem isB {P : Program} {f : FuncId} {args : Array Value} {b c : Bool} {w : World} (h : Calls P f args w fun e w' => e = .returned (.bool b) ∧ Below w.heap.size w w') (hb : b = c) :
    Calls P f args w fun e w' => e = .returned (.bool c) ∧ Below w.heap.size w w' := hb ▸ h
set_option maxHeartbeats 4000000 in
theorem walk (a b c : E3) (w : World) (oa : True) (ob : True) (oc : True) :
    Calls Try.prog 5 #[.agg #[.int .i64 a.k, .int .i64 a.t, .int .i64 a.n], .agg #[.int .i64 b.k, .int .i64 b.t, .int .i64 b.n], .agg #[.int .i64 c.k, .int .i64 c.t, .int .i64 c.n]] w fun e w' => e = .returned (.bool true) ∧ Below w.heap.size w w' := by
  clear oa ob oc
  obtain ⟨x, y, z, hx, hy, hz, hx2, hyz, hcs⟩ := facts a b c
  have HX := Lib.hid hx
  have HY := Lib.hid hy
  have HZ := Lib.hid hz
  have hq := run_eql31
  clear hx hy hz
  rcases hcs with ⟨rfl, hlt, heq⟩ | ⟨rfl, hlt, heq⟩ | ⟨rfl, hlt, heq⟩
  all_goals
    have HX2 := Lib.hid hx2
    have HLT := Lib.hid hlt
    clear hx2 hlt
    go_enter Try.func5, Try.ntmps5
    go_wp2_with fail
    refine (awake_any _).mono ?_
    rintro e W ⟨rfl, hA⟩
    have sW : Seen w W := Seen.next ((((Seen.refl w).alloc _).alloc _).alloc _) hA
    obtain ⟨r1, r2, r3⟩ := boxes a b c w
    have ra : Bx W w.heap.size a := Seen.at3 hA r1
    have rb : Bx W (w.heap.size + 1) b := Seen.at3 hA r2
    have rc : Bx W (w.heap.size + 2) c := Seen.at3 hA r3
    clear r1 r2 r3
    have ra := ra.rules
    have rb := rb.rules
    have rc := rc.rules
    clear hA
    go_wp2_with fail
    refine wp_region_quiet (C := Seen W) (by kernel_rfl) (by kernel_rfl) (Seen.drew (Seen.refl _)) ?_
    simp only []
    repeat (first
      | go_big_quiet_skip
      | (go_big_quiet_want
         apply Exists.intro
         refine ⟨fun w1 h1 => ?_, ?_⟩
         focus
           go_simp
           first | done | rfl | (go_at_call 16; with_reducible exact quiet_call h1 (isI (compare_any a b _) HX.out)) | (go_at_call 16; with_reducible exact quiet_call h1 (isI (compare_any b c _) HY.out)) | (go_at_call 16; with_reducible exact quiet_call h1 (isI (compare_any a c _) HZ.out))
         (try simp only [Act.put, List.setIfInBounds_toArray, List.set_cons_zero, List.set_cons_succ])
         go_big_quiet_on))
    refine wpQuiet_nil ?_
    intro w3 h3
    go_wp2_with (first
      | (go_at_call 17; refine (isB (refLess_any a b _) HLT.out).mono ?_; rintro e w4 ⟨rfl, b4⟩; have h4 : Seen W w4 := h3.next b4; clear b4)
      | (go_at_call 16; refine (isI (compare_any b a _) HX2.out).mono ?_; rintro e w5 ⟨rfl, b5⟩; have h5 : Seen W w5 := h4.next b5; clear b5))
    all_goals first
      | (go_ret; exact ⟨rfl, sW.trans h5⟩)
      | (exfalso; omega)

/-! ### The row's step. -/
set_option maxRecDepth 100000 in
theorem lifted (os : Os) (started : os.Started) (H : Type) (enc : TypeId × Value → H) :
    ReturnsInHanded {} Try.checked os 5 .any (Rows.agendaOrdersSpec.pre6 enc Try.prog Try.f5 Rows.agendaOrdersRow.domain false) (Rows.agendaOrdersSpec.post enc Try.prog Try.f5 false true false false) := by
  refine returnsInHanded_of_change (C := Try.checked) own started (by kernel_rfl) Try.func5
    (ChangeSpec.witness6 (enc := enc) (C := Try.checked) false ⟨#[], #[.agg #[.int .i64 0, .int .i64 0, .int .i64 0], .agg #[.int .i64 0, .int .i64 0, .int .i64 0], .agg #[.int .i64 0, .int .i64 0, .int .i64 0]], []⟩ 8 (by kernel_rfl) (by kernel_rfl) (by kernel_rfl) (by kernel_rfl)) ?_
  intro W base args ds gs before hval0 hW hcnd _
  have hval : ∀ (j : Nat) t v, Try.f5.params[j]? = some t → args[j]? = some v → Value.okWide Try.prog W .any base t v := hval0
  have hW' := hW
  obtain ⟨p, q, hA0, hV, rfl, hfz, hnd⟩ := hW
  have hA : DataW.TrodAll enc Try.prog W 0 (fun _ => true) true Try.f5.params.toList args.toList ds p := hA0
  rw [Try.params5] at hA hval
  obtain ⟨v0, vs0, d0, ds0, p0, q0, hargs, rfl, rfl, h0, r0⟩ := trodAll_cons hA
  obtain ⟨v1, vs1, d1, ds1, p1, q1, rfl, rfl, rfl, h1, r1⟩ := trodAll_cons r0
  obtain ⟨v2, vs2, d2, ds2, p2, q2, rfl, rfl, rfl, h2, r2⟩ := trodAll_cons r1
  obtain ⟨rfl, rfl, rfl⟩ := trodAll_nil r2
  obtain rfl : args = #[v0, v1, v2] := by cases args; simp_all
  obtain ⟨rfl, rfl⟩ := trodVars_none hV
  have k0 := h0
  have lt0 : ∀ x ∈ p0, x.block < W.heap.size := by obtain ⟨m, hm⟩ := k0; exact DataW.trod_lt m _ _ _ hm
  obtain ⟨g0, rfl, o0⟩ := open_entry (hval 0 31 v0 rfl rfl) h0
  have k1 := h1
  have lt1 : ∀ x ∈ p1, x.block < W.heap.size := by obtain ⟨m, hm⟩ := k1; exact DataW.trod_lt m _ _ _ hm
  obtain ⟨g1, rfl, o1⟩ := open_entry (hval 1 31 v1 rfl rfl) h1
  have k2 := h2
  have lt2 : ∀ x ∈ p2, x.block < W.heap.size := by obtain ⟨m, hm⟩ := k2; exact DataW.trod_lt m _ _ _ hm
  obtain ⟨g2, rfl, o2⟩ := open_entry (hval 2 31 v2 rfl rfl) h2
  clear hA0 hval0
  refine (walk g0 g1 g2 W o0 o1 o2).mono fun e W' ⟨he, bel⟩ => ?_
  subst he
  exact ⟨_, rfl, _, _, _, [], _, [], hW', trodAll_mk1 (shut_bool Try.underlying4 _), (trodAll_cons_mk (Below.trod laidOut (by kernel_rfl) (of_decide_eq_true (by kernel_rfl)) k0 bel lt0) (trodAll_cons_mk (Below.trod laidOut (by kernel_rfl) (of_decide_eq_true (by kernel_rfl)) k1 bel lt1) (trodAll_cons_mk (Below.trod laidOut (by kernel_rfl) (of_decide_eq_true (by kernel_rfl)) k2 bel lt2) trodAll_mk0))), rfl, bel.frame _, fun h => by cases h⟩

theorem over : Rows.agendaOrdersRow.holds Try.pinned (OpenSpec.ofChange Rows.agendaOrdersSpec) :=
  OpenClaim.holds_of_wide 5 Try.f5 rfl rfl rfl rfl rfl rfl rfl ⟨rfl, rfl, rfl, rfl, rfl⟩ rfl rfl rfl rfl rfl (by kernel_rfl) Try.func5 (by kernel_rfl)
    (of_decide_eq_true (by kernel_rfl)) (by unfold Func.isWrapper; first | (rw [if_pos (by decide +kernel)]; kernel_rfl) | (rw [if_neg (by decide +kernel)]; exact ⟨rfl, rfl⟩))
    (fun os started H enc _ => lifted os started H enc)

/-- The statement. -/
theorem proved : Rows.AgendaOrdersSaid := over
#print axioms proved
end Go.Proofs.Ytacdgfihabjfkaa.agendaOrders
