/- Proved: for any four lengths and every int64 base the law SizeSides returns true, and its arguments read afterwards as before; no conditions. -/
import Derived.Test.YtjgpajbibmfjlaaRows
import Derived.WalkKit
import Derived.Test.YtjgpajbibmfjlaaSides
import Derived.ProofKit
import Derived.OpenShut
import Derived.ShutString
import Derived.ChangeOld
import Derived.Below
namespace Go.Proofs.Ytjgpajbibmfjlaa.sizeSides
open Go.ChangeShapes Go.WideShapes Go.ChangeAt Go.RowKit
set_option linter.unusedVariables false

theorem own : ownKnob Try.prog.godebug = none := by kernel_rfl
theorem laidOut : laidOutB Try.prog = true := by kernel_rfl

set_option maxHeartbeats 2000000 in
theorem walk (q : Ln4) (b : Int) (w : World) (oq : okL4 q) (ob : okN b) :
    Calls Try.prog 4 #[.agg #[.int .i64 q.a.k, .int .i64 q.a.n, .int .i64 q.b.k, .int .i64 q.b.n, .int .i64 q.c.k, .int .i64 q.c.n, .int .i64 q.d.k, .int .i64 q.d.n], .int .i64 b] w fun e w' => e = .returned (.bool true) ∧ Below w.heap.size w w' := by
  clear oq ob
  have neq := run_neq26
  obtain ⟨W, hW⟩ : ∃ W, W = w.alloc (.cells #[.int .i64 q.a.k, .int .i64 q.a.n, .int .i64 q.b.k, .int .i64 q.b.n, .int .i64 q.c.k, .int .i64 q.c.n, .int .i64 q.d.k, .int .i64 q.d.n] 36) := ⟨_, rfl⟩
  have b0 := Blk.rules8 (show Blk W w.heap.size [.int .i64 q.a.k, .int .i64 q.a.n, .int .i64 q.b.k, .int .i64 q.b.n, .int .i64 q.c.k, .int .i64 q.c.n, .int .i64 q.d.k, .int .i64 q.d.n] 36 by rw [hW]; exact Blk.new w _ _)
  have hWb : Seen w W := by rw [hW]; exact (Seen.refl w).alloc _
  have sr := Seen.refl W
  obtain ⟨c, hc⟩ : ∃ c, sidesB q b = c := ⟨_, rfl⟩
  have p0 := sides_any q b
  have p1 := refSides_any q b
  rw [hc] at p0 p1
  generalize sideS q b q.a = s0 at p0 p1
  generalize sideS q b q.b = s1 at p0 p1
  generalize sideS q b q.c = s2 at p0 p1
  generalize sideS q b q.d = s3 at p0 p1
  clear hc
  have q0 := eqS_self s0
  have q1 := eqS_self s1
  have q2 := eqS_self s2
  have q3 := eqS_self s3
  go_enter Try.func4, Try.ntmps4
  go_wp2_with (first
    | (go_at_call 6; rw [← hW]; clear hW; refine (awake_any _).mono ?_; rintro e wA ⟨rfl, hA⟩; have sA : Seen W wA := hA; clear hA)
    | (go_at_call 12; refine (p0 _).mono ?_; rintro e wB ⟨rfl, hB⟩; have sB : Seen W wB := sA.next hB; clear hB p0; have rB := fun o => b0 (wB.alloc o) (sB.alloc o)
       obtain ⟨WB, hWB⟩ : ∃ V, V = wB.alloc (.cells #[.bool s0.au, .int .i64 s0.n, .bool s1.au, .int .i64 s1.n, .bool s2.au, .int .i64 s2.n, .bool s3.au, .int .i64 s3.n] 37) := ⟨_, rfl⟩
       have kB : Blk WB wB.heap.size [.bool s0.au, .int .i64 s0.n, .bool s1.au, .int .i64 s1.n, .bool s2.au, .int .i64 s2.n, .bool s3.au, .int .i64 s3.n] 37 := by rw [hWB]; exact Blk.new wB _ _
       have tB : Seen W WB := by rw [hWB]; exact sB.alloc _)
    | (go_at_call 13; rw [← hWB]; clear hWB rB; refine (p1 _).mono ?_; rintro e wC ⟨rfl, hC⟩; have sC : Seen WB wC := hC; clear hC p1))
  obtain ⟨WC, hWC⟩ : ∃ V, V = wC.alloc (.cells #[.bool s0.au, .int .i64 s0.n, .bool s1.au, .int .i64 s1.n, .bool s2.au, .int .i64 s2.n, .bool s3.au, .int .i64 s3.n] 40) := ⟨_, rfl⟩
  have kC : Blk WC wC.heap.size [.bool s0.au, .int .i64 s0.n, .bool s1.au, .int .i64 s1.n, .bool s2.au, .int .i64 s2.n, .bool s3.au, .int .i64 s3.n] 40 := by rw [hWC]; exact Blk.new wC _ _
  have tC : Seen WB WC := by rw [hWC]; exact sC.alloc _
  rw [← hWC]
  clear hWC b0
  have c37 := (kB.seen tC).rules8
  have c40 := kC.rules8
  have HW : Hid (Seen w WC) := (hWb.trans tB).trans tC
  clear kB kC tC sC tB sB sA sr hWb
  go_loopw [24] (fun i wr => ∃ k : Int, i = .int .i64 k ∧ 0 ≤ k ∧ k ≤ 4 ∧ Seen WC wr) (fun i _ => 4 - (intOf i).toNat)
  case atStart => exact ⟨0, rfl, by omega, by omega, Seen.refl _⟩
  case round =>
    obtain ⟨k, rfl, hk0, hk4, hs⟩ := hrel
    have e37 := c37 wr hs
    have e40 := c40 wr hs
    rcases (show k = 0 ∨ k = 1 ∨ k = 2 ∨ k = 3 ∨ k = 4 by omega) with rfl | rfl | rfl | rfl | rfl
    · clear hk0 hk4
      go_wp2_with fail
      go_quiet (fail)
      go_wp2_with fail
      go_roundw
      case rel => exact ⟨1, by go_num, by omega, by omega, hs.drewN _⟩
      case measure => simp [intOf]
    · clear hk0 hk4
      go_wp2_with fail
      go_quiet (fail)
      go_wp2_with fail
      go_roundw
      case rel => exact ⟨2, by go_num, by omega, by omega, hs.drewN _⟩
      case measure => simp [intOf]
    · clear hk0 hk4
      go_wp2_with fail
      go_quiet (fail)
      go_wp2_with fail
      go_roundw
      case rel => exact ⟨3, by go_num, by omega, by omega, hs.drewN _⟩
      case measure => simp [intOf]
    · clear hk0 hk4
      go_wp2_with fail
      go_quiet (fail)
      go_wp2_with fail
      go_roundw
      case rel => exact ⟨4, by go_num, by omega, by omega, hs.drewN _⟩
      case measure => simp [intOf]
    · cases c
      all_goals
        go_wp2
        go_ret
        exact ⟨rfl, HW.out.trans hs⟩

/-! ### The row's step. -/
set_option maxRecDepth 100000 in
theorem lifted (os : Os) (started : os.Started) (H : Type) (enc : TypeId × Value → H) :
    ReturnsInHanded {} Try.checked os 4 .any (Rows.sizeSidesSpec.pre6 enc Try.prog Try.f4 Rows.sizeSidesRow.domain false) (Rows.sizeSidesSpec.post enc Try.prog Try.f4 false true false false) := by
  refine returnsInHanded_of_change (C := Try.checked) own started (by kernel_rfl) Try.func4
    (ChangeSpec.witness6 (enc := enc) (C := Try.checked) false ⟨#[], #[.agg #[.int .i64 0, .int .i64 0, .int .i64 0, .int .i64 0, .int .i64 0, .int .i64 0, .int .i64 0, .int .i64 0], .int .i64 0], []⟩ 8 (by kernel_rfl) (by kernel_rfl) (by kernel_rfl) (by kernel_rfl)) ?_
  intro W base args ds gs before hval0 hW hcnd _
  have hval : ∀ (j : Nat) t v, Try.f4.params[j]? = some t → args[j]? = some v → Value.okWide Try.prog W .any base t v := hval0
  have hW' := hW
  obtain ⟨p, q, hA0, hV, rfl, hfz, hnd⟩ := hW
  have hA : DataW.TrodAll enc Try.prog W 0 (fun _ => true) true Try.f4.params.toList args.toList ds p := hA0
  rw [Try.params4] at hA hval
  obtain ⟨v0, vs0, d0, ds0, p0, q0, hargs, rfl, rfl, h0, r0⟩ := trodAll_cons hA
  obtain ⟨v1, vs1, d1, ds1, p1, q1, rfl, rfl, rfl, h1, r1⟩ := trodAll_cons r0
  obtain ⟨rfl, rfl, rfl⟩ := trodAll_nil r1
  obtain rfl : args = #[v0, v1] := by cases args; simp_all
  obtain ⟨rfl, rfl⟩ := trodVars_none hV
  have k0 := h0
  have lt0 : ∀ x ∈ p0, x.block < W.heap.size := by obtain ⟨m, hm⟩ := k0; exact DataW.trod_lt m _ _ _ hm
  obtain ⟨g0, rfl, o0⟩ := open_lens (hval 0 36 v0 rfl rfl) h0
  have k1 := h1
  have lt1 : ∀ x ∈ p1, x.block < W.heap.size := by obtain ⟨m, hm⟩ := k1; exact DataW.trod_lt m _ _ _ hm
  obtain ⟨g1, rfl, o1⟩ := open_num (hval 1 2 v1 rfl rfl) h1
  clear hA0 hval0
  refine (walk g0 g1 W o0 o1).mono fun e W' ⟨he, bel⟩ => ?_
  subst he
  exact ⟨_, rfl, _, _, _, [], _, [], hW', trodAll_mk1 (shut_bool Try.underlying4 _), (trodAll_cons_mk (Below.trod laidOut (by kernel_rfl) (of_decide_eq_true (by kernel_rfl)) k0 bel lt0) (trodAll_cons_mk (Below.trod laidOut (by kernel_rfl) (of_decide_eq_true (by kernel_rfl)) k1 bel lt1) trodAll_mk0)), rfl, bel.frame _, fun h => by cases h⟩

theorem over : Rows.sizeSidesRow.holds Try.pinned (OpenSpec.ofChange Rows.sizeSidesSpec) :=
  OpenClaim.holds_of_wide 4 Try.f4 rfl rfl rfl rfl rfl rfl rfl ⟨rfl, rfl, rfl, rfl, rfl⟩ rfl rfl rfl rfl rfl (by kernel_rfl) Try.func4 (by kernel_rfl)
    (of_decide_eq_true (by kernel_rfl)) (by unfold Func.isWrapper; first | (rw [if_pos (by decide +kernel)]; kernel_rfl) | (rw [if_neg (by decide +kernel)]; exact ⟨rfl, rfl⟩))
    (fun os started H enc _ => lifted os started H enc)

/-- The statement. -/
theorem proved : Rows.SizeSidesSaid := over
#print axioms proved
end Go.Proofs.Ytjgpajbibmfjlaa.sizeSides
