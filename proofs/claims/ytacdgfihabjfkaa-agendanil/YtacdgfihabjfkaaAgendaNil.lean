/- Proved: for every entry e the law AgendaNil returns true, and its argument reads afterwards as before; no conditions. -/
import Derived.Test.YtacdgfihabjfkaaRows
import Derived.WalkKit
import Derived.Test.YtacdgfihabjfkaaAwake
import Derived.Test.YtacdgfihabjfkaaArgs
import Derived.Test.YtacdgfihabjfkaaSortedW
import Derived.ProofKit
import Derived.OpenShut
import Derived.ShutString
import Derived.ChangeOld
import Derived.Below
namespace Go.Proofs.Ytacdgfihabjfkaa.agendaNil
open Go.ChangeShapes Go.WideShapes Go.ChangeAt Go.RowKit
set_option linter.unusedVariables false

theorem own : ownKnob Try.prog.godebug = none := by kernel_rfl
theorem laidOut : laidOutB Try.prog = true := by kernel_rfl


set_option maxRecDepth 100000 in
set_option maxHeartbeats 4000000 in
theorem walk (x : E3) (w : World) (ox : True) :
    Calls Try.prog 6 #[.agg #[.int .i64 x.k, .int .i64 x.t, .int .i64 x.n]] w fun e w' => e = .returned (.bool true) ∧ Below w.heap.size w w' := by
  clear ox
  have hq := run_eql31
  have hs3 := eq3_same
  go_enter Try.func6, Try.ntmps6
  go_wp2_with (first
    | (go_at_call 9; refine (add_nil x _).mono ?_; rintro _ w1 ⟨rfl, b1⟩; have s1 : Seen w w1 := Seen.next ((Seen.refl w).alloc _) b1; clear b1)
    | (go_at_call 10; refine (next_nil _).mono ?_; rintro _ w2 ⟨rfl, b2⟩; have s2 : Seen w w2 := s1.next b2; clear b2)
    | (go_at_call 12; refine (peek_nil _).mono ?_; rintro _ w3 ⟨rfl, b3⟩; have s3 : Seen w w3 := (s2.alloc _).next b3
       have x0 : w3.cell? ⟨w2.heap.size, 0, none⟩ = some (.int .i64 0) := Seen.cell b3 (by simp)
       have x1 : w3.cell? ⟨w2.heap.size, 1, none⟩ = some (.int .i64 0) := Seen.cell b3 (by simp)
       have x2 : w3.cell? ⟨w2.heap.size, 2, none⟩ = some (.int .i64 0) := Seen.cell b3 (by simp)
       clear b3)
    | (go_at_call 7; refine (awake_any _).mono ?_; rintro _ w4 ⟨rfl, b4⟩; have s4 : Seen w w4 := (s3.alloc _).next b4
       have p0 : w4.cell? ⟨w2.heap.size, 0, none⟩ = some (.int .i64 0) := Seen.cell b4 (((Seen.refl w3).alloc _).cell x0)
       have p1 : w4.cell? ⟨w2.heap.size, 1, none⟩ = some (.int .i64 0) := Seen.cell b4 (((Seen.refl w3).alloc _).cell x1)
       have p2 : w4.cell? ⟨w2.heap.size, 2, none⟩ = some (.int .i64 0) := Seen.cell b4 (((Seen.refl w3).alloc _).cell x2)
       have y0 : w4.cell? ⟨w3.heap.size, 0, none⟩ = some (.int .i64 0) := Seen.cell b4 (by simp)
       have y1 : w4.cell? ⟨w3.heap.size, 1, none⟩ = some (.int .i64 0) := Seen.cell b4 (by simp)
       have y2 : w4.cell? ⟨w3.heap.size, 2, none⟩ = some (.int .i64 0) := Seen.cell b4 (by simp)
       clear b4 x0 x1 x2)
    | (go_at_call 13; refine (agLen_nil _).mono ?_; rintro _ _ ⟨rfl, rfl⟩)
    | (go_at_call 14; refine (sorted_any none 0 0 [] _ (ES.nil _ _) (fun _ => rfl) (by omega)).mono ?_; rintro _ w6 ⟨⟨v6, rfl, hr6⟩, b6⟩
       obtain ⟨a6, c6, rfl, _, _⟩ := es_of_own (n := 0) hr6 (srt_length [])
       have S6 := Lib.hid b6
       clear hr6 b6))
  go_ret
  exact ⟨rfl, s4.next S6.out⟩

/-! ### The row's step. -/
set_option maxRecDepth 100000 in
theorem lifted (os : Os) (started : os.Started) (H : Type) (enc : TypeId × Value → H) :
    ReturnsInHanded {} Try.checked os 6 .any (Rows.agendaNilSpec.pre6 enc Try.prog Try.f6 Rows.agendaNilRow.domain false) (Rows.agendaNilSpec.post enc Try.prog Try.f6 false true false false) := by
  refine returnsInHanded_of_change (C := Try.checked) own started (by kernel_rfl) Try.func6
    (ChangeSpec.witness6 (enc := enc) (C := Try.checked) false ⟨#[], #[.agg #[.int .i64 0, .int .i64 0, .int .i64 0]], []⟩ 8 (by kernel_rfl) (by kernel_rfl) (by kernel_rfl) (by kernel_rfl)) ?_
  intro W base args ds gs before hval0 hW hcnd _
  have hval : ∀ (j : Nat) t v, Try.f6.params[j]? = some t → args[j]? = some v → Value.okWide Try.prog W .any base t v := hval0
  have hW' := hW
  obtain ⟨p, q, hA0, hV, rfl, hfz, hnd⟩ := hW
  have hA : DataW.TrodAll enc Try.prog W 0 (fun _ => true) true Try.f6.params.toList args.toList ds p := hA0
  rw [Try.params6] at hA hval
  obtain ⟨v0, vs0, d0, ds0, p0, q0, hargs, rfl, rfl, h0, r0⟩ := trodAll_cons hA
  obtain ⟨rfl, rfl, rfl⟩ := trodAll_nil r0
  obtain rfl : args = #[v0] := by cases args; simp_all
  obtain ⟨rfl, rfl⟩ := trodVars_none hV
  have k0 := h0
  have lt0 : ∀ x ∈ p0, x.block < W.heap.size := by obtain ⟨m, hm⟩ := k0; exact DataW.trod_lt m _ _ _ hm
  obtain ⟨g0, rfl, o0⟩ := open_entry (hval 0 31 v0 rfl rfl) h0
  clear hA0 hval0
  refine (walk g0 W o0).mono fun e W' ⟨he, bel⟩ => ?_
  subst he
  exact ⟨_, rfl, _, _, _, [], _, [], hW', trodAll_mk1 (shut_bool Try.underlying4 _), (trodAll_cons_mk (Below.trod laidOut (by kernel_rfl) (of_decide_eq_true (by kernel_rfl)) k0 bel lt0) trodAll_mk0), rfl, bel.frame _, fun h => by cases h⟩

theorem over : Rows.agendaNilRow.holds Try.pinned (OpenSpec.ofChange Rows.agendaNilSpec) :=
  OpenClaim.holds_of_wide 6 Try.f6 rfl rfl rfl rfl rfl rfl rfl ⟨rfl, rfl, rfl, rfl, rfl⟩ rfl rfl rfl rfl rfl (by kernel_rfl) Try.func6 (by kernel_rfl)
    (of_decide_eq_true (by kernel_rfl)) (by unfold Func.isWrapper; first | (rw [if_pos (by decide +kernel)]; kernel_rfl) | (rw [if_neg (by decide +kernel)]; exact ⟨rfl, rfl⟩))
    (fun os started H enc _ => lifted os started H enc)

/-- The statement. -/
theorem proved : Rows.AgendaNilSaid := over
#print axioms proved
end Go.Proofs.Ytacdgfihabjfkaa.agendaNil
