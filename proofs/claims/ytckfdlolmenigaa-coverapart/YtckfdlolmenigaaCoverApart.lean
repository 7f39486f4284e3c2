/- Proved: for every slice of rectangles the law CoverApart returns true, and its argument reads afterwards as before; no conditions. -/
import Derived.Test.YtckfdlolmenigaaRows
import Derived.WalkKit
import Derived.Test.YtckfdlolmenigaaAwake
import Derived.Test.YtckfdlolmenigaaRefApart
import Derived.Test.YtckfdlolmenigaaArgCap
import Derived.ProofKit
import Derived.OpenShut
import Derived.ShutString
import Derived.ChangeOld
import Derived.Below
namespace Go.Proofs.Ytckfdlolmenigaa.coverApart
open Go.ChangeShapes Go.WideShapes Go.ChangeAt Go.RowKit
set_option linter.unusedVariables false

theorem own : ownKnob Try.prog.godebug = none := by kernel_rfl
theorem laidOut : laidOutB Try.prog = true := by kernel_rfl


set_option maxHeartbeats 4000000 in
theorem walk (ad : Option Addr) (n c : Nat) (rs : List R4) (w : World) (h : RS w ad n rs ∧ n ≤ c) :
    Calls Try.prog 5 #[.slice ad n c] w fun e w' => e = .returned (.bool true) ∧ Below w.heap.size w w' := by
  obtain ⟨h, hc⟩ := h
  have HR := Lib.hid h
  clear h
  by_cases hn : 20 < n
  · have hn' : (20 : Int) < (n : Int) := by omega
    go_enter Try.func5, Try.ntmps5
    go_wp2_with fail
    refine (awake_any _).mono ?_
    rintro e wA ⟨rfl, hA⟩
    go_wp2_with fail
    refine (awake_any _).mono ?_
    rintro e wB ⟨rfl, hB⟩
    go_wp2_with fail
    go_ret
    exact ⟨rfl, Seen.next hA hB⟩
  · have hn' : ¬ (20 : Int) < (n : Int) := by omega
    go_enter Try.func5, Try.ntmps5
    go_wp2_with fail
    refine (awake_any _).mono ?_
    rintro e wA ⟨rfl, hA⟩
    have sA : Seen w wA := hA
    clear hA
    rcases Bool.eq_false_or_eq_true (apartB rs) with hb | hb
    all_goals
      have HB := Lib.hid hb
      clear hb
      go_wp2_with fail
      refine (isB (apart_any _ _ _ rs _ (HR.out.seen sA) (by omega) hc) HB.out).mono ?_
      rintro e wB ⟨rfl, hB⟩
      have sB : Seen w wB := sA.next hB
      clear hB
      go_wp2_with fail
      refine (isB (refApart_any _ _ _ rs _ (HR.out.seen sB) (by omega)) HB.out).mono ?_
      rintro e wC ⟨rfl, hC⟩
      have sC : Seen w wC := sB.next hC
      clear hC
      go_wp2_with fail
      go_ret
      exact ⟨rfl, sC⟩

/-! ### The row's step. -/
set_option maxRecDepth 100000 in
theorem lifted (os : Os) (started : os.Started) (H : Type) (enc : TypeId × Value → H) :
    ReturnsInHanded {} Try.checked os 5 .any (Rows.coverApartSpec.pre6 enc Try.prog Try.f5 Rows.coverApartRow.domain false) (Rows.coverApartSpec.post enc Try.prog Try.f5 false true false false) := by
  refine returnsInHanded_of_change (C := Try.checked) own started (by kernel_rfl) Try.func5
    (ChangeSpec.witness6 (enc := enc) (C := Try.checked) false ⟨#[], #[.slice none 0 0], []⟩ 8 (by kernel_rfl) (by kernel_rfl) (by kernel_rfl) (by kernel_rfl)) ?_
  intro W base args ds gs before hval0 hW hcnd _
  have hval : ∀ (j : Nat) t v, Try.f5.params[j]? = some t → args[j]? = some v → Value.okWide Try.prog W .any base t v := hval0
  have hW' := hW
  obtain ⟨p, q, hA0, hV, rfl, hfz, hnd⟩ := hW
  have hA : DataW.TrodAll enc Try.prog W 0 (fun _ => true) true Try.f5.params.toList args.toList ds p := hA0
  rw [Try.params5] at hA hval
  obtain ⟨v0, vs0, d0, ds0, p0, q0, hargs, rfl, rfl, h0, r0⟩ := trodAll_cons hA
  obtain ⟨rfl, rfl, rfl⟩ := trodAll_nil r0
  obtain rfl : args = #[v0] := by cases args; simp_all
  obtain ⟨rfl, rfl⟩ := trodVars_none hV
  have k0 := h0
  have lt0 : ∀ x ∈ p0, x.block < W.heap.size := by obtain ⟨m, hm⟩ := k0; exact DataW.trod_lt m _ _ _ hm
  obtain ⟨a0, len0, cap0, g0, rfl, o0⟩ := open_rowc (hval 0 24 v0 rfl rfl) h0
  clear hA0 hval0
  refine (walk a0 len0 cap0 g0 W o0).mono fun e W' ⟨he, bel⟩ => ?_
  subst he
  exact ⟨_, rfl, _, _, _, [], _, [], hW', trodAll_mk1 (shut_bool Try.underlying4 _), (trodAll_cons_mk (Below.trod laidOut (by kernel_rfl) (of_decide_eq_true (by kernel_rfl)) k0 bel lt0) trodAll_mk0), rfl, bel.frame _, fun h => by cases h⟩

theorem over : Rows.coverApartRow.holds Try.pinned (OpenSpec.ofChange Rows.coverApartSpec) :=
  OpenClaim.holds_of_wide 5 Try.f5 rfl rfl rfl rfl rfl rfl rfl ⟨rfl, rfl, rfl, rfl, rfl⟩ rfl rfl rfl rfl rfl (by kernel_rfl) Try.func5 (by kernel_rfl)
    (of_decide_eq_true (by kernel_rfl)) (by unfold Func.isWrapper; first | (rw [if_pos (by decide +kernel)]; kernel_rfl) | (rw [if_neg (by decide +kernel)]; exact ⟨rfl, rfl⟩))
    (fun os started H enc _ => lifted os started H enc)

/-- The statement. -/
theorem proved : Rows.CoverApartSaid := over
#print axioms proved
end Go.Proofs.Ytckfdlolmenigaa.coverApart
