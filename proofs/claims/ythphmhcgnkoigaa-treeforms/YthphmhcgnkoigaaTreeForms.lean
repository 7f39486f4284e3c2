/- Proved: for every list of nodes the law TreeForms returns true, and its argument reads afterwards as before; no conditions. -/
import Derived.Test.YthphmhcgnkoigaaRows
import Derived.WalkKit
import Derived.Test.YthphmhcgnkoigaaAwakeT
import Derived.Test.YthphmhcgnkoigaaOpenN
import Derived.ProofKit
import Derived.OpenShut
import Derived.ShutString
import Derived.ChangeOld
import Derived.Below
namespace Go.Proofs.Ythphmhcgnkoigaa.treeForms
open Go.ChangeShapes Go.WideShapes Go.ChangeAt Go.RowKit
set_option linter.unusedVariables false

theorem own : ownKnob Try.prog.godebug = none := by kernel_rfl
theorem laidOut : laidOutB Try.prog = true := by kernel_rfl


set_option maxRecDepth 100000 in
set_option maxHeartbeats 8000000 in
theorem walk (a : Option Addr) (n c : Nat) (l : List Nd) (w : World) (o : NS w a n l ∧ (∀ q ∈ l, OkN q) ∧ n ≤ c ∧ (a = none → c = 0)) :
    Calls Try.prog 3 #[.slice a n c] w fun e w' => e = .returned (.bool true) ∧ Below w.heap.size w w' := by
  have HS := Lib.hid o.1
  clear o
  by_cases hbig : (n : Int) > 300
  · go_enter Try.func3, Try.ntmps3
    have A0 := Lib.hid (awakeT_any w)
    go_wp2_with (first
      | (go_at_call 8; refine A0.out.mono ?_; clear A0; rintro _ w1 ⟨rfl, hs1⟩; have S1 : Hid (Seen w w1) := hs1; clear hs1)
      | (go_at_call 8; refine (awakeT_any w1).mono ?_; rintro _ w2 ⟨rfl, hs2⟩; have S2 : Hid (Seen w w2) := S1.out.trans hs2
         clear hs2))
    go_ret
    exact ⟨rfl, S2.out⟩
  · cases hf : formedT l
    all_goals
      have F1 : Hid (∀ w', Seen w w' → Calls Try.prog 9 #[.slice a n c] w' fun e w'' => e = .returned (.bool (formedT l)) ∧ Seen w' w'') := fun w' h' => formedTree_any a n c l w' (HS.out.seen h') (by omega)
      have F2 : Hid (∀ w', Seen w w' → Calls Try.prog 10 #[.slice a n c] w' fun e w'' => e = .returned (.bool (formedT l)) ∧ Seen w' w'') := fun w' h' => refFormedT_any a n c l w' (HS.out.seen h') (by omega)
      have F3 : Hid (∀ w', Seen w w' → Calls Try.prog 11 #[.slice a n c] w' fun e w'' => e = .returned (.int .i64 (checkT l)) ∧ Seen w' w'') := fun w' h' => check_any a n c l w' (HS.out.seen h') (by omega)
      have F4 : Hid (∀ w', Seen w w' → Calls Try.prog 12 #[.slice a n c] w' fun e w'' => e = .returned (.int .i64 (checkT l)) ∧ Seen w' w'') := fun w' h' => refCheck_any a n c l w' (HS.out.seen h') (by omega)
      rw [hf] at F1 F2
      obtain ⟨C, hC⟩ : ∃ C, checkT l = C := ⟨_, rfl⟩
      rw [hC] at F3 F4
      clear hC hf
      go_enter Try.func3, Try.ntmps3
      have A0 := Lib.hid (awakeT_any w)
      go_wp2_with (first
        | (go_at_call 8; refine A0.out.mono ?_; clear A0; rintro _ w1 ⟨rfl, hs1⟩; have S1 : Hid (Seen w w1) := hs1; clear hs1)
        | (go_at_call 9; refine (F1.out w1 S1.out).mono ?_; clear F1; rintro _ w2 ⟨rfl, hs2⟩; have S2 : Hid (Seen w w2) := S1.out.trans hs2
           clear hs2)
        | (go_at_call 10; refine (F2.out w2 S2.out).mono ?_; clear F2; rintro _ w3 ⟨rfl, hs3⟩; have S3 : Hid (Seen w w3) := S2.out.trans hs3
           clear hs3)
        | (go_at_call 11; refine (F3.out w3 S3.out).mono ?_; clear F3; rintro _ w4 ⟨rfl, hs4⟩; have S4 : Hid (Seen w w4) := S3.out.trans hs4
           clear hs4)
        | (go_at_call 12; refine (F4.out w4 S4.out).mono ?_; clear F4; rintro _ w5 ⟨rfl, hs5⟩; have S5 : Hid (Seen w w5) := S4.out.trans hs5
           clear hs5))
      go_ret
      exact ⟨rfl, S5.out⟩

/-! ### The row's step. -/
set_option maxRecDepth 100000 in
theorem lifted (os : Os) (started : os.Started) (H : Type) (enc : TypeId × Value → H) :
    ReturnsInHanded {} Try.checked os 3 .any (Rows.treeFormsSpec.pre6 enc Try.prog Try.f3 Rows.treeFormsRow.domain false) (Rows.treeFormsSpec.post enc Try.prog Try.f3 false true false false) := by
  refine returnsInHanded_of_change (C := Try.checked) own started (by kernel_rfl) Try.func3
    (ChangeSpec.witness6 (enc := enc) (C := Try.checked) false ⟨#[], #[.slice none 0 0], []⟩ 8 (by kernel_rfl) (by kernel_rfl) (by kernel_rfl) (by kernel_rfl)) ?_
  intro W base args ds gs before hval0 hW hcnd _
  have hval : ∀ (j : Nat) t v, Try.f3.params[j]? = some t → args[j]? = some v → Value.okWide Try.prog W .any base t v := hval0
  have hW' := hW
  obtain ⟨p, q, hA0, hV, rfl, hfz, hnd⟩ := hW
  have hA : DataW.TrodAll enc Try.prog W 0 (fun _ => true) true Try.f3.params.toList args.toList ds p := hA0
  rw [Try.params3] at hA hval
  obtain ⟨v0, vs0, d0, ds0, p0, q0, hargs, rfl, rfl, h0, r0⟩ := trodAll_cons hA
  obtain ⟨rfl, rfl, rfl⟩ := trodAll_nil r0
  obtain rfl : args = #[v0] := by cases args; simp_all
  obtain ⟨rfl, rfl⟩ := trodVars_none hV
  have k0 := h0
  have lt0 : ∀ x ∈ p0, x.block < W.heap.size := by obtain ⟨m, hm⟩ := k0; exact DataW.trod_lt m _ _ _ hm
  obtain ⟨a0, len0, cap0, g0, rfl, o0⟩ := open_nodes (hval 0 22 v0 rfl rfl) h0
  clear hA0 hval0
  refine (walk a0 len0 cap0 g0 W o0).mono fun e W' ⟨he, bel⟩ => ?_
  subst he
  exact ⟨_, rfl, _, _, _, [], _, [], hW', trodAll_mk1 (shut_bool Try.underlying4 _), (trodAll_cons_mk (Below.trod laidOut (by kernel_rfl) (of_decide_eq_true (by kernel_rfl)) k0 bel lt0) trodAll_mk0), rfl, bel.frame _, fun h => by cases h⟩

theorem over : Rows.treeFormsRow.holds Try.pinned (OpenSpec.ofChange Rows.treeFormsSpec) :=
  OpenClaim.holds_of_wide 3 Try.f3 rfl rfl rfl rfl rfl rfl rfl ⟨rfl, rfl, rfl, rfl, rfl⟩ rfl rfl rfl rfl rfl (by kernel_rfl) Try.func3 (by kernel_rfl)
    (of_decide_eq_true (by kernel_rfl)) (by unfold Func.isWrapper; first | (rw [if_pos (by decide +kernel)]; kernel_rfl) | (rw [if_neg (by decide +kernel)]; exact ⟨rfl, rfl⟩))
    (fun os started H enc _ => lifted os started H enc)

/-- The statement. -/
theorem proved : Rows.TreeFormsSaid := over
#print axioms proved
end Go.Proofs.Ythphmhcgnkoigaa.treeForms
