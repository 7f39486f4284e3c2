/- Proved: for every list of nodes and every number the law KinTells returns true, and its arguments read afterwards as before; no conditions. -/
import Derived.Test.YtdnohhcoapkhaaaRows
import Derived.WalkKit
import Derived.Test.YtdnohhcoapkhaaaKinAwake
import Derived.Test.YtdnohhcoapkhaaaKinOne
import Derived.Test.YtdnohhcoapkhaaaOpenN
import Derived.ProofKit
import Derived.OpenShut
import Derived.ShutString
import Derived.ChangeOld
import Derived.Below
namespace Go.Proofs.Ytdnohhcoapkhaaa.kinTells
open Go.ChangeShapes Go.WideShapes Go.ChangeAt Go.RowKit
set_option linter.unusedVariables false

theorem own : ownKnob Try.prog.godebug = none := by kernel_rfl
theorem laidOut : laidOutB Try.prog = true := by kernel_rfl


set_option maxRecDepth 100000 in
set_option maxHeartbeats 8000000 in
theorem walk (a : Option Addr) (n c : Nat) (l : List Nd) (m : Int) (w : World) (o : NS w a n l ∧ (∀ q ∈ l, OkN q) ∧ n ≤ c ∧ (a = none → c = 0)) (hm : -9223372036854775808 ≤ m ∧ m < 9223372036854775808) :
    Calls Try.prog 3 #[.slice a n c, .int .i64 m] w fun e w' => e = .returned (.bool true) ∧ Below w.heap.size w w' := by
  have HS := Lib.hid o.1
  have HL : Hid (l.length = n) := o.1.1
  clear o hm
  by_cases hbig : (n : Int) > 60
  · go_enter Try.func3, Try.ntmps3
    have A0 := Lib.hid (awakeK_any w)
    go_wp2_with (first
      | (go_at_call 7; refine A0.out.mono ?_; clear A0; rintro _ w1 ⟨rfl, hs1⟩; have S1 : Hid (Seen w w1) := hs1; clear hs1)
      | (go_at_call 7; refine (awakeK_any w1).mono ?_; rintro _ w2 ⟨rfl, hs2⟩; have S2 : Hid (Seen w w2) := S1.out.trans hs2
         clear hs2))
    go_ret
    exact ⟨rfl, S2.out⟩
  · by_cases hc : checkT l = 0
    · have hf : FormedT l := check_formed hc
      have HO : Hid (∀ w', Seen w w' → Calls Try.prog 8 #[.slice a n c] w' fun e w'' => ∃ B G H, e = .returned (.tuple #[.pointer (some ⟨B, 0, none⟩), .int .i64 0]) ∧ (w'.heap.size ≤ B ∧ w'.heap.size ≤ G ∧ w'.heap.size ≤ H) ∧ KK w'' B G H l (endN l) ∧ Seen w' w'') := fun w' h' => of_yes a n c l w' (HS.out.seen h') hc hf (by omega)
      have HC : Hid (∀ w', Seen w w' → Calls Try.prog 9 #[.slice a n c] w' fun e w'' => e = .returned (.int .i64 0) ∧ Seen w' w'') := fun w' h' => by
        have := refCheck_any a n c l w' (HS.out.seen h') (by omega)
        rw [hc] at this
        exact this
      have HF := Lib.hid hf
      have H1 : Hid (∀ v w', KV w' v l → Seen w w' → ∀ k, Calls Try.prog 10 #[v, .slice a n c, .int .i64 k] w' fun e w'' => e = .returned (.bool true) ∧ Seen w' w'') := fun v w' hk h' k => one_any v a n c l k w' hk (HS.out.seen h') HF.out
      have HLN : Hid (∀ v w', KV w' v l → Calls Try.prog 11 #[v] w' fun e w'' => e = .returned (.int .i64 (n : Nat)) ∧ w'' = w') := fun v w' hk => by
        have := len_any v l w' hk
        rw [HL.out] at this
        exact this
      clear hc hf
      go_enter Try.func3, Try.ntmps3
      have A0 := Lib.hid (awakeK_any w)
      go_wp2_with (first
        | (go_at_call 7; refine A0.out.mono ?_; clear A0; rintro _ w1 ⟨rfl, hs1⟩; have S1 : Hid (Seen w w1) := hs1; clear hs1)
        | (go_at_call 8; refine (HO.out w1 S1.out).mono ?_; clear HO; rintro _ w2 ⟨B, G, H, rfl, _, hk2, hs2⟩; have S2 : Hid (Seen w w2) := S1.out.trans hs2; have K2 := Lib.hid (hk2.kv HF.out (by have := HL.out; omega)); clear hs2 hk2)
        | (go_at_call 9; refine (HC.out w2 S2.out).mono ?_; clear HC; rintro _ w3 ⟨rfl, hs3⟩; have S3 : Hid (Seen w w3) := S2.out.trans hs3; have K3 := Lib.hid (K2.out.seen hs3); clear hs3)
        | (go_at_call 10; refine (H1.out _ w3 K3.out S3.out m).mono ?_; rintro _ w4 ⟨rfl, hs4⟩; have S4 : Hid (Seen w w4) := S3.out.trans hs4; have K4 := Lib.hid (K3.out.seen hs4); clear hs4)
        | (go_at_call 11; refine (HLN.out _ w4 K4.out).mono ?_; rintro _ w5 ⟨rfl, hw5⟩; rw [hw5]; clear hw5))
      go_loopw [51] (fun x wr => ∃ k : Nat, x = .int .i64 k ∧ k ≤ n ∧ Seen w4 wr) (fun x _ => n - (intOf x).toNat)
      case atStart => exact ⟨0, rfl, by omega, Seen.refl _⟩
      case round =>
        obtain ⟨k, rfl, hk, hs⟩ := hrel
        have S5 := Lib.hid hs
        clear hs
        by_cases hlt : k < n
        · have hk' : (k : Int) < (n : Int) := by omega
          go_wp2_with (go_at_call 10; refine (H1.out _ wr (K4.out.seen S5.out) (S4.out.trans S5.out) k).mono ?_; rintro _ w6 ⟨rfl, hs6⟩; have S6 : Hid (Seen w4 w6) := S5.out.trans hs6; clear hs6)
          go_roundw
          case rel => exact ⟨k + 1, by go_num, by omega, S6.out⟩
          case measure => simp [intOf]; omega
        · have hk' : ¬ (k : Int) < (n : Int) := by omega
          go_wp2_with fail
          go_ret
          exact ⟨rfl, S4.out.trans S5.out⟩
    · have HO : Hid (∀ w', Seen w w' → Calls Try.prog 8 #[.slice a n c] w' fun e w'' => e = .returned (.tuple #[.pointer none, .int .i64 (checkT l)]) ∧ Seen w' w'') := fun w' h' => of_no a n c l w' (HS.out.seen h') (by omega) hc
      have HC : Hid (∀ w', Seen w w' → Calls Try.prog 9 #[.slice a n c] w' fun e w'' => e = .returned (.int .i64 (checkT l)) ∧ Seen w' w'') := fun w' h' => refCheck_any a n c l w' (HS.out.seen h') (by omega)
      obtain ⟨C, hC⟩ : ∃ C, checkT l = C := ⟨_, rfl⟩
      rw [hC] at HO HC hc
      have hb : (C == 0) = false := by simpa using hc
      clear hC hc HS
      go_enter Try.func3, Try.ntmps3
      have A0 := Lib.hid (awakeK_any w)
      have G1 : Hid (0 = 0) := rfl
      go_wp2_with (first
        | (go_at_call 7; refine A0.out.mono ?_; clear A0; rintro _ w1 ⟨rfl, hs1⟩; have S1 : Hid (Seen w w1) := hs1; clear hs1)
        | (go_at_call 8; refine (HO.out w1 S1.out).mono ?_; clear HO; rintro _ w2 ⟨rfl, hs2⟩; have S2 : Hid (Seen w w2) := S1.out.trans hs2
           clear hs2)
        | (go_at_call 9; have gg := G1.out; clear gg; refine (HC.out w2 S2.out).mono ?_; clear G1; rintro _ w3 ⟨rfl, hs3⟩; have S3 : Hid (Seen w w3) := S2.out.trans hs3
           clear hs3)
        | (go_at_call 9; refine (HC.out w3 S3.out).mono ?_; clear HC; rintro _ w4 ⟨rfl, hs4⟩; have S4 : Hid (Seen w w4) := S3.out.trans hs4
           clear hs4))
      go_ret
      exact ⟨rfl, S4.out⟩

/-! ### The row's step. -/
set_option maxRecDepth 100000 in
theorem lifted (os : Os) (started : os.Started) (H : Type) (enc : TypeId × Value → H) :
    ReturnsInHanded {} Try.checked os 3 .any (Rows.kinTellsSpec.pre6 enc Try.prog Try.f3 Rows.kinTellsRow.domain false) (Rows.kinTellsSpec.post enc Try.prog Try.f3 false true false false) := by
  refine returnsInHanded_of_change (C := Try.checked) own started (by kernel_rfl) Try.func3
    (ChangeSpec.witness6 (enc := enc) (C := Try.checked) false ⟨#[], #[.slice none 0 0, .int .i64 0], []⟩ 8 (by kernel_rfl) (by kernel_rfl) (by kernel_rfl) (by kernel_rfl)) ?_
  intro W base args ds gs before hval0 hW hcnd _
  have hval : ∀ (j : Nat) t v, Try.f3.params[j]? = some t → args[j]? = some v → Value.okWide Try.prog W .any base t v := hval0
  have hW' := hW
  obtain ⟨p, q, hA0, hV, rfl, hfz, hnd⟩ := hW
  have hA : DataW.TrodAll enc Try.prog W 0 (fun _ => true) true Try.f3.params.toList args.toList ds p := hA0
  rw [Try.params3] at hA hval
  obtain ⟨v0, vs0, d0, ds0, p0, q0, hargs, rfl, rfl, h0, r0⟩ := trodAll_cons hA
  obtain ⟨v1, vs1, d1, ds1, p1, q1, rfl, rfl, rfl, h1, r1⟩ := trodAll_cons r0
  obtain ⟨rfl, rfl, rfl⟩ := trodAll_nil r1
  obtain rfl : args = #[v0, v1] := by cases args; simp_all
  obtain ⟨rfl, rfl⟩ := trodVars_none hV
  have k0 := h0
  have lt0 : ∀ x ∈ p0, x.block < W.heap.size := by obtain ⟨m, hm⟩ := k0; exact DataW.trod_lt m _ _ _ hm
  obtain ⟨a0, len0, cap0, g0, rfl, o0⟩ := open_nodes (hval 0 22 v0 rfl rfl) h0
  have k1 := h1
  have lt1 : ∀ x ∈ p1, x.block < W.heap.size := by obtain ⟨m, hm⟩ := k1; exact DataW.trod_lt m _ _ _ hm
  obtain ⟨g1, rfl, o1⟩ := open_int3 (hval 1 3 v1 rfl rfl) h1
  clear hA0 hval0
  refine (walk a0 len0 cap0 g0 g1 W o0 o1).mono fun e W' ⟨he, bel⟩ => ?_
  subst he
  exact ⟨_, rfl, _, _, _, [], _, [], hW', trodAll_mk1 (shut_bool Try.underlying4 _), (trodAll_cons_mk (Below.trod laidOut (by kernel_rfl) (of_decide_eq_true (by kernel_rfl)) k0 bel lt0) (trodAll_cons_mk (Below.trod laidOut (by kernel_rfl) (of_decide_eq_true (by kernel_rfl)) k1 bel lt1) trodAll_mk0)), rfl, bel.frame _, fun h => by cases h⟩

theorem over : Rows.kinTellsRow.holds Try.pinned (OpenSpec.ofChange Rows.kinTellsSpec) :=
  OpenClaim.holds_of_wide 3 Try.f3 rfl rfl rfl rfl rfl rfl rfl ⟨rfl, rfl, rfl, rfl, rfl⟩ rfl rfl rfl rfl rfl (by kernel_rfl) Try.func3 (by kernel_rfl)
    (of_decide_eq_true (by kernel_rfl)) (by unfold Func.isWrapper; first | (rw [if_pos (by decide +kernel)]; kernel_rfl) | (rw [if_neg (by decide +kernel)]; exact ⟨rfl, rfl⟩))
    (fun os started H enc _ => lifted os started H enc)

/-- The statement. -/
theorem proved : Rows.KinTellsSaid := over
#print axioms proved
end Go.Proofs.Ytdnohhcoapkhaaa.kinTells
