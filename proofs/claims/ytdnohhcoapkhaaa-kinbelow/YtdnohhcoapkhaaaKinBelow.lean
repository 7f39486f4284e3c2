/- Proved: for every list of nodes and any two numbers the law KinBelow returns true, and its arguments read afterwards as before; no conditions. -/
import Derived.Test.YtdnohhcoapkhaaaRows
import Derived.WalkKit
import Derived.Test.YtdnohhcoapkhaaaKinAwake
import Derived.Test.YtdnohhcoapkhaaaRefKin2
import Derived.Test.YtdnohhcoapkhaaaOpenN
import Derived.ProofKit
import Derived.OpenShut
import Derived.ShutString
import Derived.ChangeOld
import Derived.Below
namespace Go.Proofs.Ytdnohhcoapkhaaa.kinBelow
open Go.ChangeShapes Go.WideShapes Go.ChangeAt Go.RowKit
set_option linter.unusedVariables false

theorem own : ownKnob Try.prog.godebug = none := by kernel_rfl
theorem laidOut : laidOutB Try.prog = true := by kernel_rfl


set_option maxRecDepth 100000 in
theorem bel_between_iff (l : List Nd) (i j : Int) : belV l i j = (decide (0 ≤ i) && (decide (i ≤ j) && decide (j < endV l i))) := by
  unfold belV
  cases hb : inB l i
  · have e : endV l i = 0 := by unfold endV; rw [hb]; rfl
    rw [e, Bool.false_and]
    symm
    rw [Bool.and_eq_false_iff, Bool.and_eq_false_iff, decide_eq_false_iff_not, decide_eq_false_iff_not, decide_eq_false_iff_not]
    omega
  · obtain ⟨k, hk, rfl⟩ := inB_iff.1 hb
    have e : decide ((0 : Int) ≤ (k : Int)) = true := decide_eq_true (by omega)
    rw [e]
set_option maxRecDepth 100000 in
set_option maxHeartbeats 8000000 in
theorem walk (a : Option Addr) (n c : Nat) (l : List Nd) (i j : Int) (w : World) (o : NS w a n l ∧ (∀ q ∈ l, OkN q) ∧ n ≤ c ∧ (a = none → c = 0)) (hi : -9223372036854775808 ≤ i ∧ i < 9223372036854775808) (hj : -9223372036854775808 ≤ j ∧ j < 9223372036854775808) :
    Calls Try.prog 4 #[.slice a n c, .int .i64 i, .int .i64 j] w fun e w' => e = .returned (.bool true) ∧ Below w.heap.size w w' := by
  have HS := Lib.hid o.1
  clear o hi hj
  by_cases hbig : (n : Int) > 60
  · go_enter Try.func4, Try.ntmps4
    have A0 := Lib.hid (awakeK_any w)
    go_wp2_with (first
      | (go_at_call 7; refine A0.out.mono ?_; clear A0; rintro _ w1 ⟨rfl, hs1⟩; have S1 : Hid (Seen w w1) := hs1; clear hs1)
      | (go_at_call 7; refine (awakeK_any w1).mono ?_; rintro _ w2 ⟨rfl, hs2⟩; have S2 : Hid (Seen w w2) := S1.out.trans hs2
         clear hs2))
    go_ret
    exact ⟨rfl, S2.out⟩
  · by_cases hc : checkT l = 0
    · have hf : FormedT l := check_formed hc
      have HO : Hid (∀ w', Seen w w' → Calls Try.prog 8 #[.slice a n c] w' fun e w'' => ∃ B G H, e = .returned (.tuple #[.pointer (some ⟨B, 0, none⟩), .int .i64 0]) ∧ (w'.heap.size ≤ B ∧ w'.heap.size ≤ G ∧ w'.heap.size ≤ H) ∧ KK w'' B G H l (endN l) ∧ Seen w' w'') := fun w' h' => of_yes a n c l w' (HS.out.seen h') hc hf (by omega)
      have HR : Hid (∀ w', Seen w w' → Calls Try.prog 14 #[.slice a n c, .int .i64 i, .int .i64 j] w' fun e w'' => e = .returned (.bool (belV l i j)) ∧ w'' = w') := fun w' h' => refBelow_any a n c l i j w' (HS.out.seen h') hf (by omega)
      have HB : Hid (∀ v w', KV w' v l → Calls Try.prog 13 #[v, .int .i64 i, .int .i64 j] w' fun e w'' => e = .returned (.bool (belV l i j)) ∧ Seen w' w'') := fun v w' h' => below_kin v l i j w' h'
      have HE : Hid (∀ v w', KV w' v l → Calls Try.prog 12 #[v, .int .i64 i] w' fun e w'' => e = .returned (.int .i64 (endV l i : Nat)) ∧ Seen w' w'') := fun v w' h' => by
        have := end_kin v l i w' h'
        rw [plAt_stop] at this
        exact this
      have HL : Hid (l.length ≤ 65535) := by have := HS.out.1; unfold Hid; omega
      have HF := Lib.hid hf
      have hbe := bel_between_iff l i j
      obtain ⟨X, hX⟩ : ∃ X, belV l i j = X := ⟨_, rfl⟩
      obtain ⟨E, hE⟩ : ∃ E, endV l i = E := ⟨_, rfl⟩
      rw [hX] at HR HB hbe
      rw [hE] at HE hbe
      clear hX hE hc hf HS
      by_cases h1 : 0 ≤ i
      · by_cases h2 : i ≤ j
        · by_cases h3 : j < (E : Int)
          · have hx : X = true := by rw [hbe]; simp; omega
            subst hx
            clear hbe
            have G1 : Hid (0 = 0) := rfl
            go_enter Try.func4, Try.ntmps4
            have A0 := Lib.hid (awakeK_any w)
            go_wp2_with (first
              | (go_at_call 7; refine A0.out.mono ?_; clear A0; rintro _ w1 ⟨rfl, hs1⟩; have S1 : Hid (Seen w w1) := hs1; clear hs1)
              | (go_at_call 8; refine (HO.out w1 S1.out).mono ?_; clear HO; rintro _ w2 ⟨B, G, H, rfl, _, hk2, hs2⟩; have S2 : Hid (Seen w w2) := S1.out.trans hs2; have K2 := Lib.hid (hk2.kv HF.out HL.out); clear hs2 hk2)
              | (go_at_call 12; refine (HE.out _ w2 K2.out).mono ?_; clear HE; rintro _ w3 ⟨rfl, hs3⟩; have S3 : Hid (Seen w w3) := S2.out.trans hs3; have K3 := Lib.hid (K2.out.seen hs3); clear hs3)
              | (go_at_call 13; have gg := G1.out; clear gg; refine (HB.out _ w3 K3.out).mono ?_; clear G1; rintro _ w4 ⟨rfl, hs4⟩; have S4 : Hid (Seen w w4) := S3.out.trans hs4; have K4 := Lib.hid ((K3.out).seen hs4); clear hs4)
              | (go_at_call 14; refine (HR.out w4 S4.out).mono ?_; clear HR; rintro _ w5 ⟨rfl, hw5⟩; rw [hw5]; clear hw5)
              | (go_at_call 13; refine (HB.out _ w4 K4.out).mono ?_; clear HB; rintro _ w6 ⟨rfl, hs6⟩; have S6 : Hid (Seen w w6) := S4.out.trans hs6; clear hs6))
            go_ret
            exact ⟨by first | rfl | (simp; omega), S6.out⟩
          · have hx : X = false := by rw [hbe]; simp; omega
            subst hx
            clear hbe
            have G1 : Hid (0 = 0) := rfl
            go_enter Try.func4, Try.ntmps4
            have A0 := Lib.hid (awakeK_any w)
            go_wp2_with (first
              | (go_at_call 7; refine A0.out.mono ?_; clear A0; rintro _ w1 ⟨rfl, hs1⟩; have S1 : Hid (Seen w w1) := hs1; clear hs1)
              | (go_at_call 8; refine (HO.out w1 S1.out).mono ?_; clear HO; rintro _ w2 ⟨B, G, H, rfl, _, hk2, hs2⟩; have S2 : Hid (Seen w w2) := S1.out.trans hs2; have K2 := Lib.hid (hk2.kv HF.out HL.out); clear hs2 hk2)
              | (go_at_call 12; refine (HE.out _ w2 K2.out).mono ?_; clear HE; rintro _ w3 ⟨rfl, hs3⟩; have S3 : Hid (Seen w w3) := S2.out.trans hs3; have K3 := Lib.hid (K2.out.seen hs3); clear hs3)
              | (go_at_call 13; have gg := G1.out; clear gg; refine (HB.out _ w3 K3.out).mono ?_; clear G1; rintro _ w4 ⟨rfl, hs4⟩; have S4 : Hid (Seen w w4) := S3.out.trans hs4; have K4 := Lib.hid ((K3.out).seen hs4); clear hs4)
              | (go_at_call 14; refine (HR.out w4 S4.out).mono ?_; clear HR; rintro _ w5 ⟨rfl, hw5⟩; rw [hw5]; clear hw5)
              | (go_at_call 13; refine (HB.out _ w4 K4.out).mono ?_; clear HB; rintro _ w6 ⟨rfl, hs6⟩; have S6 : Hid (Seen w w6) := S4.out.trans hs6; clear hs6))
            go_ret
            exact ⟨by first | rfl | (simp; omega), S6.out⟩
        · have hx : X = false := by rw [hbe]; simp; omega
          subst hx
          clear hbe
          have G1 : Hid (0 = 0) := rfl
          go_enter Try.func4, Try.ntmps4
          have A0 := Lib.hid (awakeK_any w)
          go_wp2_with (first
            | (go_at_call 7; refine A0.out.mono ?_; clear A0; rintro _ w1 ⟨rfl, hs1⟩; have S1 : Hid (Seen w w1) := hs1; clear hs1)
            | (go_at_call 8; refine (HO.out w1 S1.out).mono ?_; clear HO; rintro _ w2 ⟨B, G, H, rfl, _, hk2, hs2⟩; have S2 : Hid (Seen w w2) := S1.out.trans hs2; have K2 := Lib.hid (hk2.kv HF.out HL.out); clear hs2 hk2)
            | (go_at_call 13; have gg := G1.out; clear gg; refine (HB.out _ w2 K2.out).mono ?_; clear G1; rintro _ w4 ⟨rfl, hs4⟩; have S4 : Hid (Seen w w4) := S2.out.trans hs4; have K4 := Lib.hid ((K2.out).seen hs4); clear hs4)
            | (go_at_call 14; refine (HR.out w4 S4.out).mono ?_; clear HR; rintro _ w5 ⟨rfl, hw5⟩; rw [hw5]; clear hw5)
            | (go_at_call 13; refine (HB.out _ w4 K4.out).mono ?_; clear HB; rintro _ w6 ⟨rfl, hs6⟩; have S6 : Hid (Seen w w6) := S4.out.trans hs6; clear hs6))
          go_ret
          exact ⟨by first | rfl | (simp; omega), S6.out⟩
      · have hx : X = false := by rw [hbe]; simp; omega
        subst hx
        clear hbe
        have G1 : Hid (0 = 0) := rfl
        go_enter Try.func4, Try.ntmps4
        have A0 := Lib.hid (awakeK_any w)
        go_wp2_with (first
          | (go_at_call 7; refine A0.out.mono ?_; clear A0; rintro _ w1 ⟨rfl, hs1⟩; have S1 : Hid (Seen w w1) := hs1; clear hs1)
          | (go_at_call 8; refine (HO.out w1 S1.out).mono ?_; clear HO; rintro _ w2 ⟨B, G, H, rfl, _, hk2, hs2⟩; have S2 : Hid (Seen w w2) := S1.out.trans hs2; have K2 := Lib.hid (hk2.kv HF.out HL.out); clear hs2 hk2)
          | (go_at_call 13; have gg := G1.out; clear gg; refine (HB.out _ w2 K2.out).mono ?_; clear G1; rintro _ w4 ⟨rfl, hs4⟩; have S4 : Hid (Seen w w4) := S2.out.trans hs4; have K4 := Lib.hid ((K2.out).seen hs4); clear hs4)
          | (go_at_call 14; refine (HR.out w4 S4.out).mono ?_; clear HR; rintro _ w5 ⟨rfl, hw5⟩; rw [hw5]; clear hw5)
          | (go_at_call 13; refine (HB.out _ w4 K4.out).mono ?_; clear HB; rintro _ w6 ⟨rfl, hs6⟩; have S6 : Hid (Seen w w6) := S4.out.trans hs6; clear hs6))
        go_ret
        exact ⟨by first | rfl | (simp; omega), S6.out⟩
    · have HO : Hid (∀ w', Seen w w' → Calls Try.prog 8 #[.slice a n c] w' fun e w'' => e = .returned (.tuple #[.pointer none, .int .i64 (checkT l)]) ∧ Seen w' w'') := fun w' h' => of_no a n c l w' (HS.out.seen h') (by omega) hc
      obtain ⟨C, hC⟩ : ∃ C, checkT l = C := ⟨_, rfl⟩
      rw [hC] at HO hc
      have hb : (C == 0) = false := by simpa using hc
      clear hC hc HS
      go_enter Try.func4, Try.ntmps4
      have A0 := Lib.hid (awakeK_any w)
      go_wp2_with (first
        | (go_at_call 7; refine A0.out.mono ?_; clear A0; rintro _ w1 ⟨rfl, hs1⟩; have S1 : Hid (Seen w w1) := hs1; clear hs1)
        | (go_at_call 8; refine (HO.out w1 S1.out).mono ?_; clear HO; rintro _ w2 ⟨rfl, hs2⟩; have S2 : Hid (Seen w w2) := S1.out.trans hs2
           clear hs2))
      go_ret
      exact ⟨rfl, S2.out⟩

/-! ### The row's step. -/
set_option maxRecDepth 100000 in
theorem lifted (os : Os) (started : os.Started) (H : Type) (enc : TypeId × Value → H) :
    ReturnsInHanded {} Try.checked os 4 .any (Rows.kinBelowSpec.pre6 enc Try.prog Try.f4 Rows.kinBelowRow.domain false) (Rows.kinBelowSpec.post enc Try.prog Try.f4 false true false false) := by
  refine returnsInHanded_of_change (C := Try.checked) own started (by kernel_rfl) Try.func4
    (ChangeSpec.witness6 (enc := enc) (C := Try.checked) false ⟨#[], #[.slice none 0 0, .int .i64 0, .int .i64 0], []⟩ 8 (by kernel_rfl) (by kernel_rfl) (by kernel_rfl) (by kernel_rfl)) ?_
  intro W base args ds gs before hval0 hW hcnd _
  have hval : ∀ (j : Nat) t v, Try.f4.params[j]? = some t → args[j]? = some v → Value.okWide Try.prog W .any base t v := hval0
  have hW' := hW
  obtain ⟨p, q, hA0, hV, rfl, hfz, hnd⟩ := hW
  have hA : DataW.TrodAll enc Try.prog W 0 (fun _ => true) true Try.f4.params.toList args.toList ds p := hA0
  rw [Try.params4] at hA hval
  obtain ⟨v0, vs0, d0, ds0, p0, q0, hargs, rfl, rfl, h0, r0⟩ := trodAll_cons hA
  obtain ⟨v1, vs1, d1, ds1, p1, q1, rfl, rfl, rfl, h1, r1⟩ := trodAll_cons r0
  obtain ⟨v2, vs2, d2, ds2, p2, q2, rfl, rfl, rfl, h2, r2⟩ := trodAll_cons r1
  obtain ⟨rfl, rfl, rfl⟩ := trodAll_nil r2
  obtain rfl : args = #[v0, v1, v2] := by cases args; simp_all
  obtain ⟨rfl, rfl⟩ := trodVars_none hV
  have k0 := h0
  have lt0 : ∀ x ∈ p0, x.block < W.heap.size := by obtain ⟨m, hm⟩ := k0; exact DataW.trod_lt m _ _ _ hm
  obtain ⟨a0, len0, cap0, g0, rfl, o0⟩ := open_nodes (hval 0 22 v0 rfl rfl) h0
  have k1 := h1
  have lt1 : ∀ x ∈ p1, x.block < W.heap.size := by obtain ⟨m, hm⟩ := k1; exact DataW.trod_lt m _ _ _ hm
  obtain ⟨g1, rfl, o1⟩ := open_int3 (hval 1 3 v1 rfl rfl) h1
  have k2 := h2
  have lt2 : ∀ x ∈ p2, x.block < W.heap.size := by obtain ⟨m, hm⟩ := k2; exact DataW.trod_lt m _ _ _ hm
  obtain ⟨g2, rfl, o2⟩ := open_int3 (hval 2 3 v2 rfl rfl) h2
  clear hA0 hval0
  refine (walk a0 len0 cap0 g0 g1 g2 W o0 o1 o2).mono fun e W' ⟨he, bel⟩ => ?_
  subst he
  exact ⟨_, rfl, _, _, _, [], _, [], hW', trodAll_mk1 (shut_bool Try.underlying4 _), (trodAll_cons_mk (Below.trod laidOut (by kernel_rfl) (of_decide_eq_true (by kernel_rfl)) k0 bel lt0) (trodAll_cons_mk (Below.trod laidOut (by kernel_rfl) (of_decide_eq_true (by kernel_rfl)) k1 bel lt1) (trodAll_cons_mk (Below.trod laidOut (by kernel_rfl) (of_decide_eq_true (by kernel_rfl)) k2 bel lt2) trodAll_mk0))), rfl, bel.frame _, fun h => by cases h⟩

theorem over : Rows.kinBelowRow.holds Try.pinned (OpenSpec.ofChange Rows.kinBelowSpec) :=
  OpenClaim.holds_of_wide 4 Try.f4 rfl rfl rfl rfl rfl rfl rfl ⟨rfl, rfl, rfl, rfl, rfl⟩ rfl rfl rfl rfl rfl (by kernel_rfl) Try.func4 (by kernel_rfl)
    (of_decide_eq_true (by kernel_rfl)) (by unfold Func.isWrapper; first | (rw [if_pos (by decide +kernel)]; kernel_rfl) | (rw [if_neg (by decide +kernel)]; exact ⟨rfl, rfl⟩))
    (fun os started H enc _ => lifted os started H enc)

/-- The statement. -/
theorem proved : Rows.KinBelowSaid := over
#print axioms proved
end Go.Proofs.Ytdnohhcoapkhaaa.kinBelow
