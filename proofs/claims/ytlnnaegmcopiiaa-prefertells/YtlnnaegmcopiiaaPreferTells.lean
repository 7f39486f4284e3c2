/- Proved: for every list of nodes and any node the law PreferTells returns true, and its arguments read afterwards as before; no conditions. -/
import Derived.Test.YtlnnaegmcopiiaaRows
import Derived.WalkKit
import Derived.Test.YtlnnaegmcopiiaaM27
import Derived.Test.YtlnnaegmcopiiaaM28
import Derived.Test.YtlnnaegmcopiiaaM18
import Derived.Test.YtlnnaegmcopiiaaM20
import Derived.Test.YtlnnaegmcopiiaaM22
import Derived.Test.YtlnnaegmcopiiaaM26
import Derived.ProofKit
import Derived.OpenShut
import Derived.ShutString
import Derived.ChangeOld
import Derived.Below
namespace Go.Proofs.Ytlnnaegmcopiiaa.preferTells
open Go.ChangeShapes Go.WideShapes Go.ChangeAt Go.RowKit
set_option linter.unusedVariables false

theorem own : ownKnob Try.prog.godebug = none := by kernel_rfl
theorem laidOut : laidOutB Try.prog = true := by kernel_rfl


set_option maxRecDepth 100000 in
set_option maxHeartbeats 8000000 in
theorem walk (a : Option Addr) (n c : Nat) (l : List Nd) (m : Int) (w : World) (o : NS w a n l ∧ (∀ q ∈ l, OkN q) ∧ n ≤ c ∧ (a = none → c = 0)) (hm : -9223372036854775808 ≤ m ∧ m < 9223372036854775808) :
    Calls Try.prog 3 #[.slice a n c, .int .i64 m] w fun e w' => e = .returned (.bool true) ∧ Below w.heap.size w w' := by
  have HS := Lib.hid o.1
  have HL : Hid (l.length = n) := o.1.1
  have A0 := Lib.hid (awake_any15 w)
  clear o hm
  by_cases hbig : (n : Int) > 30
  · go_enter Try.func3, Try.ntmps3
    go_wp2_with (first
      | (go_at_call 5; refine A0.out.mono ?_; clear A0; rintro _ w1 ⟨rfl, hs1⟩; have S1 : Hid (Seen w w1) := hs1; clear hs1)
      | (go_at_call 5; refine (awake_any15 w1).mono ?_; rintro _ w2 ⟨rfl, hs2⟩; have S2 : Hid (Seen w w2) := S1.out.trans hs2; clear hs2))
    go_ret
    exact ⟨rfl, S2.out⟩
  · have HC := Lib.hid fun w' h' => refCheck_any a n c l w' (HS.out.seen h') (by omega)
    by_cases hc : checkT l = 0
    · have hf : FormedT l := check_formed hc
      rw [hc] at HC
      have HO := Lib.hid fun w' h' => of_yes a n c l w' (HS.out.seen h') hc hf (by omega)
      have HR := Lib.hid fun w' h' => refContent_any a n c m w' (HS.out.seen h') hf (by omega)
      have HB := Lib.hid fun v w' (h' : KV w' v l) => content_any m w' h'
      have HKV := Lib.hid fun w' B G H (h' : KK w' B G H l (endN l)) => h'.kv hf (by have := HL.out; omega)
      obtain ⟨ans, hans⟩ : ∃ q, prefO l m = q := ⟨_, rfl⟩
      rw [hans] at HB HR
      clear hans hc hf
      cases ans with
      | none =>
        have HB : Hid (∀ v w', KV w' v l → Calls Try.prog 8 #[v, .int .i64 m] w' fun e w'' => e = .returned (.tuple #[.int .i64 0, .bool false]) ∧ Seen w' w'') := HB
        have HR : Hid (∀ w', Seen w w' → Calls Try.prog 9 #[.slice a n c, .int .i64 m] w' fun e w'' => e = .returned (.tuple #[.int .i64 0, .bool false]) ∧ Seen w' w'') := HR
        go_enter Try.func3, Try.ntmps3
        go_wp2_with (first
          | (go_at_call 5; refine A0.out.mono ?_; clear A0; rintro _ w1 ⟨rfl, hs1⟩; have S1 : Hid (Seen w w1) := hs1; clear hs1)
          | (go_at_call 6; refine (HC.out w1 S1.out).mono ?_; clear HC; rintro _ w2 ⟨rfl, hs2⟩; have S2 : Hid (Seen w w2) := S1.out.trans hs2; clear hs2)
          | (go_at_call 7; refine (HO.out w2 S2.out).mono ?_; clear HO; rintro _ w3 ⟨B, G, H, rfl, _, hk3, hs3⟩; have S3 : Hid (Seen w w3) := S2.out.trans hs3; have K3 := Lib.hid (HKV.out _ _ _ _ hk3); clear hs3 hk3)
          | (go_at_call 8; refine (HB.out _ w3 K3.out).mono ?_; clear HB; rintro _ w4 ⟨rfl, hs4⟩; have S4 : Hid (Seen w w4) := S3.out.trans hs4; clear hs4)
          | (go_at_call 9; refine (HR.out w4 S4.out).mono ?_; clear HR; rintro _ w5 ⟨rfl, hs5⟩; have S5 : Hid (Seen w w5) := S4.out.trans hs5; clear hs5))
        go_ret
        exact ⟨rfl, S5.out⟩
      | some x =>
        have HB : Hid (∀ v w', KV w' v l → Calls Try.prog 8 #[v, .int .i64 m] w' fun e w'' => e = .returned (.tuple #[.int .i64 x, .bool true]) ∧ Seen w' w'') := HB
        have HR : Hid (∀ w', Seen w w' → Calls Try.prog 9 #[.slice a n c, .int .i64 m] w' fun e w'' => e = .returned (.tuple #[.int .i64 x, .bool true]) ∧ Seen w' w'') := HR
        go_enter Try.func3, Try.ntmps3
        go_wp2_with (first
          | (go_at_call 5; refine A0.out.mono ?_; clear A0; rintro _ w1 ⟨rfl, hs1⟩; have S1 : Hid (Seen w w1) := hs1; clear hs1)
          | (go_at_call 6; refine (HC.out w1 S1.out).mono ?_; clear HC; rintro _ w2 ⟨rfl, hs2⟩; have S2 : Hid (Seen w w2) := S1.out.trans hs2; clear hs2)
          | (go_at_call 7; refine (HO.out w2 S2.out).mono ?_; clear HO; rintro _ w3 ⟨B, G, H, rfl, _, hk3, hs3⟩; have S3 : Hid (Seen w w3) := S2.out.trans hs3; have K3 := Lib.hid (HKV.out _ _ _ _ hk3); clear hs3 hk3)
          | (go_at_call 8; refine (HB.out _ w3 K3.out).mono ?_; clear HB; rintro _ w4 ⟨rfl, hs4⟩; have S4 : Hid (Seen w w4) := S3.out.trans hs4; clear hs4)
          | (go_at_call 9; refine (HR.out w4 S4.out).mono ?_; clear HR; rintro _ w5 ⟨rfl, hs5⟩; have S5 : Hid (Seen w w5) := S4.out.trans hs5; clear hs5))
        go_ret
        exact ⟨rfl, S5.out⟩
    · have hcb : (checkT l == 0) = false := by simpa using hc
      obtain ⟨K, hK⟩ : ∃ q, checkT l = q := ⟨_, rfl⟩
      rw [hK] at HC hc hcb
      have hne : (K != 0) = true := by simpa using hc
      clear hK
      go_enter Try.func3, Try.ntmps3
      go_wp2_with (first
        | (go_at_call 5; refine A0.out.mono ?_; clear A0; rintro _ w1 ⟨rfl, hs1⟩; have S1 : Hid (Seen w w1) := hs1; clear hs1)
        | (go_at_call 6; refine (HC.out w1 S1.out).mono ?_; clear HC; rintro _ w2 ⟨rfl, hs2⟩; have S2 : Hid (Seen w w2) := S1.out.trans hs2; clear hs2)
        | (go_at_call 5; refine (awake_any15 w2).mono ?_; rintro _ w3 ⟨rfl, hs3⟩; have S3 : Hid (Seen w w3) := S2.out.trans hs3; clear hs3))
      go_ret
      exact ⟨rfl, S3.out⟩
/-! ### The row's step. -/
set_option maxRecDepth 100000 in
theorem lifted (os : Os) (started : os.Started) (H : Type) (enc : TypeId × Value → H) :
    ReturnsInHanded {} Try.checked os 3 .any (Rows.preferTellsSpec.pre6 enc Try.prog Try.f3 Rows.preferTellsRow.domain false) (Rows.preferTellsSpec.post enc Try.prog Try.f3 false true false false) := by
  refine returnsInHanded_of_change (C := Try.checked) own started (by kernel_rfl) Try.func3
    (ChangeSpec.witness6 (enc := enc) (C := Try.checked) false ⟨#[], #[.slice none 0 0, .int .i64 0], []⟩ 8 (by kernel_rfl) (by kernel_rfl) (by kernel_rfl) (by kernel_rfl)) ?_
  intro W base args ds gs before hval0 hW hcnd _
  have hval : ∀ (j : Nat) t v, Try.f3.params[j]? = some t → args[j]? = some v → Value.okWide Try.prog W .any base t v := hval0
  have hW' := hW
  obtain ⟨p, q, hA0, hV, rfl, hfz, hnd⟩ := hW
  have hA : DataW.TrodAll enc Try.prog W 0 (fun _ => true) true Try.f3.params.toList args.toList ds p := hA0
  rw [Try.params3] at hA hval
  obtain ⟨v0, vs0, d0, ds0, p0, q0, hargs, rfl, rfl, h0, r0⟩ := trodAll_cons hA
  obtain ⟨v1, vs1, d1, ds1, p1, q1, rfl, rfl, rfl, h1, r1⟩ := trodAll_cons r0
  obtain ⟨rfl, rfl, rfl⟩ := trodAll_nil r1
  obtain rfl : args = #[v0, v1] := by cases args; simp_all
  obtain ⟨rfl, rfl⟩ := trodVars_none hV
  have k0 := h0
  have lt0 : ∀ x ∈ p0, x.block < W.heap.size := by obtain ⟨m, hm⟩ := k0; exact DataW.trod_lt m _ _ _ hm
  obtain ⟨a0, len0, cap0, g0, rfl, o0⟩ := open_nodes (hval 0 22 v0 rfl rfl) h0
  have k1 := h1
  have lt1 : ∀ x ∈ p1, x.block < W.heap.size := by obtain ⟨m, hm⟩ := k1; exact DataW.trod_lt m _ _ _ hm
  obtain ⟨g1, rfl, o1⟩ := open_int3 (hval 1 3 v1 rfl rfl) h1
  clear hA0 hval0
  refine (walk a0 len0 cap0 g0 g1 W o0 o1).mono fun e W' ⟨he, bel⟩ => ?_
  subst he
  exact ⟨_, rfl, _, _, _, [], _, [], hW', trodAll_mk1 (shut_bool Try.underlying4 _), (trodAll_cons_mk (Below.trod laidOut (by kernel_rfl) (of_decide_eq_true (by kernel_rfl)) k0 bel lt0) (trodAll_cons_mk (Below.trod laidOut (by kernel_rfl) (of_decide_eq_true (by kernel_rfl)) k1 bel lt1) trodAll_mk0)), rfl, bel.frame _, fun h => by cases h⟩

theorem over : Rows.preferTellsRow.holds Try.pinned (OpenSpec.ofChange Rows.preferTellsSpec) :=
  OpenClaim.holds_of_wide 3 Try.f3 rfl rfl rfl rfl rfl rfl rfl ⟨rfl, rfl, rfl, rfl, rfl⟩ rfl rfl rfl rfl rfl (by kernel_rfl) Try.func3 (by kernel_rfl)
    (of_decide_eq_true (by kernel_rfl)) (by unfold Func.isWrapper; first | (rw [if_pos (by decide +kernel)]; kernel_rfl) | (rw [if_neg (by decide +kernel)]; exact ⟨rfl, rfl⟩))
    (fun os started H enc _ => lifted os started H enc)

/-- The statement. -/
theorem proved : Rows.PreferTellsSaid := over
#print axioms proved
end Go.Proofs.Ytlnnaegmcopiiaa.preferTells
