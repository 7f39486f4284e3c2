/- Proved: for every slice l of rectangles and all int64 x and y the law CoverJoins returns true, and its arguments read afterwards as before; no conditions. -/
import Derived.Test.YtckfdlolmenigaaRows
import Derived.WalkKit
import Derived.Test.YtckfdlolmenigaaAwake
import Derived.Test.YtckfdlolmenigaaRefIn
import Derived.Test.YtckfdlolmenigaaJoin
import Derived.Test.YtckfdlolmenigaaArgCap
import Derived.ProofKit
import Derived.OpenShut
import Derived.ShutString
import Derived.ChangeOld
import Derived.Below
namespace Go.Proofs.Ytckfdlolmenigaa.coverJoins
open Go.ChangeShapes Go.WideShapes Go.ChangeAt Go.RowKit
set_option linter.unusedVariables false

theorem own : ownKnob Try.prog.godebug = none := by kernel_rfl
theorem laidOut : laidOutB Try.prog = true := by kernel_rfl


set_option maxHeartbeats 8000000 in
theorem walk (ad : Option Addr) (n c : Nat) (rs : List R4) (x y : Int) (w : World) (h : RS w ad n rs ∧ n ≤ c) (_ : okN x) (_ : okN y) :
    Calls Try.prog 6 #[.slice ad n c, .int .i64 x, .int .i64 y] w fun e w' => e = .returned (.bool true) ∧ Below w.heap.size w w' := by
  rename_i hx1 hx2
  clear hx1 hx2
  obtain ⟨h, hc⟩ := h
  have HR := Lib.hid h
  clear h
  by_cases hn : 8 < n
  · have hn' : (8 : Int) < (n : Int) := by omega
    go_enter Try.func6, Try.ntmps6
    go_wp2_with fail
    refine (awake_any _).mono ?_
    rintro e wA ⟨rfl, hA⟩
    have sA : Seen w wA := hA
    clear hA
    go_wp2_with fail
    refine (awake_any _).mono ?_
    rintro e wB ⟨rfl, hB⟩
    go_wp2_with fail
    go_ret
    exact ⟨rfl, sA.next hB⟩
  · have hn' : ¬ (8 : Int) < (n : Int) := by omega
    obtain ⟨O, hO⟩ : ∃ O, joinTo rs n = O := ⟨_, rfl⟩
    obtain ⟨m, hm⟩ : ∃ m, O.length = m := ⟨_, rfl⟩
    have hm4 : m ≤ 256 := by rw [← hm, ← hO]; exact join_small HR.out.1 (Nat.le_refl _) (by omega)
    have HAp : Hid (apartB O = true) := by
      unfold Hid; rw [← hO]
      have := apart_join rs
      rwa [HR.out.1] at this
    have HIn : Hid (inB O x y = inB rs x y) := by
      unfold Hid; rw [← hO]
      have := in_join rs x y
      rwa [HR.out.1] at this
    have HO := Lib.hid hO
    have HM := Lib.hid hm
    clear hO hm
    go_enter Try.func6, Try.ntmps6
    go_wp2_with fail
    refine (awake_any _).mono ?_
    rintro e wA ⟨rfl, hwA⟩
    have sA : Seen w wA := hwA
    clear hwA
    go_wp2_with fail
    refine (join_any ad n c rs _ (HR.out.seen sA) (by omega)).mono ?_
    rintro e wB ⟨⟨v, rfl, hown⟩, hB⟩
    have sB : Seen w wB := sA.next hB
    rw [HO.out, HM.out] at hown
    obtain ⟨ado, co, rfl, hrs⟩ := rs_of_own hown HM.out
    have hmc : m ≤ co := row_capJ hown
    have HS := Lib.hid hrs
    clear hB hown hrs
    go_wp2_with fail
    refine (isB (apart_any _ _ _ O _ HS.out (by omega) hmc) HAp.out).mono ?_
    rintro e wC ⟨rfl, hC⟩
    have swC : Seen wB wC := hC
    clear hC
    go_wp2_with fail
    refine (refJoin_any ad n c rs _ (HR.out.seen (sB.trans swC)) (by omega)).mono ?_
    rintro e wD ⟨⟨v2, rfl, hown2⟩, hD⟩
    have swD : Seen wB wD := swC.next hD
    rw [HO.out, HM.out] at hown2
    obtain ⟨ad2, cc2, rfl, hrs2⟩ := rs_of_own hown2 HM.out
    have HS2 := Lib.hid hrs2
    clear hD hown2 hrs2
    go_wp2_with fail
    refine (refSame_any _ _ _ _ _ O _ (HS.out.seen swD) HS2.out (by omega)).mono ?_
    rintro e wE ⟨rfl, hE⟩
    have swE : Seen wB wE := swD.next hE
    clear hE
    rcases Bool.eq_false_or_eq_true (inB rs x y) with hb | hb
    all_goals
      have HB := Lib.hid hb
      clear hb
      go_wp2_with fail
      refine (isB (refIn_any ado m co O x y _ (HS.out.seen swE) (by omega)) (HIn.out.trans HB.out)).mono ?_
      rintro e wF ⟨rfl, hF⟩
      have swF : Seen wB wF := swE.next hF
      clear hF
      go_wp2_with fail
      refine (isB (refIn_any ad n c rs x y _ (HR.out.seen (sB.trans swF)) (by omega)) HB.out).mono ?_
      rintro e wG ⟨rfl, hG⟩
      have swG : Seen wB wG := swF.next hG
      clear hG
      go_wp2_with fail
      go_ret
      exact ⟨rfl, sB.trans swG⟩

/-! ### The row's step. -/
set_option maxRecDepth 100000 in
theorem lifted (os : Os) (started : os.Started) (H : Type) (enc : TypeId × Value → H) :
    ReturnsInHanded {} Try.checked os 6 .any (Rows.coverJoinsSpec.pre6 enc Try.prog Try.f6 Rows.coverJoinsRow.domain false) (Rows.coverJoinsSpec.post enc Try.prog Try.f6 false true false false) := by
  refine returnsInHanded_of_change (C := Try.checked) own started (by kernel_rfl) Try.func6
    (ChangeSpec.witness6 (enc := enc) (C := Try.checked) false ⟨#[], #[.slice none 0 0, .int .i64 0, .int .i64 0], []⟩ 8 (by kernel_rfl) (by kernel_rfl) (by kernel_rfl) (by kernel_rfl)) ?_
  intro W base args ds gs before hval0 hW hcnd _
  have hval : ∀ (j : Nat) t v, Try.f6.params[j]? = some t → args[j]? = some v → Value.okWide Try.prog W .any base t v := hval0
  have hW' := hW
  obtain ⟨p, q, hA0, hV, rfl, hfz, hnd⟩ := hW
  have hA : DataW.TrodAll enc Try.prog W 0 (fun _ => true) true Try.f6.params.toList args.toList ds p := hA0
  rw [Try.params6] at hA hval
  obtain ⟨v0, vs0, d0, ds0, p0, q0, hargs, rfl, rfl, h0, r0⟩ := trodAll_cons hA
  obtain ⟨v1, vs1, d1, ds1, p1, q1, rfl, rfl, rfl, h1, r1⟩ := trodAll_cons r0
  obtain ⟨v2, vs2, d2, ds2, p2, q2, rfl, rfl, rfl, h2, r2⟩ := trodAll_cons r1
  obtain ⟨rfl, rfl, rfl⟩ := trodAll_nil r2
  obtain rfl : args = #[v0, v1, v2] := by cases args; simp_all
  obtain ⟨rfl, rfl⟩ := trodVars_none hV
  have k0 := h0
  have lt0 : ∀ x ∈ p0, x.block < W.heap.size := by obtain ⟨m, hm⟩ := k0; exact DataW.trod_lt m _ _ _ hm
  obtain ⟨a0, len0, cap0, g0, rfl, o0⟩ := open_rowc (hval 0 24 v0 rfl rfl) h0
  have k1 := h1
  have lt1 : ∀ x ∈ p1, x.block < W.heap.size := by obtain ⟨m, hm⟩ := k1; exact DataW.trod_lt m _ _ _ hm
  obtain ⟨g1, rfl, o1⟩ := open_num (hval 1 2 v1 rfl rfl) h1
  have k2 := h2
  have lt2 : ∀ x ∈ p2, x.block < W.heap.size := by obtain ⟨m, hm⟩ := k2; exact DataW.trod_lt m _ _ _ hm
  obtain ⟨g2, rfl, o2⟩ := open_num (hval 2 2 v2 rfl rfl) h2
  clear hA0 hval0
  refine (walk a0 len0 cap0 g0 g1 g2 W o0 o1 o2).mono fun e W' ⟨he, bel⟩ => ?_
  subst he
  exact ⟨_, rfl, _, _, _, [], _, [], hW', trodAll_mk1 (shut_bool Try.underlying4 _), (trodAll_cons_mk (Below.trod laidOut (by kernel_rfl) (of_decide_eq_true (by kernel_rfl)) k0 bel lt0) (trodAll_cons_mk (Below.trod laidOut (by kernel_rfl) (of_decide_eq_true (by kernel_rfl)) k1 bel lt1) (trodAll_cons_mk (Below.trod laidOut (by kernel_rfl) (of_decide_eq_true (by kernel_rfl)) k2 bel lt2) trodAll_mk0))), rfl, bel.frame _, fun h => by cases h⟩

theorem over : Rows.coverJoinsRow.holds Try.pinned (OpenSpec.ofChange Rows.coverJoinsSpec) :=
  OpenClaim.holds_of_wide 6 Try.f6 rfl rfl rfl rfl rfl rfl rfl ⟨rfl, rfl, rfl, rfl, rfl⟩ rfl rfl rfl rfl rfl (by kernel_rfl) Try.func6 (by kernel_rfl)
    (of_decide_eq_true (by kernel_rfl)) (by unfold Func.isWrapper; first | (rw [if_pos (by decide +kernel)]; kernel_rfl) | (rw [if_neg (by decide +kernel)]; exact ⟨rfl, rfl⟩))
    (fun os started H enc _ => lifted os started H enc)

/-- The statement. -/
theorem proved : Rows.CoverJoinsSaid := over
#print axioms proved
end Go.Proofs.Ytckfdlolmenigaa.coverJoins
