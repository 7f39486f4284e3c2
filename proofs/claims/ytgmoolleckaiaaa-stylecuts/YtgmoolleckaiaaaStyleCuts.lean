/- Proved: for every style s and every number at the law StyleCuts returns true, and its arguments read afterwards as before; no conditions. -/
import Derived.Test.YtgmoolleckaiaaaRows
import Derived.WalkKit
import Derived.Test.YtgmoolleckaiaaaCutsBase
import Derived.Test.YtgmoolleckaiaaaRefFormed
import Derived.ProofKit
import Derived.OpenShut
import Derived.ShutString
import Derived.ChangeOld
import Derived.Below
namespace Go.Proofs.Ytgmoolleckaiaaa.styleCuts
open Go.ChangeShapes Go.WideShapes Go.ChangeAt Go.RowKit
set_option linter.unusedVariables false

theorem own : ownKnob Try.prog.godebug = none := by kernel_rfl
theorem laidOut : laidOutB Try.prog = true := by kernel_rfl


set_option maxRecDepth 100000 in
set_option maxHeartbeats 8000000 in
theorem walk (s : Sty) (n : Int) (w : World) (os : OkS s) (on : 0 ≤ n ∧ n < 65536) :
    Calls Try.prog 6 #[sv s, .int .u16 n] w fun e w' => e = .returned (.bool true) ∧ Below w.heap.size w w' := by
  have HF := Lib.hid os.full
  have HO := Lib.hid os
  obtain ⟨hn0, hn1⟩ := on
  clear os
  obtain ⟨W, hW⟩ : ∃ W, W = w.alloc (.cells (stl s).toArray 27) := ⟨_, rfl⟩
  have H0 : Hid (Hs W w.heap.size s) := by rw [hW]; exact hs_new w s
  have S0 : Hid (Seen w W) := by rw [hW]; exact (Seen.refl w).alloc _
  obtain ⟨fb, hfb⟩ : ∃ fb, formedB s = fb := ⟨_, rfl⟩
  have HB := Lib.hid (And.intro hfb trivial)
  clear hfb
  have fl : Hid (0 = 0) := rfl
  unfold sv
  cases fb
  · go_enter Try.func6, Try.ntmps6
    go_wp2_with (first
      | (go_at_call 7; rw [← hW]; clear hW; refine (awake_any W).mono ?_; rintro _ w1 ⟨rfl, b1⟩; have S1 : Hid (Seen W w1) := b1
         clear b1)
      | (clear fl; refine wpList_loadSg ?_ (.tmp 2) rfl w.heap.size s rfl HF.out (H0.out.seen S1.out) ?_; focus (go_simp; done))
      | (go_at_call 9; refine (refFormed_any s HF.out w1).mono ?_; rintro _ w2 ⟨rfl, hs2⟩; rw [HB.out.1]
         have S2 : Hid (Seen W w2) := S1.out.trans hs2
         clear hs2)
      | (go_at_call 7; refine (awake_any w2).mono ?_; rintro _ w3 ⟨rfl, b3⟩; have S3 : Hid (Seen W w3) := S2.out.trans b3
         clear b3))
    go_ret
    exact ⟨rfl, S0.out.trans S3.out⟩
  · have HP : Hid (FormedP s) := of_decide_eq_true (p := FormedP s) HB.out.1
    have hpos := encS_pos s
    have hlen := encS_len HF.out
    obtain ⟨L, hL⟩ : ∃ L, (encS s).length = L := ⟨_, rfl⟩
    rw [hL] at hpos hlen
    obtain ⟨m, hm⟩ : ∃ m : Nat, n % (L : Int) = (m : Int) := ⟨(n % (L : Int)).toNat, (Int.toNat_of_nonneg (Int.emod_nonneg _ (by omega))).symm⟩
    have hmL : m < L := by have := Int.emod_lt_of_pos n (show (0 : Int) < L by omega); omega
    have HCut : Hid (getOk ⟨(encS s).take m, false⟩ = false ∧ True) := ⟨get_cut HO.out HP.out (by rw [hL]; exact hmL), trivial⟩
    have HGV : Hid (getV ⟨(encS s).take m, false⟩ = zeroS ∧ getE ⟨(encS s).take m, false⟩ = ⟨[], true⟩) := getV_no HCut.out.1
    have ht : n.tmod (L : Int) = (m : Int) := by rw [Int.tmod_eq_emod_of_nonneg hn0]; exact hm
    have hL0 : ((L : Int) == 0) = false := by rw [beq_eq_false_iff_ne]; omega
    have HL := Lib.hid hL
    clear hL hm HCut
    have fl2 : Hid (0 = 0) := rfl
    go_enter Try.func6, Try.ntmps6
    go_wp2_with (first
      | (go_at_call 7; rw [← hW]; clear hW; refine (awake_any W).mono ?_; rintro _ w1 ⟨rfl, b1⟩; have S1 : Hid (Seen W w1) := b1
         clear b1)
      | (clear fl; refine wpList_loadSg ?_ (.tmp 2) rfl w.heap.size s rfl HF.out (H0.out.seen S1.out) ?_; focus (go_simp; done))
      | (go_at_call 9; refine (refFormed_any s HF.out w1).mono ?_; rintro _ w2 ⟨rfl, hs2⟩; rw [HB.out.1]
         have S2 : Hid (Seen W w2) := S1.out.trans hs2
         clear hs2)
      | (have gg := S2.out; clear gg; clear fl2; refine wpList_loadS rfl (.tmp 2) rfl w.heap.size s rfl HF.out (H0.out.seen S2.out) ?_)
      | (go_at_call 15; refine (refBytes_any s HF.out ⟨HP.out.2.2.2.2.1, HP.out.2.2.2.2.2.1⟩ w2).mono ?_; rintro _ w3 ⟨⟨v3, rfl, ho3⟩, hs3⟩
         rw [HL.out] at ho3
         obtain ⟨a3, c3, rfl, hb3, hc3, hn3⟩ := bs_of_own ho3 HL.out
         obtain ⟨b3, o3, rfl, _⟩ := hb3.2 hpos
         have S3 : Hid (Seen W w3) := S2.out.trans hs3
         have B3 := Lib.hid (head_bs hb3 (Nat.le_of_lt hmL))
         have r1 := run_head (some ⟨b3, o3, none⟩) L c3 m (by omega)
         have r2 := run_headAt (some ⟨b3, o3, none⟩) L c3 m (by omega)
         rw [headA_some] at r1 r2
         clear ho3 hs3 hb3 hn3)
      | (go_at_call 14; refine (newIn_any (some ⟨b3, o3, none⟩) m c3 _ w3 B3.out ((encS_ok s).take m) (fun e => by cases e) (by omega)).mono ?_; rintro _ w4 ⟨B, K, rfl, hi4, hk4, hs4⟩
         have I4 : Hid (IT K B ⟨(encS s).take m, false⟩ w4) := hi4
         have S4 : Hid (Seen W w4) := S3.out.trans hs4
         have HB4 : Hid (W.heap.size ≤ B) := Nat.le_trans S3.out.size (hk4 B hi4.1)
         have z1 := eq_zero
         have z2 := guard_zero
         clear hi4 hk4 hs4 r1 r2)
      | (go_at_call 16; refine (get_any I4.out).mono ?_; rintro _ w5 ⟨rfl, ht5, hi5⟩
         rw [HGV.out.2] at hi5
         rw [HGV.out.1]
         have I5 := Lib.hid hi5
         have S5 : Hid (Seen W w5) := S4.out.turns ht5 HB4.out
         clear ht5 hi5)
      | (go_at_call 17; refine (bad_any I5.out).mono ?_; rintro _ w6 ⟨rfl, hw6⟩; subst hw6))
    go_ret
    exact ⟨rfl, S0.out.trans S5.out⟩

/-! ### The row's step. -/
set_option maxRecDepth 100000 in
theorem lifted (os : Os) (started : os.Started) (H : Type) (enc : TypeId × Value → H) :
    ReturnsInHanded {} Try.checked os 6 .any (Rows.styleCutsSpec.pre6 enc Try.prog Try.f6 Rows.styleCutsRow.domain false) (Rows.styleCutsSpec.post enc Try.prog Try.f6 false true false false) := by
  refine returnsInHanded_of_change (C := Try.checked) own started (by kernel_rfl) Try.func6
    (ChangeSpec.witness6 (enc := enc) (C := Try.checked) false ⟨#[], #[.agg #[.bool false, .int .i64 0, .int .i64 0, .int .i64 0, .int .i64 0, .int .i64 0, .int .i64 0, .int .i64 0, .int .i64 0, .int .i64 0, .int .i64 0, .int .i64 0, .int .i64 0, .int .i64 0, .int .i64 0, .int .i64 0, .int .i64 0, .int .i64 0, .int .i64 0, .int .i64 0, .int .i64 0, .int .i64 0, .int .i64 0, .int .i64 0, .int .i64 0, .int .i64 0, .int .i64 0, .int .i64 0, .int .i64 0, .int .i64 0, .int .i64 0, .int .i64 0, .int .i64 0, .int .i64 0, .int .i64 0, .int .i64 0, .int .i64 0, .int .i64 0, .int .i64 0, .int .i64 0, .int .i64 0, .int .i64 0, .bool false, .bool false, .int .i64 0, .bool false, .int .i64 0, .int .i64 0], .int .u16 0], []⟩ 8 (by kernel_rfl) (by kernel_rfl) (by kernel_rfl) (by kernel_rfl)) ?_
  intro W base args ds gs before hval0 hW hcnd _
  have hval : ∀ (j : Nat) t v, Try.f6.params[j]? = some t → args[j]? = some v → Value.okWide Try.prog W .any base t v := hval0
  have hW' := hW
  obtain ⟨p, q, hA0, hV, rfl, hfz, hnd⟩ := hW
  have hA : DataW.TrodAll enc Try.prog W 0 (fun _ => true) true Try.f6.params.toList args.toList ds p := hA0
  rw [Try.params6] at hA hval
  obtain ⟨v0, vs0, d0, ds0, p0, q0, hargs, rfl, rfl, h0, r0⟩ := trodAll_cons hA
  obtain ⟨v1, vs1, d1, ds1, p1, q1, rfl, rfl, rfl, h1, r1⟩ := trodAll_cons r0
  obtain ⟨rfl, rfl, rfl⟩ := trodAll_nil r1
  obtain rfl : args = #[v0, v1] := by cases args; simp_all
  obtain ⟨rfl, rfl⟩ := trodVars_none hV
  have k0 := h0
  have lt0 : ∀ x ∈ p0, x.block < W.heap.size := by obtain ⟨m, hm⟩ := k0; exact DataW.trod_lt m _ _ _ hm
  obtain ⟨g0, rfl, o0⟩ := open_style (hval 0 27 v0 rfl rfl) h0
  have k1 := h1
  have lt1 : ∀ x ∈ p1, x.block < W.heap.size := by obtain ⟨m, hm⟩ := k1; exact DataW.trod_lt m _ _ _ hm
  obtain ⟨g1, rfl, o1⟩ := open_u16 (hval 1 47 v1 rfl rfl) h1
  clear hA0 hval0
  refine (walk g0 g1 W o0 o1).mono fun e W' ⟨he, bel⟩ => ?_
  subst he
  exact ⟨_, rfl, _, _, _, [], _, [], hW', trodAll_mk1 (shut_bool Try.underlying4 _), (trodAll_cons_mk (Below.trod laidOut (by kernel_rfl) (of_decide_eq_true (by kernel_rfl)) k0 bel lt0) (trodAll_cons_mk (Below.trod laidOut (by kernel_rfl) (of_decide_eq_true (by kernel_rfl)) k1 bel lt1) trodAll_mk0)), rfl, bel.frame _, fun h => by cases h⟩

theorem over : Rows.styleCutsRow.holds Try.pinned (OpenSpec.ofChange Rows.styleCutsSpec) :=
  OpenClaim.holds_of_wide 6 Try.f6 rfl rfl rfl rfl rfl rfl rfl ⟨rfl, rfl, rfl, rfl, rfl⟩ rfl rfl rfl rfl rfl (by kernel_rfl) Try.func6 (by kernel_rfl)
    (of_decide_eq_true (by kernel_rfl)) (by unfold Func.isWrapper; first | (rw [if_pos (by decide +kernel)]; kernel_rfl) | (rw [if_neg (by decide +kernel)]; exact ⟨rfl, rfl⟩))
    (fun os started H enc _ => lifted os started H enc)

/-- The statement. -/
theorem proved : Rows.StyleCutsSaid := over
#print axioms proved
end Go.Proofs.Ytgmoolleckaiaaa.styleCuts
