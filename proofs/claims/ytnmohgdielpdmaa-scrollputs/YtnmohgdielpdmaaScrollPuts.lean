/- Proved: for all pieces l (of up to 200 what is put is held against the reference) the law ScrollPuts returns true, and its argument reads afterwards as before; no conditions. -/
import Derived.Test.YtnmohgdielpdmaaRows
import Derived.WalkKit
import Derived.Test.YtnmohgdielpdmaaPutsMath
import Derived.ProofKit
import Derived.OpenShut
import Derived.ShutString
import Derived.ChangeOld
import Derived.Below
namespace Go.Proofs.Ytnmohgdielpdmaa.scrollPuts
open Go.ChangeShapes Go.WideShapes Go.ChangeAt Go.RowKit
set_option linter.unusedVariables false

theorem own : ownKnob Try.prog.godebug = none := by kernel_rfl
theorem laidOut : laidOutB Try.prog = true := by kernel_rfl


set_option maxRecDepth 100000 in
set_option maxHeartbeats 8000000 in
theorem walk (ad : Option Addr) (n c : Nat) (l : List Pc) (w : World) (ol : PS w ad n l ∧ ∀ q ∈ l, okP q) :
    Calls Try.prog 3 #[.slice ad n c] w fun e w' => e = .returned (.bool true) ∧ Below w.heap.size w w' := by
  have HP := Lib.hid ol.1
  have HL : Hid (l.length = n) := ol.1.1
  clear ol
  obtain ⟨i0, hi, hz0, hz1, hz2⟩ := info_parts info5
  by_cases hn : 200 < n
  · have hn' : (200 : Int) < (n : Int) := by omega
    go_enter Try.func3, Try.ntmps3
    go_wp2_with (first
      | (go_at_call 7; refine (awake_any w).mono ?_; rintro _ w1 ⟨rfl, b1⟩; have S1 : Hid (Seen w w1) := b1; clear b1)
      | (go_at_call 7; refine (awake_any w1).mono ?_; rintro _ w2 ⟨rfl, b2⟩; have S2 : Hid (Seen w w2) := S1.out.next b2; clear b2))
    go_ret
    exact ⟨rfl, S2.out⟩
  have hn' : ¬ (200 : Int) < (n : Int) := by omega
  go_enter Try.func3, Try.ntmps3
  go_wp2_with (go_at_call 7; refine (awake_any w).mono ?_; rintro _ w1 ⟨rfl, b1⟩; have S1 : Hid (Seen w w1) := b1; clear b1)
  have hsz := S1.out.size
  go_loopw [4, 18] (fun v i wr => ∃ k : Nat, k ≤ n ∧ i = .int .i64 k ∧ ∃ Tk, QI w w1.heap.size Tk (putsTo l k) v wr) (fun _ i _ => n - (intOf i).toNat)
  case atStart => exact ⟨0, Nat.zero_le _, rfl, _, S1.out.alloc _, os_new w1 _, World.ownsRow_nil _ _ _ _, fun g hg => by cases hg⟩
  case round =>
    obtain ⟨k, hk, rfl, Tk, hq⟩ := hrel
    have Q0 := Lib.hid hq
    clear hq
    have hlen := putsTo_len l k
    by_cases hlt : k < n
    · have hkn : (k : Int) < (n : Int) := by omega
      obtain ⟨b, off, rfl, hcell⟩ := HP.out.2 (by omega)
      have rk := PS.rules hcell hlt
      clear hcell
      obtain ⟨c0, c1⟩ := rk wr Q0.out.seen
      have hb8 := bytesP_len (pat l k)
      rcases (by omega : (pat l k).kd = 0 ∨ ((pat l k).kd ≠ 0 ∧ (pat l k).kd = 1) ∨ ((pat l k).kd ≠ 0 ∧ (pat l k).kd ≠ 1)) with h0 | ⟨h0, h1⟩ | ⟨h0, h1⟩
      · have hd : ((pat l k).kd == 0) = true := by simp [h0]
        have HE := Lib.hid (put1 h0)
        clear h0
        go_wp2_with (first
          | (go_at_call 8; refine (oByte_any w.heap.size w1.heap.size Tk (putsTo l k) _ wr Q0.out.out Q0.out.seen.size (by omega)).mono ?_; rintro _ w2 ⟨rfl, T2, mv2, ho2⟩
             rw [HE.out] at ho2
             have R2 := Lib.hid (Q0.out.put hsz mv2 ho2)
             obtain ⟨d0, d1⟩ := rk w2 R2.out.1
             clear mv2 ho2 c0 c1)
          | (go_at_call 11; refine (pieceBytes_any (pat l k) w2).mono ?_; rintro _ w3 ⟨⟨v3, rfl, ho3⟩, hs3⟩
             have R3 := Lib.hid (And.intro ho3 hs3)
             clear ho3 hs3)
          | (at_builtin; refine wpList_append_rows _ rfl (.tmp 50) (.tmp 55) 24 rfl 5 i0 (.int .u8 0) 1 1 Try.underlying24 hi hz0 hz1 hz2 rfl (by decide) w.heap.size w2.heap.size u4 _ _ rfl (row_seen R2.out.2.2.1 R3.out.2) v3 _ _ rfl R3.out.1 (bv_one _) (by unfold maxLen; omega) (by omega) (R2.out.1.trans R3.out.2).size ?_
             intro v4 w4 ho4 hg4 hat4
             have Q4 := Lib.hid (QI.grow (R2.out.1.trans R3.out.2) (R2.out.2.1.seen R3.out.2) (row_seen R2.out.2.2.1 R3.out.2) R2.out.2.2.2 ho4 hg4 hat4)
             clear ho4 hg4 hat4))
        exact ⟨⟨k + 1, hlt, by go_num, T2, by rw [putsTo_step (by rw [HL.out]; exact hlt)]; exact Q4.out⟩, by simp [intOf]; omega⟩
      · have hd : ((pat l k).kd == 0) = false := by simp [h0]
        have hd1 : ((pat l k).kd == 1) = true := by simp [h1]
        have HE := Lib.hid (put4 h0 h1)
        clear h0 h1
        go_wp2_with (first
          | (go_at_call 9; refine (oFour_any w.heap.size w1.heap.size Tk (putsTo l k) _ wr Q0.out.out Q0.out.seen.size (by omega)).mono ?_; rintro _ w2 ⟨rfl, T2, mv2, ho2⟩
             rw [HE.out] at ho2
             have R2 := Lib.hid (Q0.out.put hsz mv2 ho2)
             obtain ⟨d0, d1⟩ := rk w2 R2.out.1
             clear mv2 ho2 c0 c1)
          | (go_at_call 11; refine (pieceBytes_any (pat l k) w2).mono ?_; rintro _ w3 ⟨⟨v3, rfl, ho3⟩, hs3⟩
             have R3 := Lib.hid (And.intro ho3 hs3)
             clear ho3 hs3)
          | (at_builtin; refine wpList_append_rows _ rfl (.tmp 50) (.tmp 55) 24 rfl 5 i0 (.int .u8 0) 1 1 Try.underlying24 hi hz0 hz1 hz2 rfl (by decide) w.heap.size w2.heap.size u4 _ _ rfl (row_seen R2.out.2.2.1 R3.out.2) v3 _ _ rfl R3.out.1 (bv_one _) (by unfold maxLen; omega) (by omega) (R2.out.1.trans R3.out.2).size ?_
             intro v4 w4 ho4 hg4 hat4
             have Q4 := Lib.hid (QI.grow (R2.out.1.trans R3.out.2) (R2.out.2.1.seen R3.out.2) (row_seen R2.out.2.2.1 R3.out.2) R2.out.2.2.2 ho4 hg4 hat4)
             clear ho4 hg4 hat4))
        exact ⟨⟨k + 1, hlt, by go_num, T2, by rw [putsTo_step (by rw [HL.out]; exact hlt)]; exact Q4.out⟩, by simp [intOf]; omega⟩
      · have hd : ((pat l k).kd == 0) = false := by simp [h0]
        have hd1 : ((pat l k).kd == 1) = false := by simp [h1]
        have HE := Lib.hid (put8 h0 h1)
        clear h0 h1
        go_wp2_with (first
          | (go_at_call 10; refine (oEight_any w.heap.size w1.heap.size Tk (putsTo l k) _ wr Q0.out.out Q0.out.seen.size (by omega)).mono ?_; rintro _ w2 ⟨rfl, T2, mv2, ho2⟩
             rw [HE.out] at ho2
             have R2 := Lib.hid (Q0.out.put hsz mv2 ho2)
             obtain ⟨d0, d1⟩ := rk w2 R2.out.1
             clear mv2 ho2 c0 c1)
          | (go_at_call 11; refine (pieceBytes_any (pat l k) w2).mono ?_; rintro _ w3 ⟨⟨v3, rfl, ho3⟩, hs3⟩
             have R3 := Lib.hid (And.intro ho3 hs3)
             clear ho3 hs3)
          | (at_builtin; refine wpList_append_rows _ rfl (.tmp 50) (.tmp 55) 24 rfl 5 i0 (.int .u8 0) 1 1 Try.underlying24 hi hz0 hz1 hz2 rfl (by decide) w.heap.size w2.heap.size u4 _ _ rfl (row_seen R2.out.2.2.1 R3.out.2) v3 _ _ rfl R3.out.1 (bv_one _) (by unfold maxLen; omega) (by omega) (R2.out.1.trans R3.out.2).size ?_
             intro v4 w4 ho4 hg4 hat4
             have Q4 := Lib.hid (QI.grow (R2.out.1.trans R3.out.2) (R2.out.2.1.seen R3.out.2) (row_seen R2.out.2.2.1 R3.out.2) R2.out.2.2.2 ho4 hg4 hat4)
             clear ho4 hg4 hat4))
        exact ⟨⟨k + 1, hlt, by go_num, T2, by rw [putsTo_step (by rw [HL.out]; exact hlt)]; exact Q4.out⟩, by simp [intOf]; omega⟩
    · have hkn : ¬ (k : Int) < (n : Int) := by omega
      obtain ⟨L, hL⟩ : ∃ L, putsTo l k = L := ⟨_, rfl⟩
      obtain ⟨m, hm⟩ : ∃ m, L.length = m := ⟨_, rfl⟩
      rw [hL] at Q0 hlen
      rw [hm] at hlen
      have HM := Lib.hid hm
      clear hL hm
      go_wp2_with (go_at_call 12; refine (bytes_any _ _ Tk _ wr Q0.out.out (by rw [HM.out]; omega)).mono ?_; rintro _ w2 ⟨⟨v2, rfl, ho2⟩, hs2⟩
                   rw [HM.out] at ho2
                   obtain ⟨a2, c2, rfl, hb2, _, hc2⟩ := bs_of_own ho2 HM.out
                   have R2 := Lib.hid (And.intro ho2 hs2); clear hs2 ho2 hb2 hc2)
      go_loopw [61] (fun i wz => ∃ j : Nat, j ≤ m ∧ i = .int .i64 j ∧ Seen wr wz ∧ ∀ g, (Value.slice a2 m c2).ownBlock = some g → AnyB g m wz) (fun i _ => m - (intOf i).toNat)
      case atStart => exact ⟨0, Nat.zero_le _, rfl, R2.out.2, anyB_of_own R2.out.1 HM.out⟩
      case round =>
        obtain ⟨j, hj, rfl, hs0, hany⟩ := hrel
        have HA := Lib.hid hany
        have HS0 := Lib.hid hs0
        clear hany hs0
        by_cases hjm : j < m
        · have hjm' : (j : Int) < (m : Int) := by omega
          obtain ⟨g, rfl, hg⟩ := own_some R2.out.1 (by omega)
          obtain ⟨x, cx, fx⟩ := (HA.out g rfl).at hjm
          go_wp2_with fail
          refine ⟨⟨j + 1, hjm, by go_num, HS0.out.turns (Turns.set _ g j _) hg, fun g' hg' => ?_⟩, by simp [intOf]; omega⟩
          cases hg'
          exact (HA.out g rfl).set j _
        · have hjm' : ¬ (j : Int) < (m : Int) := by omega
          have sw : Seen wr wr := Seen.refl wr
          have hsd : Seen wr wr.drew := sw.drew
          have hcv := conv_own (row_seen Q0.out.row HS0.out) rfl
          have HO := Lib.hid (Q0.out.out.seen (HS0.out.trans hsd))
          have SW := Lib.hid (Q0.out.seen.trans HS0.out)
          clear HA HS0 Q0 R2
          go_wp2_with fail
          go_region_with ((go_at_call 12; refine (bytes_any _ _ Tk _ wr.drew HO.out (by rw [HM.out]; omega)).mono ?_; rintro _ w5 ⟨⟨v5, rfl, ho5⟩, hs5⟩
                           have s5 : Seen wr w5 := hsd.trans hs5
                           have s55 : Seen w5 w5 := Seen.refl w5
                           have hcv5 := conv_own ho5 rfl
                           clear ho5 hs5))
          all_goals
            go_wp2_with fail
            go_ret
            exact ⟨rfl, SW.out.trans s5⟩

/-! ### The row's step. -/
set_option maxRecDepth 100000 in
theorem lifted (os : Os) (started : os.Started) (H : Type) (enc : TypeId × Value → H) :
    ReturnsInHanded {} Try.checked os 3 .any (Rows.scrollPutsSpec.pre6 enc Try.prog Try.f3 Rows.scrollPutsRow.domain false) (Rows.scrollPutsSpec.post enc Try.prog Try.f3 false true false false) := by
  refine returnsInHanded_of_change (C := Try.checked) own started (by kernel_rfl) Try.func3
    (ChangeSpec.witness6 (enc := enc) (C := Try.checked) false ⟨#[], #[.slice none 0 0], []⟩ 8 (by kernel_rfl) (by kernel_rfl) (by kernel_rfl) (by kernel_rfl)) ?_
  intro W base args ds gs before hval0 hW hcnd _
  have hval : ∀ (j : Nat) t v, Try.f3.params[j]? = some t → args[j]? = some v → Value.okWide Try.prog W .any base t v := hval0
  have hW' := hW
  obtain ⟨p, q, hA0, hV, rfl, hfz, hnd⟩ := hW
  have hA : DataW.TrodAll enc Try.prog W 0 (fun _ => true) true Try.f3.params.toList args.toList ds p := hA0
  rw [Try.params3] at hA hval
  obtain ⟨v0, vs0, d0, ds0, p0, q0, hargs, rfl, rfl, h0, r0⟩ := trodAll_cons hA
  obtain ⟨rfl, rfl, rfl⟩ := trodAll_nil r0
  obtain rfl : args = #[v0] := by cases args; simp_all
  obtain ⟨rfl, rfl⟩ := trodVars_none hV
  have k0 := h0
  have lt0 : ∀ x ∈ p0, x.block < W.heap.size := by obtain ⟨m, hm⟩ := k0; exact DataW.trod_lt m _ _ _ hm
  obtain ⟨a0, len0, cap0, g0, rfl, o0⟩ := open_pieces (hval 0 22 v0 rfl rfl) h0
  clear hA0 hval0
  refine (walk a0 len0 cap0 g0 W o0).mono fun e W' ⟨he, bel⟩ => ?_
  subst he
  exact ⟨_, rfl, _, _, _, [], _, [], hW', trodAll_mk1 (shut_bool Try.underlying4 _), (trodAll_cons_mk (Below.trod laidOut (by kernel_rfl) (of_decide_eq_true (by kernel_rfl)) k0 bel lt0) trodAll_mk0), rfl, bel.frame _, fun h => by cases h⟩

theorem over : Rows.scrollPutsRow.holds Try.pinned (OpenSpec.ofChange Rows.scrollPutsSpec) :=
  OpenClaim.holds_of_wide 3 Try.f3 rfl rfl rfl rfl rfl rfl rfl ⟨rfl, rfl, rfl, rfl, rfl⟩ rfl rfl rfl rfl rfl (by kernel_rfl) Try.func3 (by kernel_rfl)
    (of_decide_eq_true (by kernel_rfl)) (by unfold Func.isWrapper; first | (rw [if_pos (by decide +kernel)]; kernel_rfl) | (rw [if_neg (by decide +kernel)]; exact ⟨rfl, rfl⟩))
    (fun os started H enc _ => lifted os started H enc)

/-- The statement. -/
theorem proved : Rows.ScrollPutsSaid := over
#print axioms proved
end Go.Proofs.Ytnmohgdielpdmaa.scrollPuts
