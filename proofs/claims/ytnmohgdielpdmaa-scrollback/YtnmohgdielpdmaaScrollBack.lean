/- Proved: for all pieces l (of up to 100 the numbers are put and taken back) the law ScrollBack returns true, and its argument reads afterwards as before; no conditions. -/
import Derived.Test.YtnmohgdielpdmaaRows
import Derived.WalkKit
import Derived.Test.YtnmohgdielpdmaaBackMath
import Derived.ProofKit
import Derived.OpenShut
import Derived.ShutString
import Derived.ChangeOld
import Derived.Below
namespace Go.Proofs.Ytnmohgdielpdmaa.scrollBack
open Go.ChangeShapes Go.WideShapes Go.ChangeAt Go.RowKit
set_option linter.unusedVariables false

theorem own : ownKnob Try.prog.godebug = none := by kernel_rfl
theorem laidOut : laidOutB Try.prog = true := by kernel_rfl


set_option maxRecDepth 100000 in
set_option maxHeartbeats 4000000 in
theorem walk (ad : Option Addr) (n c : Nat) (l : List Pc) (w : World) (ol : PS w ad n l ∧ ∀ q ∈ l, okP q) :
    Calls Try.prog 5 #[.slice ad n c] w fun e w' => e = .returned (.bool true) ∧ Below w.heap.size w w' := by
  have HP := Lib.hid ol.1
  have HOK := Lib.hid ol.2
  have HL : Hid (l.length = n) := ol.1.1
  clear ol
  by_cases hn : 100 < n
  · have hn' : (100 : Int) < (n : Int) := by omega
    go_enter Try.func5, Try.ntmps5
    go_wp2_with (first
      | (go_at_call 7; refine (awake_any w).mono ?_; rintro _ w1 ⟨rfl, b1⟩; have S1 : Hid (Seen w w1) := b1; clear b1)
      | (go_at_call 7; refine (awake_any w1).mono ?_; rintro _ w2 ⟨rfl, b2⟩; have S2 : Hid (Seen w w2) := S1.out.next b2; clear b2))
    go_ret
    exact ⟨rfl, S2.out⟩
  have hn' : ¬ (100 : Int) < (n : Int) := by omega
  go_enter Try.func5, Try.ntmps5
  go_wp2_with (go_at_call 7; refine (awake_any w).mono ?_; rintro _ w1 ⟨rfl, b1⟩; have S1 : Hid (Seen w w1) := b1; clear b1)
  go_loopw [17] (fun i wr => ∃ k : Nat, k ≤ n ∧ i = .int .i64 k ∧ Seen w wr ∧ ∃ Tk, OS w.heap.size w1.heap.size Tk (encTo l k) wr) (fun i _ => n - (intOf i).toNat)
  case atStart => exact ⟨0, Nat.zero_le _, rfl, S1.out.alloc _, _, os_new w1 _⟩
  case round =>
    obtain ⟨k, hk, rfl, hs, Tk, ho⟩ := hrel
    have HO := Lib.hid ho
    have HS := Lib.hid hs
    clear ho hs
    by_cases hlt : k < n
    · have hkn : (k : Int) < (n : Int) := by omega
      obtain ⟨b, off, rfl, hcell⟩ := HP.out.2 (by omega)
      have rk := PS.rules hcell hlt
      clear hcell
      obtain ⟨c0, c1⟩ := rk wr HS.out
      have hsz := S1.out.size
      have hlen := encTo_len l k
      go_wp2_with (first
        | (go_at_call 10; refine (oEight_any w.heap.size w1.heap.size Tk (encTo l k) _ wr HO.out HS.out.size (by omega)).mono ?_; rintro _ w2 ⟨rfl, T2, mv2, ho2⟩; have HO2 := Lib.hid ho2; have HS2 : Hid (Seen w w2) := HS.out.moves mv2 (HO.out.high hsz)
           obtain ⟨d0, d1⟩ := rk w2 HS2.out
           clear mv2 ho2 c0 c1)
        | (go_at_call 8; refine (oByte_any w.heap.size w1.heap.size T2 _ _ w2 HO2.out HS2.out.size (by rw [List.length_append, be_length]; omega)).mono ?_; rintro _ w3 ⟨rfl, T3, mv3, ho3⟩; have HO3 := Lib.hid ho3; have HS3 : Hid (Seen w w3) := HS2.out.moves mv3 (HO2.out.high hsz)
           clear mv3 ho3))
      refine ⟨⟨k + 1, hlt, by go_num, HS3.out, T3, ?_⟩, by simp [intOf]; omega⟩
      rw [encTo_step (by rw [HL.out]; exact hlt), encP, ← List.append_assoc]
      exact HO3.out
    · have hkn : ¬ (k : Int) < (n : Int) := by omega
      obtain rfl : k = n := by omega
      have hlen := encTo_len l k
      go_wp2_with (first
        | (go_at_call 12; refine (bytes_any _ _ Tk _ wr HO.out (by omega)).mono ?_; rintro _ w2 ⟨⟨v2, rfl, ho2⟩, hs2⟩; obtain ⟨m, hm⟩ : ∃ m, (encTo l k).length = m := ⟨_, rfl⟩
           rw [hm] at ho2 hlen
           obtain ⟨a2, c2, rfl, hb2, _, hc2⟩ := bs_of_own ho2 hm; have HS2 : Hid (Seen w w2) := HS.out.trans hs2
           have B2 := Lib.hid (And.intro hb2 hc2); clear hs2 ho2 hb2 hc2 hm)
        | (go_at_call 13; refine (newIn_any a2 m c2 (encTo l k) w2 B2.out.1 (encTo_ok l k) B2.out.2 (by omega)).mono ?_; rintro _ w3 ⟨B, K, rfl, hi3, hk3, hs3⟩; have I3 := Lib.hid hi3; have HS3 : Hid (Seen w w3) := HS2.out.trans hs3
           have HB : Hid (w.heap.size ≤ B) := Nat.le_trans HS2.out.size (hk3 B hi3.1)
           clear hi3 hk3 hs3))
      go_loopw [37] (fun i wr => ∃ j : Nat, j ≤ k ∧ i = .int .i64 j ∧ Seen w wr ∧ IS K B (encFrom l j) false wr) (fun i _ => k - (intOf i).toNat)
      case atStart => exact ⟨0, Nat.zero_le _, rfl, HS3.out, by rw [← encTo_all l k HL.out]; exact I3.out⟩
      case round =>
        obtain ⟨j, hj, rfl, hs, hi⟩ := hrel
        have HI := Lib.hid hi
        have HS4 := Lib.hid hs
        clear hi hs
        by_cases hlt2 : j < k
        · have hjk : (j : Int) < (k : Int) := by omega
          obtain ⟨b, off, rfl, hcell⟩ := HP.out.2 (by omega)
          have rk := PS.rules hcell hlt2
          clear hcell
          obtain ⟨c0, c1⟩ := rk _ HS4.out
          have hsw : Seen w wr := HS4.out
          go_wp2_with fail
          go_region_held3 (fun w' => w'.cell? ⟨b, off + j * 2, none⟩ = some (.int .u8 (pat l j).kd) ∧ w'.cell? ⟨b, off + j * 2 + 1, none⟩ = some (.int .i64 (pat l j).n))
            (exact rk _ (by (repeat (first | assumption | refine Seen.drew ?_))))
            (first
              | (go_at_call 17; refine (eight_back (by rw [HL.out]; exact hlt2) HOK.out (HI.out.seen (Seen.refl wr).drew)).mono ?_; rintro _ w5 ⟨rfl, ht5, hi5⟩; have hs5 : Seen w w5 := hsw.drew.turns ht5 HB.out; have I5 := Lib.hid hi5; clear ht5 hi5)
              | (go_at_call 14; refine (byte_back HOK.out I5.out).mono ?_; rintro _ w6 ⟨rfl, ht6, hi6⟩; have hs6 : Seen w w6 := hs5.turns ht6 HB.out; have I6 := Lib.hid hi6; clear ht6 hi6))
          all_goals
            go_wp2_with fail
            exact ⟨⟨j + 1, hlt2, by go_num, hs6, I6.out⟩, by simp [intOf]; omega⟩
        · have hjk : ¬ (j : Int) < (k : Int) := by omega
          obtain rfl : j = k := by omega
          have e0 := encFrom_end l j HL.out
          rw [e0] at HI
          go_wp2_with (first
            | (go_at_call 21; refine (done_any HI.out).mono ?_; rintro _ w7 ⟨rfl, rfl⟩)
            | (go_at_call 19; refine (bad_any HI.out).mono ?_; rintro _ w8 ⟨rfl, rfl⟩))
          go_ret
          exact ⟨rfl, HS4.out⟩

/-! ### The row's step. -/
set_option maxRecDepth 100000 in
theorem lifted (os : Os) (started : os.Started) (H : Type) (enc : TypeId × Value → H) :
    ReturnsInHanded {} Try.checked os 5 .any (Rows.scrollBackSpec.pre6 enc Try.prog Try.f5 Rows.scrollBackRow.domain false) (Rows.scrollBackSpec.post enc Try.prog Try.f5 false true false false) := by
  refine returnsInHanded_of_change (C := Try.checked) own started (by kernel_rfl) Try.func5
    (ChangeSpec.witness6 (enc := enc) (C := Try.checked) false ⟨#[], #[.slice none 0 0], []⟩ 8 (by kernel_rfl) (by kernel_rfl) (by kernel_rfl) (by kernel_rfl)) ?_
  intro W base args ds gs before hval0 hW hcnd _
  have hval : ∀ (j : Nat) t v, Try.f5.params[j]? = some t → args[j]? = some v → Value.okWide Try.prog W .any base t v := hval0
  have hW' := hW
  obtain ⟨p, q, hA0, hV, rfl, hfz, hnd⟩ := hW
  have hA : DataW.TrodAll enc Try.prog W 0 (fun _ => true) true Try.f5.params.toList args.toList ds p := hA0
  rw [Try.params5] at hA hval
  obtain ⟨v0, vs0, d0, ds0, p0, q0, hargs, rfl, rfl, h0, r0⟩ := trodAll_cons hA
  obtain ⟨rfl, rfl, rfl⟩ := trodAll_nil r0
  obtain rfl : args = #[v0] := by cases args; simp_all
  obtain ⟨rfl, rfl⟩ := trodVars_none hV
  have k0 := h0
  have lt0 : ∀ x ∈ p0, x.block < W.heap.size := by obtain ⟨m, hm⟩ := k0; exact DataW.trod_lt m _ _ _ hm
  obtain ⟨a0, len0, cap0, g0, rfl, o0⟩ := open_pieces (hval 0 22 v0 rfl rfl) h0
  clear hA0 hval0
  refine (walk a0 len0 cap0 g0 W o0).mono fun e W' ⟨he, bel⟩ => ?_
  subst he
  exact ⟨_, rfl, _, _, _, [], _, [], hW', trodAll_mk1 (shut_bool Try.underlying4 _), (trodAll_cons_mk (Below.trod laidOut (by kernel_rfl) (of_decide_eq_true (by kernel_rfl)) k0 bel lt0) trodAll_mk0), rfl, bel.frame _, fun h => by cases h⟩

theorem over : Rows.scrollBackRow.holds Try.pinned (OpenSpec.ofChange Rows.scrollBackSpec) :=
  OpenClaim.holds_of_wide 5 Try.f5 rfl rfl rfl rfl rfl rfl rfl ⟨rfl, rfl, rfl, rfl, rfl⟩ rfl rfl rfl rfl rfl (by kernel_rfl) Try.func5 (by kernel_rfl)
    (of_decide_eq_true (by kernel_rfl)) (by unfold Func.isWrapper; first | (rw [if_pos (by decide +kernel)]; kernel_rfl) | (rw [if_neg (by decide +kernel)]; exact ⟨rfl, rfl⟩))
    (fun os started H enc _ => lifted os started H enc)

/-- The statement. -/
theorem proved : Rows.ScrollBackSaid := over
#print axioms proved
end Go.Proofs.Ytnmohgdielpdmaa.scrollBack
