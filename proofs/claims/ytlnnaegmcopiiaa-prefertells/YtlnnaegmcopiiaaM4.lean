/- Texts of the proof, merged: Steps. -/
import Derived.Test.YtlnnaegmcopiiaaM3
import Derived.Test.YtlnnaegmcopiiaaM1
/- A slice of nodes in memory; contracts of stepsUp and of the reference's Above and Deep; no conditions beyond those written in each theorem. -/
namespace Go.Proofs.Ytlnnaegmcopiiaa
open Go.ChangeShapes Go.WideShapes Go.ChangeAt Go.RowKit
set_option maxRecDepth 100000
/-- A slice of n nodes reads as this list. -/
def NS (w : World) (ad : Option Addr) (n : Nat) (l : List Nd) : Prop := SL ndl 49 zeroN w ad n l
theorem NS.seen {w w' : World} {ad : Option Addr} {n : Nat} {l : List Nd} (h : NS w ad n l) (hs : Seen w w') : NS w' ad n l := SL.seen ndl_length h hs
theorem NS.nil (w : World) (ad : Option Addr) : NS w ad 0 [] := ⟨rfl, fun h => absurd h (by omega)⟩
/-- The parents in it. -/
theorem NS.pars {w : World} {ad : Option Addr} {n : Nat} {l : List Nd} (h : NS w ad n l) (h0 : 0 < n) :
    ∃ b off, ad = some ⟨b, off, none⟩ ∧ ∀ i, i < n → w.cell? ⟨b, off + i * 49 + 48, none⟩ = some (.int .i64 (nd l i).p) := by
  obtain ⟨b, off, e, hc⟩ := h.2 h0
  exact ⟨b, off, e, fun i hi => (hc i hi 48 (by omega)).trans (ndl_par _)⟩
theorem okAt0 (l : List Nd) : okAt l 0 ↔ (nd l 0).p = -1 := by unfold okAt; rw [if_pos rfl]
theorem okAtS (l : List Nd) {i : Nat} (h : 0 < i) : okAt l i ↔ (0 ≤ (nd l i).p ∧ upN l (stepsTo l ((i : Int) - 1) (nd l i).p) ((i : Int) - 1) = (nd l i).p) := by unfold okAt; rw [if_neg (by omega)]
theorem dec_eq {p : Prop} [Decidable p] {b : Bool} (h : p ↔ b = true) : decide p = b := by
  cases b with
  | true => exact decide_eq_true (h.2 rfl)
  | false => exact decide_eq_false fun hp => by have := h.1 hp; cases this
/-- What stepsUp says of the steps. -/
def stepsV (l : List Nd) (i : Nat) : Nat := if i = 0 then 0 else if (nd l i).p < 0 then 0 else stepsAt l i
set_option maxHeartbeats 4000000 in
theorem stepsUp_any (ad : Option Addr) (n c : Nat) (l : List Nd) (i : Nat) (w : World) (h : NS w ad n l) (hi : i < n) (hn : n ≤ 1099511627776) (hl : Low l i) :
    Calls Try.prog 41 #[.slice ad n c, .int .i64 i] w fun e w' => e = .returned (.tuple #[.int .i64 (stepsV l i : Nat), .bool (decide (okAt l i))]) ∧ w' = w := by
  obtain ⟨b, off, rfl, hc⟩ := h.pars (by omega)
  have cp := hc i hi
  have HL := Lib.hid hl
  have HC := Lib.hid hc
  have HN : Hid (l.length = n) := h.1
  have hi' : (i : Int) < (n : Int) := by omega
  have hi0 : ¬ ((i : Int) < 0) := by omega
  obtain ⟨P, hP⟩ : ∃ P, (nd l i).p = P := ⟨_, rfl⟩
  rw [hP] at cp
  clear h hc hl
  rcases Nat.eq_zero_or_pos i with h0 | h0
  · subst h0
    have e1 : Hid (stepsV l 0 = 0) := rfl
    have e2 : Hid (decide (okAt l 0) = (P == -1)) := by
      exact dec_eq (by rw [okAt0, hP]; simp)
    clear hP HL HC
    go_enter Try.func41, Try.ntmps41
    go_wp2_with fail
    go_ret2
    rw [e1.out, e2.out]
    exact ⟨rfl, rfl⟩
  · have hne : ((i : Int) == 0) = false := by simp; omega
    by_cases hp : P < 0
    · have e1 : Hid (stepsV l i = 0) := by
        unfold Hid stepsV
        rw [if_neg (by omega), hP, if_pos hp]
      have e2 : Hid (decide (okAt l i) = false) := by
        exact dec_eq (by rw [okAtS l h0, hP]; simp; omega)
      clear hP HL HC
      go_enter Try.func41, Try.ntmps41
      go_wp2_with fail
      go_ret2
      rw [e1.out, e2.out]
      exact ⟨rfl, rfl⟩
    · have HP := Lib.hid hP
      clear hP
      obtain ⟨m, hm⟩ : ∃ m : Int, (i : Int) - 1 = m := ⟨_, rfl⟩
      have hm0 : 0 ≤ m := by omega
      have hmn : m < n := by omega
      have hmi : m < i := by omega
      go_enter Try.func41, Try.ntmps41
      go_wp2_with fail
      have HM := Lib.hid hm
      clear hm
      go_loopw [7, 8] (fun s a wr => ∃ k : Nat, s = .int .i64 k ∧ a = .int .i64 (upN l k m) ∧ wr = w ∧ ∀ j, j < k → P < upN l j m) (fun _ a _ => (intOf a + 1).toNat)
      case atStart => exact ⟨0, rfl, rfl, rfl, fun j hj => absurd hj (by omega)⟩
      case round =>
        obtain ⟨k, rfl, rfl, rfl, hall⟩ := hrel
        have HA := Lib.hid hall
        clear hall
        obtain ⟨u1, u2, u3⟩ := HL.out.up (m := m) (by omega) (by omega) k
        have hnext : Hid (upN l (k + 1) m = par l (upN l k m)) := rfl
        obtain ⟨A, hA⟩ : ∃ A, upN l k m = A := ⟨_, rfl⟩
        rw [hA] at u1 u2 u3
        rw [hA] at hnext
        rw [hA]
        by_cases hgt : P < A
        · have hA0 : 0 ≤ A := by omega
          obtain ⟨a, rfl⟩ := Int.eq_ofNat_of_zero_le hA0
          have ca := HC.out a (by omega)
          have u4 := u3 hA0
          have ha' : (a : Int) < (n : Int) := by omega
          have HAA := Lib.hid hA
          clear hA u3
          have hk63 : (k : Int) + 1 < 9223372036854775808 := by omega
          go_wp2_with fail
          refine ⟨⟨k + 1, by go_num, ?_, trivial, fun j hj => ?_⟩, ?_⟩
          · rw [hnext.out, par_nat]
          · rcases Nat.lt_or_ge j k with h | h
            · exact HA.out j h
            · obtain rfl : j = k := by omega
              rw [HAA.out]; exact hgt
          · have := HL.out.par (m := (a : Int)) (by omega) (by omega)
            rw [par_nat] at this
            simp [intOf]; omega
        · have e1 : Hid (stepsV l i = k) := by
            unfold Hid stepsV
            rw [if_neg (by omega), HP.out, if_neg (by omega)]
            have := stepsTo_is (l := l) (m := m) (n := i) (by have := HN.out; omega) HL.out (by omega) (by omega) (a := P) (by omega) (k := k) (by omega) HA.out
            unfold stepsAt
            rw [HP.out, HM.out, this]
          have e2 : Hid (decide (okAt l i) = (A == P)) := by
            have e3 := e1.out
            unfold stepsV at e3
            rw [if_neg (by omega), HP.out, if_neg (by omega)] at e3
            unfold stepsAt at e3
            rw [HP.out, HM.out] at e3
            exact dec_eq (by rw [okAtS l h0, HP.out, HM.out, e3, hA]; simp; omega)
          clear hA u3
          go_wp2_with fail
          go_ret2
          rw [e1.out, e2.out]
          exact ⟨rfl, rfl⟩
/-- Whether a is m or above it. -/
def aboveB (l : List Nd) (a m : Int) : Bool := upN l (stepsTo l m a) m == a
set_option maxHeartbeats 4000000 in
theorem above_any (ad : Option Addr) (n c : Nat) (l : List Nd) (a m : Int) (w : World) (h : NS w ad n l) (ha : 0 ≤ a) (hm0 : 0 ≤ m) (hmn : m < n) (hn : n ≤ 1099511627776) (hl : Low l (m.toNat + 1)) :
    Calls Try.prog 40 #[.slice ad n c, .int .i64 a, .int .i64 m] w fun e w' => e = .returned (.bool (aboveB l a m)) ∧ w' = w := by
  obtain ⟨b, off, rfl, hc⟩ := h.pars (by omega)
  have HL := Lib.hid hl
  have HC := Lib.hid hc
  have HN : Hid (l.length = n) := h.1
  have HB : Hid (aboveB l a m = true ↔ ∃ k, upN l k m = a) := by
    unfold Hid aboveB
    rw [beq_iff_eq]
    exact above_iff (n := m.toNat + 1) (by have := HN.out; omega) hl (by omega) (by omega) ha
  clear h hc hl
  go_enter Try.func40, Try.ntmps40
  go_wp2_with fail
  go_loopw [2] (fun x wr => ∃ k : Nat, x = .int .i64 (upN l k m) ∧ wr = w ∧ ∀ j, j < k → upN l j m ≠ a) (fun x _ => (intOf x + 1).toNat)
  case atStart => exact ⟨0, rfl, rfl, fun j hj => absurd hj (by omega)⟩
  case round =>
    obtain ⟨k, rfl, rfl, hall⟩ := hrel
    have HA := Lib.hid hall
    clear hall
    obtain ⟨u1, u2, u3⟩ := HL.out.up (m := m) (by omega) (by omega) k
    have hnext : Hid (upN l (k + 1) m = par l (upN l k m)) := rfl
    obtain ⟨A, hA⟩ : ∃ A, upN l k m = A := ⟨_, rfl⟩
    rw [hA] at u1 u2 u3
    rw [hA] at hnext
    rw [hA]
    have HAA := Lib.hid hA
    clear hA
    by_cases hge : 0 ≤ A
    · cases hq : (A == a)
      · obtain ⟨x, rfl⟩ := Int.eq_ofNat_of_zero_le hge
        have ca := HC.out x (by omega)
        have ha' : (x : Int) < (n : Int) := by omega
        clear u3
        go_wp2_with fail
        refine ⟨⟨k + 1, ?_, trivial, fun j hj => ?_⟩, ?_⟩
        · rw [hnext.out, par_nat]
        · rcases Nat.lt_or_ge j k with h | h
          · exact HA.out j h
          · obtain rfl : j = k := by omega
            rw [HAA.out]; simpa using hq
        · have := HL.out.par (m := (x : Int)) (by omega) (by omega)
          rw [par_nat] at this
          simp [intOf]; omega
      · go_wp2_with fail
        go_ret
        refine ⟨ret_bool (Eq.symm (HB.out.2 ⟨k, ?_⟩)), rfl⟩
        rw [HAA.out]; simpa using hq
    · have hA1 : A = -1 := by omega
      go_wp2_with fail
      go_ret
      refine ⟨ret_bool (Eq.symm ?_), rfl⟩
      cases hb : aboveB l a m
      · rfl
      · exfalso
        obtain ⟨j, hj⟩ := HB.out.1 hb
        rcases Nat.lt_or_ge j k with h | h
        · exact HA.out j h hj
        · rw [show j = k + (j - k) by omega, upN_add, HAA.out] at hj
          have := HL.out.up (m := A) (by omega) (by omega) (j - k)
          omega
set_option maxHeartbeats 4000000 in
theorem deep_any (ad : Option Addr) (n c : Nat) (l : List Nd) (m : Int) (w : World) (h : NS w ad n l) (hm0 : 0 ≤ m) (hmn : m < n) (hn : n ≤ 1099511627776) (hl : Low l (m.toNat + 1)) :
    Calls Try.prog 13 #[.slice ad n c, .int .i64 m] w fun e w' => e = .returned (.int .i64 (deep l m : Nat)) ∧ w' = w := by
  obtain ⟨b, off, rfl, hc⟩ := h.pars (by omega)
  have HL := Lib.hid hl
  have HC := Lib.hid hc
  have HN : Hid (l.length = n) := h.1
  clear h hc hl
  go_enter Try.func13, Try.ntmps13
  go_wp2_with fail
  go_loopw [5, 1] (fun d x wr => ∃ k : Nat, d = .int .i64 k ∧ x = .int .i64 (upN l k m) ∧ wr = w ∧ ∀ j, j < k → 0 ≤ upN l j m) (fun _ x _ => (intOf x + 1).toNat)
  case atStart => exact ⟨0, rfl, rfl, rfl, fun j hj => absurd hj (by omega)⟩
  case round =>
    obtain ⟨k, rfl, rfl, rfl, hall⟩ := hrel
    have HA := Lib.hid hall
    clear hall
    obtain ⟨u1, u2, u3⟩ := HL.out.up (m := m) (by omega) (by omega) k
    have hnext : Hid (upN l (k + 1) m = par l (upN l k m)) := rfl
    obtain ⟨A, hA⟩ : ∃ A, upN l k m = A := ⟨_, rfl⟩
    rw [hA] at u1 u2 u3
    rw [hA] at hnext
    rw [hA]
    have HAA := Lib.hid hA
    clear hA
    by_cases hge : 0 ≤ A
    · obtain ⟨x, rfl⟩ := Int.eq_ofNat_of_zero_le hge
      have ca := HC.out x (by omega)
      have ha' : (x : Int) < (n : Int) := by omega
      have u4 := u3 hge
      have hk63 : (k : Int) + 1 < 9223372036854775808 := by omega
      clear u3
      go_wp2_with fail
      refine ⟨⟨k + 1, by go_num, ?_, trivial, fun j hj => ?_⟩, ?_⟩
      · rw [hnext.out, par_nat]
      · rcases Nat.lt_or_ge j k with h | h
        · exact HA.out j h
        · obtain rfl : j = k := by omega
          rw [HAA.out]; exact hge
      · have := HL.out.par (m := (x : Int)) (by omega) (by omega)
        rw [par_nat] at this
        simp [intOf]; omega
    · have e1 : Hid (deep l m = k) := deep_is (n := m.toNat + 1) (by have := HN.out; omega) HL.out (by omega) (by omega) (by rw [HAA.out]; omega) HA.out
      clear u3
      go_wp2_with fail
      go_ret
      rw [e1.out]
      exact ⟨rfl, rfl⟩
end Go.Proofs.Ytlnnaegmcopiiaa
