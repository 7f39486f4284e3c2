/- Contract of getParent; no conditions beyond those written in each theorem. -/
import Derived.Test.YthphmhcgnkoigaaFour
import Derived.Test.YthphmhcgnkoigaaDec
namespace Go.Proofs.Ythphmhcgnkoigaa
open Go.ChangeShapes Go.WideShapes Go.ChangeAt Go.RowKit
set_option maxRecDepth 100000
theorem rpar0 (t : St) {l : List Nd} (h : l.length = 0) : rpar t l = -1 ∧ rst t l = t := by
  unfold rst rpar; rw [if_pos h, if_pos h]; exact ⟨rfl, rfl⟩
set_option maxHeartbeats 8000000 in
theorem getParent_any {K : Nat → Prop} {B : Nat} {t : St} (ad : Option Addr) (n c : Nat) (l : List Nd) (w : World) (h : IT K B t w) (hns : ∀ w', Turns B w w' → NS w' ad n l) (hl : Low l n) (hn : n ≤ 1099511627776) :
    Calls Try.prog 52 #[.pointer (some ⟨B, 0, none⟩), .slice ad n c] w fun e w' => e = .returned (.int .i64 (rpar t l)) ∧ Turns B w w' ∧ IT K B (rst t l) w' := by
  have HN : Hid (l.length = n) := (hns w (Turns.refl _ _)).1
  have HI := Lib.hid h
  rcases Nat.eq_zero_or_pos n with h0 | h0
  · subst h0
    clear h hns
    go_enter Try.func52, Try.ntmps52
    go_wp2_with fail
    go_ret
    rw [(rpar0 t HN.out).1, (rpar0 t HN.out).2]
    exact ⟨rfl, Turns.refl _ _, HI.out⟩
  · obtain ⟨b, off, rfl, _⟩ := (hns w (Turns.refl _ _)).pars h0
    have HC : Hid (∀ w', Turns B w w' → ∀ i, i < n → w'.cell? ⟨b, off + i * 49 + 48, none⟩ = some (.int .i64 (nd l i).p)) := fun w' h' => by
      obtain ⟨b', off', e, hc⟩ := (hns w' h').pars h0
      cases e
      exact hc
    have HL := Lib.hid hl
    have hb4 := tkV_bound (n := 4) h.ok
    have hn0 : ((n : Int) == 0) = false := by simp; omega
    obtain ⟨S, hS⟩ : ∃ S : Nat, tkV 4 t.l = (S : Int) := ⟨(tkV 4 t.l).toNat, by omega⟩
    have HR : Hid (rpar t l = upN l S ((n : Int) - 1)) := by
      unfold Hid rpar
      rw [if_neg (by have := HN.out; omega), hS, HN.out]; rfl
    have HR2 : Hid (rst t l = if rpar t l < 0 then ⟨[], true⟩ else adv 4 t) := by
      unfold Hid rst
      rw [if_neg (by have := HN.out; omega)]
    have hS32 : (S : Int) < 4294967296 := by omega
    have H4 := Lib.hid h.four
    rw [hS] at H4
    obtain ⟨m, hm⟩ : ∃ m : Int, (n : Int) - 1 = m := ⟨_, rfl⟩
    rw [hm] at HR
    have hm0 : 0 ≤ m := by omega
    have hmn : m < n := by omega
    clear h hns hl hb4 hS
    go_enter Try.func52, Try.ntmps52
    go_wp2_with (go_at_call 50; refine H4.out.mono ?_; clear H4; rintro _ w1 ⟨rfl, ht1, hi1⟩; have R1 := Lib.hid (And.intro ht1 hi1); clear ht1 hi1)
    clear hm
    go_loopw [5, 6] (fun a s wr => ∃ j : Nat, j ≤ S ∧ a = .int .i64 (upN l j m) ∧ s = .int .u32 ((S - j : Nat) : Int) ∧ wr = w1) (fun _ s _ => (intOf s).toNat)
    case atStart => exact ⟨0, Nat.zero_le _, rfl, rfl, rfl⟩
    case round =>
      obtain ⟨j, hj, rfl, rfl, rfl⟩ := hrel
      obtain ⟨u1, u2, u3⟩ := HL.out.up (m := m) (by omega) (by omega) j
      have hnext : Hid (upN l (j + 1) m = par l (upN l j m)) := rfl
      obtain ⟨A, hA⟩ : ∃ A, upN l j m = A := ⟨_, rfl⟩
      rw [hA] at u1 u2 u3
      rw [hA] at hnext
      rw [hA]
      have HAA := Lib.hid hA
      clear hA
      by_cases hA1 : A = -1
      · subst hA1
        have HE : Hid (rpar t l = -1) := by
          unfold Hid
          rw [HR.out, show S = j + (S - j) by omega, upN_add, HAA.out, up_neg]
        have HE2 : Hid (rst t l = ⟨[], true⟩) := by
          unfold Hid
          rw [HR2.out, HE.out]; rfl
        obtain ⟨T, hT⟩ : ∃ T : Nat, S - j = T := ⟨_, rfl⟩
        rw [hT]
        clear hT
        clear u3 hS32 u1 u2
        by_cases hT0 : 0 < T
        all_goals
          go_wp2_with (go_at_call 62; refine (IT.fail R1.out.2).mono ?_; rintro _ w2 ⟨rfl, ht2, hi2⟩; have R2 := Lib.hid (And.intro ht2 hi2); clear ht2 hi2)
          go_ret
          rw [HE.out, HE2.out]
          exact ⟨rfl, R1.out.1.trans R2.out.1, R2.out.2⟩
      · have hA0 : 0 ≤ A := by omega
        obtain ⟨x, rfl⟩ := Int.eq_ofNat_of_zero_le hA0
        have hne : (((x : Nat) : Int) == -1) = false := by simp
        by_cases hlt : j < S
        · have ca := HC.out wr R1.out.1 x (by omega)
          have hx' : (x : Int) < (n : Int) := by omega
          obtain ⟨T, hT⟩ : ∃ T : Nat, S - j = T := ⟨_, rfl⟩
          have hT1 : 0 < T := by omega
          have hw : IntKind.u32.wrap ((T : Int) - 1) = ((T - 1 : Nat) : Int) := by rw [IntKind.wrap_u32]; omega
          obtain ⟨U, hU⟩ : ∃ U : Nat, T - 1 = U := ⟨_, rfl⟩
          rw [hU] at hw
          have HT : Hid (S - (j + 1) = U) := by unfold Hid; omega
          have HT3 : Hid (U < T) := by unfold Hid; omega
          rw [hT]
          clear hT u3 hS32 hU
          go_wp2_with fail
          refine ⟨⟨j + 1, hlt, by rw [hnext.out, par_nat], ?_, trivial⟩, ?_⟩
          · rw [HT.out]
          · have := HT3.out
            simp [intOf]; omega
        · obtain rfl : j = S := by omega
          have HE : Hid (rpar t l = x) := by unfold Hid; rw [HR.out, HAA.out]
          have HE2 : Hid (rst t l = adv 4 t) := by
            unfold Hid
            rw [HR2.out, HE.out, if_neg (by omega)]
          rw [Nat.sub_self]
          clear u3
          go_wp2_with fail
          go_ret
          rw [HE.out, HE2.out]
          exact ⟨rfl, R1.out⟩
end Go.Proofs.Ythphmhcgnkoigaa
