/- Contract of slices.IsSortedFunc over entries, with Entry.Compare. -/
import Derived.Test.YtacdgfihabjfkaaMeth
namespace Go.Proofs.Ytacdgfihabjfkaa
open Go.ChangeShapes Go.WideShapes Go.ChangeAt Go.RowKit
/-- No entry of the list is ahead of the one before it. -/
def InOrder (l : List E3) : Prop := ∀ i, i + 1 < l.length → leE (eat l i) (eat l (i + 1))
set_option maxHeartbeats 4000000 in
theorem isSorted_any (ad : Option Addr) (n c : Nat) (l : List E3) (w : World) (h : ES w ad n l) (hn : n ≤ 1000000) :
    Calls Try.prog 20 #[.slice ad n c, .func (.func 16) #[] #[]] w fun e w' => ∃ r, e = .returned (.bool r) ∧ (r = true → InOrder l) ∧ (n = 0 → r = true) ∧ Below w.heap.size w w' := by
  have HR := Lib.hid h
  clear h
  rcases Nat.eq_zero_or_pos n with rfl | hpos
  · have HO : Hid (InOrder l) := fun i hi => by rw [HR.out.1] at hi; omega
    go_enter Try.func20, Try.ntmps20
    go_wp2_with fail
    refine wp_loop_rounds 1 ?_
    rw [rounds_succ]
    go_wp2_with fail
    go_ret
    exact ⟨true, rfl, fun _ => HO.out, fun _ => rfl, Below.refl _ _⟩
  · obtain ⟨m, hmn⟩ : ∃ m, n = m + 1 := ⟨n - 1, by omega⟩
    have e0 : (n : Int) - 1 = (m : Int) := by omega
    have hml : m < n := by omega
    have HMN := Lib.hid hmn
    clear hmn
    obtain ⟨b, off, rfl, hat⟩ := HR.out.2 hpos
    have HAT := Lib.hid hat
    clear hat
    go_enter Try.func20, Try.ntmps20
    go_wp2_with fail
    go_loopw [5] (fun i wr => ∃ j : Nat, j < n ∧ i = .int .i64 j ∧ (∀ i, j ≤ i → i + 1 < n → leE (eat l i) (eat l (i + 1))) ∧ Seen w wr) (fun i _ => (intOf i).toNat)
    case atStart => exact ⟨m, hml, by go_num, fun i h1 h2 => by have := HMN.out; omega, Seen.refl _⟩
    case round =>
      obtain ⟨j, hj, rfl, hO, hs⟩ := hrel
      have HO := Lib.hid hO
      clear hO
      rcases Nat.eq_zero_or_pos j with rfl | hj0
      · have HOO : Hid (InOrder l) := fun i hi => HO.out i (Nat.zero_le _) (by rw [HR.out.1] at hi; exact hi)
        go_wp2_with fail
        go_ret
        exact ⟨true, rfl, fun _ => HOO.out, fun _ => rfl, hs⟩
      · obtain ⟨p, hjp⟩ : ∃ p, j = p + 1 := ⟨j - 1, by omega⟩
        have e1 : (j : Int) - 1 = (p : Int) := by omega
        have hpj : p < j := by omega
        have HJP := Lib.hid hjp
        clear hjp
        have hwr : IntKind.i64.wrap (p : Int) = (p : Int) := IntWalk.i64_in _ (by omega)
        have b1 : (j : Int) < (n : Int) := by omega
        have b2 : (p : Int) < (n : Int) := by omega
        have b3 : (0 : Int) < (j : Int) := by omega
        have r1 := (hs.at3 (HAT.out j hj)).rules
        have r2 := (hs.at3 (HAT.out p (by omega))).rules
        obtain ⟨z, hz⟩ : ∃ z, cmpE (eat l j) (eat l p) = z := ⟨_, rfl⟩
        have HZ := Lib.hid hz
        have HD : Hid (decide (z < 0) = ltE (eat l j) (eat l p)) := by rw [← hz]; exact lt_decide _ _
        clear hz
        go_wp2_with fail
        refine wp_region_quiet (C := Seen wr) (by kernel_rfl) (by kernel_rfl) (Seen.drew (Seen.refl _)) ?_
        simp only []
        repeat (first
          | go_big_quiet_skip
          | (go_big_quiet_want
             apply Exists.intro
             refine ⟨fun w1 h1 => ?_, ?_⟩
             focus
               go_simp
               first | done | rfl | (go_at_call 16; with_reducible exact quiet_call h1 (isI (compare_any (eat l j) (eat l p) _) HZ.out))
             (try simp only [Act.put, List.setIfInBounds_toArray, List.set_cons_zero, List.set_cons_succ])
             go_big_quiet_on))
        refine wpQuiet_nil ?_
        intro w3 h3
        clear r1 r2
        by_cases hz0 : z < 0
        · go_wp2_with fail
          go_ret
          exact ⟨false, rfl, (fun e => by cases e), (fun e => by omega), hs.trans h3⟩
        · have HLE : Hid (leE (eat l p) (eat l j)) := by
            unfold Hid leE
            rw [← HD.out, decide_eq_false_iff_not]; exact hz0
          go_wp2_with fail
          go_roundw
          case rel => exact ⟨p, by omega, by go_num, fun i h1 h2 => by
            rcases Nat.eq_or_lt_of_le h1 with e | e
            · rw [← e, ← HJP.out]; exact HLE.out
            · exact HO.out i (by rw [HJP.out]; exact e) h2, hs.trans h3⟩
          case measure => simp [intOf]; omega
end Go.Proofs.Ytacdgfihabjfkaa
