/- Contract of the reference's Least: -1 for an empty list, else a place at which a least entry stands. -/
import Derived.Test.YtacdgfihabjfkaaMeth
namespace Go.Proofs.Ytacdgfihabjfkaa
open Go.ChangeShapes Go.WideShapes Go.ChangeAt Go.RowKit
theorem isB {P : Program} {f : FuncId} {args : Array Value} {b c : Bool} {w : World} (h : Calls P f args w fun e w' => e = .returned (.bool b) ∧ Below w.heap.size w w') (hb : b = c) :
    Calls P f args w fun e w' => e = .returned (.bool c) ∧ Below w.heap.size w w' := hb ▸ h
/-- a is a place of a least entry among the first n. -/
def LeastAt (l : List E3) (n a : Nat) : Prop := a < n ∧ ∀ i, i < n → leE (eat l a) (eat l i)
theorem least_take {l : List E3} {k a : Nat} (h : LeastAt l k a) (hl : ltE (eat l k) (eat l a) = true) : LeastAt l (k + 1) k :=
  ⟨by omega, fun i hi => by
    rcases Nat.lt_succ_iff_lt_or_eq.1 hi with h1 | rfl
    · exact leE_trans (leE_of_lt hl) (h.2 i h1)
    · exact leE_refl _⟩
theorem least_keep {l : List E3} {k a : Nat} (h : LeastAt l k a) (hl : ltE (eat l k) (eat l a) = false) : LeastAt l (k + 1) a :=
  ⟨by have := h.1; omega, fun i hi => by
    rcases Nat.lt_succ_iff_lt_or_eq.1 hi with h1 | rfl
    · exact h.2 i h1
    · exact hl⟩
theorem least_one (l : List E3) : LeastAt l 1 0 := ⟨by omega, fun i hi => by have e : i = 0 := by omega
                                                                             rw [e]; exact leE_refl _⟩
/-- What Least answers. -/
def LeastR (l : List E3) (n : Nat) (r : Int) : Prop := (n = 0 ∧ r = -1) ∨ ∃ a : Nat, r = (a : Int) ∧ LeastAt l n a
set_option maxHeartbeats 4000000 in
theorem least_any (ad : Option Addr) (n c : Nat) (l : List E3) (w : World) (h : ES w ad n l) (hn : n ≤ 1000000) :
    Calls Try.prog 8 #[.slice ad n c] w fun e w' => (∃ r, e = .returned (.int .i64 r) ∧ LeastR l n r) ∧ Below w.heap.size w w' := by
  have HR := Lib.hid h
  clear h
  go_enter Try.func8, Try.ntmps8
  go_wp2_with fail
  go_loopw [3, 7] (fun at_ i wr => ∃ (k : Nat) (r : Int), k ≤ n ∧ i = .int .i64 k ∧ at_ = .int .i64 r ∧ LeastR l k r ∧ Seen w wr) (fun _ i _ => n - (intOf i).toNat)
  case atStart => exact ⟨0, -1, Nat.zero_le _, rfl, rfl, .inl ⟨rfl, rfl⟩, Seen.refl _⟩
  case round =>
    obtain ⟨k, r, hk, rfl, rfl, hL, hs⟩ := hrel
    by_cases hlt : k < n
    · obtain ⟨b, off, rfl, hat⟩ := HR.out.2 (by omega)
      have hkk : (k : Int) < (n : Int) := by omega
      rcases hL with ⟨rfl, rfl⟩ | ⟨a, rfl, hA⟩
      · clear hat
        go_wp2_with fail
        refine wp_region_quiet (C := Seen wr) (by kernel_rfl) (by kernel_rfl) (Seen.drew (Seen.refl _)) ?_
        simp only []
        repeat (first
          | go_big_quiet_skip
          | (go_big_quiet_want
             apply Exists.intro
             refine ⟨fun w1 h1 => ?_, ?_⟩
             focus
               go_simp
               first | done | rfl
             (try simp only [Act.put, List.setIfInBounds_toArray, List.set_cons_zero, List.set_cons_succ])
             go_big_quiet_on))
        refine wpQuiet_nil ?_
        intro w3 h3
        go_wp2_with fail
        go_roundw
        case rel => exact ⟨1, 0, by omega, by go_num, rfl, .inr ⟨0, rfl, least_one l⟩, hs.trans h3⟩
        case measure => simp [intOf]; omega
      · have hak : a < k := hA.1
        have haa : (a : Int) < (n : Int) := by omega
        have ha0 : decide ((a : Int) < 0) = false := by rw [decide_eq_false_iff_not]; omega
        have r1 := ((hs.at3 (hat k hlt))).rules
        have r2 := ((hs.at3 (hat a (by omega)))).rules
        have HA := Lib.hid hA
        obtain ⟨q, hq⟩ : ∃ q, ltE (eat l k) (eat l a) = q := ⟨_, rfl⟩
        have HQ := Lib.hid hq
        clear hat hA hq
        cases q with
        | true =>
          go_wp2_with fail
          refine wp_region_quiet (C := Seen wr) (by kernel_rfl) (by kernel_rfl) (Seen.drew (Seen.refl _)) ?_
          simp only []
          repeat (first
            | go_big_quiet_skip
            | (go_big_quiet_want
               apply Exists.intro
               refine ⟨fun w1 h1 => ?_, ?_⟩
               focus
                 go_simp
                 first | done | rfl | (go_at_call 17; with_reducible exact quiet_call h1 (isB (refLess_any (eat l k) (eat l a) _) HQ.out))
               (try simp only [Act.put, List.setIfInBounds_toArray, List.set_cons_zero, List.set_cons_succ])
               go_big_quiet_on))
          refine wpQuiet_nil ?_
          intro w3 h3
          clear r1 r2
          go_wp2_with fail
          go_roundw
          case rel => exact ⟨k + 1, k, by omega, by go_num, rfl, .inr ⟨k, rfl, least_take HA.out HQ.out⟩, hs.trans h3⟩
          case measure => simp [intOf]; omega
        | false =>
          go_wp2_with fail
          refine wp_region_quiet (C := Seen wr) (by kernel_rfl) (by kernel_rfl) (Seen.drew (Seen.refl _)) ?_
          simp only []
          repeat (first
            | go_big_quiet_skip
            | (go_big_quiet_want
               apply Exists.intro
               refine ⟨fun w1 h1 => ?_, ?_⟩
               focus
                 go_simp
                 first | done | rfl | (go_at_call 17; with_reducible exact quiet_call h1 (isB (refLess_any (eat l k) (eat l a) _) HQ.out))
               (try simp only [Act.put, List.setIfInBounds_toArray, List.set_cons_zero, List.set_cons_succ])
               go_big_quiet_on))
          refine wpQuiet_nil ?_
          intro w3 h3
          clear r1 r2
          go_wp2_with fail
          go_roundw
          case rel => exact ⟨k + 1, a, by omega, by go_num, rfl, .inr ⟨a, rfl, least_keep HA.out HQ.out⟩, hs.trans h3⟩
          case measure => simp [intOf]; omega
    · have hkn : k = n := by omega
      have HL : Hid (LeastR l n r) := hkn ▸ hL
      have hnk : ¬ (k : Int) < (n : Int) := by omega
      clear hL hkn
      go_wp2_with fail
      go_ret
      exact ⟨⟨r, rfl, HL.out⟩, hs⟩
end Go.Proofs.Ytacdgfihabjfkaa
