/- Contracts of the reference's Below, End, Kids, Flow and Up, at lists that are trees; no conditions beyond those written in each theorem. -/
import Derived.Test.YtdnohhcoapkhaaaRefKin
namespace Go.Proofs.Ytdnohhcoapkhaaa
open Go.ChangeShapes Go.WideShapes Go.ChangeAt Go.RowKit
set_option maxRecDepth 100000
set_option maxHeartbeats 4000000 in
theorem refBelow_any (ad : Option Addr) (n c : Nat) (l : List Nd) (a m : Int) (w : World) (h : NS w ad n l) (hf : FormedT l) (hn : n ≤ 1000000) :
    Calls Try.prog 14 #[.slice ad n c, .int .i64 a, .int .i64 m] w fun e w' => e = .returned (.bool (belV l a m)) ∧ w' = w := by
  have HN : Hid (l.length = n) := h.1
  rw [belV_ref hf]
  cases ha : inB l a
  · have hno := inB_no ha
    rw [HN.out] at hno
    clear h hf ha
    rw [Bool.false_and]
    rcases Int.lt_or_le a 0 with hm | hm
    · have hm0 : ¬ 0 ≤ a := by omega
      clear hno
      go_enter Try.func14, Try.ntmps14
      go_wp2_with fail
      go_ret
      exact ⟨rfl, rfl⟩
    · have hm1 : ¬ a < (n : Int) := by omega
      clear hno
      go_enter Try.func14, Try.ntmps14
      go_wp2_with fail
      go_ret
      exact ⟨rfl, rfl⟩
  · obtain ⟨k, hk, rfl⟩ := inB_iff.1 ha
    rw [Bool.true_and]
    have hk0 : 0 ≤ (k : Int) := by omega
    have hk2 : (k : Int) < (n : Int) := by have := HN.out; omega
    cases hb : inB l m
    · have hno := inB_no hb
      rw [HN.out] at hno
      clear h hf ha hb
      rw [Bool.false_and]
      rcases Int.lt_or_le m 0 with hm | hm
      · have hm0 : ¬ 0 ≤ m := by omega
        clear hno
        go_enter Try.func14, Try.ntmps14
        go_wp2_with fail
        go_ret
        exact ⟨rfl, rfl⟩
      · have hm1 : ¬ m < (n : Int) := by omega
        clear hno
        go_enter Try.func14, Try.ntmps14
        go_wp2_with fail
        go_ret
        exact ⟨rfl, rfl⟩
    · obtain ⟨q, hq, rfl⟩ := inB_iff.1 hb
      rw [Bool.true_and]
      have hq0 : 0 ≤ (q : Int) := by omega
      have hq2 : (q : Int) < (n : Int) := by have := HN.out; omega
      have HAB := Lib.hid (above_any ad n c l (k : Int) (q : Int) w h hk0 hq0 hq2 (by omega) (hf.low.less (by omega)))
      clear h hf ha hb hk hq
      go_enter Try.func14, Try.ntmps14
      go_wp2_with (go_at_call 39; refine HAB.out.mono ?_; clear HAB; rintro e w1 ⟨rfl, rfl⟩)
      go_ret
      exact ⟨rfl, rfl⟩
/-- The last node ahead of k that is m or below it. -/
def lastTo (l : List Nd) (m : Int) (k : Nat) : Int := if inB l m = true ∧ m.toNat < k then (min k (endN l m.toNat) : Nat) - 1 else -1
theorem last_step (l : List Nd) (m : Int) (k : Nat) : lastTo l m (k + 1) = if belV l m k then (k : Int) else lastTo l m k := by
  unfold lastTo belV endV
  cases hb : inB l m
  · simp
  · obtain ⟨q, hq, rfl⟩ := inB_iff.1 hb
    have := end_low hq
    have := end_le hq
    simp only [Int.toNat_natCast, Bool.true_and, true_and, if_true]
    cases hd : (decide ((q : Int) ≤ (k : Int)) && decide ((k : Int) < (endN l q : Int)))
    · rw [Bool.and_eq_false_iff, decide_eq_false_iff_not, decide_eq_false_iff_not] at hd
      simp only [Bool.false_eq_true, if_false]
      split <;> split <;> omega
    · rw [Bool.and_eq_true, decide_eq_true_iff, decide_eq_true_iff] at hd
      simp only [if_true]
      split <;> omega
theorem last_end (l : List Nd) (m : Int) : lastTo l m l.length + 1 = endV l m := by
  unfold lastTo endV
  cases hb : inB l m
  · rfl
  · obtain ⟨q, hq, rfl⟩ := inB_iff.1 hb
    have := end_low hq
    have := end_le hq
    simp only [Int.toNat_natCast, true_and, if_true]
    rw [if_pos hq]
    omega
theorem last_bound (l : List Nd) (m : Int) (k : Nat) : -1 ≤ lastTo l m k ∧ lastTo l m k < k ∨ lastTo l m k = -1 := by
  unfold lastTo
  split
  · rename_i h
    omega
  · exact .inr rfl
set_option maxHeartbeats 4000000 in
theorem refEnd_any (ad : Option Addr) (n c : Nat) (l : List Nd) (m : Int) (w : World) (h : NS w ad n l) (hf : FormedT l) (hn : n ≤ 1000000) :
    Calls Try.prog 32 #[.slice ad n c, .int .i64 m] w fun e w' => e = .returned (.int .i64 (endV l m : Nat)) ∧ w' = w := by
  have HN : Hid (l.length = n) := h.1
  have HB : Hid (∀ k : Nat, Calls Try.prog 14 #[.slice ad n c, .int .i64 m, .int .i64 k] w fun e w' => e = .returned (.bool (belV l m k)) ∧ w' = w) := fun k => refBelow_any ad n c l m k w h hf hn
  clear h hf
  go_enter Try.func32, Try.ntmps32
  go_wp2_with fail
  go_loopw [5, 9] (fun s x wr => ∃ k : Nat, x = .int .i64 k ∧ k ≤ n ∧ s = .int .i64 (lastTo l m k) ∧ wr = w) (fun _ x _ => n - (intOf x).toNat)
  case atStart => exact ⟨0, rfl, by omega, by unfold lastTo; rw [if_neg (by omega)], rfl⟩
  case round =>
    obtain ⟨k, rfl, hk, rfl, rfl⟩ := hrel
    by_cases hlt : k < n
    · have hk' : (k : Int) < (n : Int) := by omega
      have HS : Hid (lastTo l m (k + 1) = if belV l m k then (k : Int) else lastTo l m k) := last_step l m k
      have HB1 := Lib.hid (HB.out k)
      obtain ⟨b, hb⟩ : ∃ b, belV l m k = b := ⟨_, rfl⟩
      rw [hb] at HB1 HS
      clear hb
      cases b
      all_goals
        go_wp2_with (go_at_call 14; refine HB1.out.mono ?_; clear HB1; rintro e w1 ⟨rfl, rfl⟩)
        go_roundw
        case rel => exact ⟨k + 1, by go_num, by omega, by rw [HS.out]; rfl, trivial⟩
        case measure => simp [intOf]; omega
    · have hk' : ¬ (k : Int) < (n : Int) := by omega
      obtain rfl : k = n := by omega
      have HL : Hid (lastTo l m k + 1 = (endV l m : Nat)) := by
        have := last_end l m
        rw [HN.out] at this
        exact this
      have hb := last_bound l m k
      obtain ⟨A, hA⟩ : ∃ A, lastTo l m k = A := ⟨_, rfl⟩
      rw [hA] at HL hb ⊢
      clear hA
      have h1 : -9223372036854775808 ≤ A + 1 := by omega
      have h2 : A + 1 < 9223372036854775808 := by omega
      go_wp2_with fail
      go_ret
      rw [← HL.out]
      exact ⟨rfl, rfl⟩
set_option maxHeartbeats 4000000 in
theorem refKids_any (ad : Option Addr) (n c : Nat) (l : List Nd) (m : Int) (w : World) (h : NS w ad n l) (hn : n ≤ 1000000) :
    Calls Try.prog 34 #[.slice ad n c, .int .i64 m] w (RowI w (kidsTo l m n)) := by
  have HS := Lib.hid h
  clear h
  go_enter Try.func34, Try.ntmps34
  go_wp2_with fail
  go_loopw [5, 9] (fun s x wr => ∃ k : Nat, x = .int .i64 k ∧ k ≤ n ∧ RI wr w.heap.size s (kidsTo l m k) ∧ Seen w wr) (fun _ x _ => n - (intOf x).toNat)
  case atStart => exact ⟨0, rfl, by omega, RI.nil _ _, Seen.refl _⟩
  case round =>
    obtain ⟨k, rfl, hk, hrow, hs⟩ := hrel
    have S1 := Lib.hid hs
    have HR := Lib.hid hrow
    clear hs hrow
    have hlen := kids_length l m k
    have HST : Hid (kidsTo l m (k + 1) = kidsTo l m k ++ (if kidB l m k then [(k : Int)] else [])) := kids_step l m k
    by_cases hlt : k < n
    · have hk' : (k : Int) < (n : Int) := by omega
      obtain ⟨b, off, rfl, hc⟩ := HS.out.ats (by omega)
      have cp := ((hc k hlt).seen S1.out).par
      clear hc
      unfold kidB at HST
      obtain ⟨P, hP⟩ : ∃ P, (nd l k).p = P := ⟨_, rfl⟩
      rw [hP] at cp HST
      clear hP
      rcases Nat.eq_zero_or_pos k with h0 | h0
      · subst h0
        go_wp2_with fail
        go_roundw
        case rel =>
          refine ⟨0 + 1, by go_num, by omega, ?_, S1.out⟩
          rw [HST.out]
          simpa using HR.out
        case measure => simp [intOf]; omega
      · have hk0 : (k : Int) > 0 := by omega
        have ek : Hid (decide (0 < k) = true) := decide_eq_true h0
        rw [ek.out, Bool.true_and] at HST
        cases hq : (P == m)
        · rw [hq] at HST
          go_wp2_with fail
          go_roundw
          case rel =>
            refine ⟨k + 1, by go_num, by omega, ?_, S1.out⟩
            rw [HST.out]
            simpa using HR.out
          case measure => simp [intOf]; omega
        · rw [hq] at HST
          go_wp2_with (at_builtin; refine wpList_pushI rfl (.tmp 23) (.tmp 25) rfl w.heap.size u5 (kidsTo l m k) k rfl rfl HR.out (by omega) S1.out.size ?_; intro v3 w3 hr3 hb3; have R3 := Lib.hid hr3; have S3 : Hid (Seen w w3) := Below.trans S1.out hb3; clear hr3 hb3)
          go_roundw
          case rel =>
            refine ⟨k + 1, by go_num, by omega, ?_, S3.out⟩
            rw [HST.out]
            exact R3.out
          case measure => simp [intOf]; omega
    · have hk' : ¬ (k : Int) < (n : Int) := by omega
      obtain rfl : k = n := by omega
      go_wp2_with fail
      go_ret
      exact ⟨_, rfl, HR.out, S1.out⟩
set_option maxHeartbeats 8000000 in
theorem refFlow_any (ad : Option Addr) (n c : Nat) (l : List Nd) (m : Int) (w : World) (h : NS w ad n l) (hf : FormedT l) (hn : n ≤ 1000000) :
    Calls Try.prog 35 #[.slice ad n c, .int .i64 m] w (RowI w (flowTo l m n)) := by
  have HN : Hid (l.length = n) := h.1
  have HS := Lib.hid h
  have HMD : Hid (∀ w', Seen w w' → ∀ k : Nat, k < n → Calls Try.prog 30 #[.slice ad n c, .int .i64 k] w' fun e w'' => e = .returned (.bool (madeB l k)) ∧ w'' = w') := fun w' h' k hk => by
    have := refMade_any ad n c l k w' (h.seen h') hf hn
    rw [inB_nat (by have := HN.out; omega), Bool.true_and] at this
    exact this
  have HOD : Hid (∀ w', Seen w w' → ∀ k : Nat, k < n → Calls Try.prog 31 #[.slice ad n c, .int .i64 k] w' fun e w'' => e = .returned (.bool (outB l k)) ∧ w'' = w') := fun w' h' k hk => by
    have := refOut_any ad n c l k w' (h.seen h') hf hn
    rw [inB_nat (by have := HN.out; omega), Bool.true_and] at this
    exact this
  clear h hf
  go_enter Try.func35, Try.ntmps35
  go_wp2_with fail
  go_loopw [5, 9] (fun s x wr => ∃ k : Nat, x = .int .i64 k ∧ k ≤ n ∧ RI wr w.heap.size s (flowTo l m k) ∧ Seen w wr) (fun _ x _ => n - (intOf x).toNat)
  case atStart => exact ⟨0, rfl, by omega, RI.nil _ _, Seen.refl _⟩
  case round =>
    obtain ⟨k, rfl, hk, hrow, hs⟩ := hrel
    have S1 := Lib.hid hs
    have HR := Lib.hid hrow
    clear hs hrow
    have hlen := flow_length l m k
    have HST : Hid (flowTo l m (k + 1) = flowTo l m k ++ (if kidB l m k && flowF l k then [(k : Int)] else [])) := flow_step l m k
    by_cases hlt : k < n
    · have hk' : (k : Int) < (n : Int) := by omega
      have HM1 := Lib.hid (HMD.out _ S1.out k hlt)
      have HO1 := Lib.hid (HOD.out _ S1.out k hlt)
      obtain ⟨b, off, rfl, hc⟩ := HS.out.ats (by omega)
      have cp := ((hc k hlt).seen S1.out).par
      clear hc
      unfold kidB flowF at HST
      obtain ⟨P, hP⟩ : ∃ P, (nd l k).p = P := ⟨_, rfl⟩
      rw [hP] at cp HST
      clear hP
      obtain ⟨A, hA⟩ : ∃ A, madeB l (k : Int) = A := ⟨_, rfl⟩
      obtain ⟨O, hO⟩ : ∃ O, outB l (k : Int) = O := ⟨_, rfl⟩
      rw [hA] at HM1 HST
      rw [hO] at HO1 HST
      clear hA hO
      rcases Nat.eq_zero_or_pos k with h0 | h0
      · subst h0
        clear HM1 HO1
        go_wp2_with fail
        go_roundw
        case rel =>
          refine ⟨0 + 1, by go_num, by omega, ?_, S1.out⟩
          rw [HST.out]
          simpa using HR.out
        case measure => simp [intOf]; omega
      · have hk0 : (k : Int) > 0 := by omega
        have ek : Hid (decide (0 < k) = true) := decide_eq_true h0
        rw [ek.out, Bool.true_and] at HST
        cases hq : (P == m)
        · rw [hq] at HST
          clear HM1 HO1
          go_wp2_with fail
          go_roundw
          case rel =>
            refine ⟨k + 1, by go_num, by omega, ?_, S1.out⟩
            rw [HST.out]
            simpa using HR.out
          case measure => simp [intOf]; omega
        · rw [hq] at HST
          cases A
          · clear HO1
            go_wp2_with (go_at_call 30; refine HM1.out.mono ?_; clear HM1; rintro e w3 ⟨rfl, rfl⟩)
            go_roundw
            case rel =>
              refine ⟨k + 1, by go_num, by omega, ?_, S1.out⟩
              rw [HST.out]
              simpa using HR.out
            case measure => simp [intOf]; omega
          · cases O
            · go_wp2_with (first
                | (go_at_call 30; refine HM1.out.mono ?_; clear HM1; rintro e w3 ⟨rfl, rfl⟩)
                | (go_at_call 31; refine HO1.out.mono ?_; clear HO1; rintro e w3 ⟨rfl, rfl⟩)
                | (at_builtin; refine wpList_pushI rfl (.tmp 34) (.tmp 36) rfl w.heap.size u5 (flowTo l m k) k rfl rfl HR.out (by omega) S1.out.size ?_; intro v3 w3 hr3 hb3; have R3 := Lib.hid hr3; have S3 : Hid (Seen w w3) := Below.trans S1.out hb3; clear hr3 hb3))
              go_roundw
              case rel =>
                refine ⟨k + 1, by go_num, by omega, ?_, S3.out⟩
                rw [HST.out]
                exact R3.out
              case measure => simp [intOf]; omega
            · go_wp2_with (first
                | (go_at_call 30; refine HM1.out.mono ?_; clear HM1; rintro e w3 ⟨rfl, rfl⟩)
                | (go_at_call 31; refine HO1.out.mono ?_; clear HO1; rintro e w3 ⟨rfl, rfl⟩))
              go_roundw
              case rel =>
                refine ⟨k + 1, by go_num, by omega, ?_, S1.out⟩
                rw [HST.out]
                simpa using HR.out
              case measure => simp [intOf]; omega
    · have hk' : ¬ (k : Int) < (n : Int) := by omega
      obtain rfl : k = n := by omega
      go_wp2_with fail
      go_ret
      exact ⟨_, rfl, HR.out, S1.out⟩
set_option maxHeartbeats 4000000 in
theorem refUp_any (ad : Option Addr) (n c : Nat) (l : List Nd) (k : Nat) (w : World) (h : NS w ad n l) (hf : FormedT l) (hn : n ≤ 1000000) (hk : k < n) :
    Calls Try.prog 36 #[.slice ad n c, .int .i64 k] w (RowI w (upTo l k (deep l k - 1))) := by
  have HN : Hid (l.length = n) := h.1
  obtain ⟨b, off, rfl, hc⟩ := h.ats (by omega)
  have HC := Lib.hid hc
  have HF := Lib.hid hf
  have cp := (hc k hk).par
  have e1 : Hid (upN l 1 (k : Int) = (nd l k).p) := par_nat l k
  obtain ⟨P, hP⟩ : ∃ P, (nd l k).p = P := ⟨_, rfl⟩
  rw [hP] at cp e1
  clear h hf hc hP
  have hk0 : ¬ (k : Int) < 0 := by omega
  have hk1 : ¬ (n : Int) ≤ (k : Int) := by omega
  have hk2 : (k : Int) < (n : Int) := by omega
  go_enter Try.func36, Try.ntmps36
  go_wp2_with fail
  go_loopw [5, 6] (fun s x wr => ∃ j : Nat, x = .int .i64 (upN l (j + 1) k) ∧ (∀ i, i < j + 1 → 0 ≤ upN l i k) ∧ RI wr w.heap.size s (upTo l k j) ∧ Seen w wr) (fun _ x _ => (intOf x + 1).toNat)
  case atStart =>
    refine ⟨0, by rw [e1.out], fun i hi => ?_, RI.nil _ _, Seen.refl _⟩
    obtain rfl : i = 0 := by omega
    show (0 : Int) ≤ k
    omega
  case round =>
    obtain ⟨j, rfl, hall, hrow, hs⟩ := hrel
    have S2 := Lib.hid hs
    have HR := Lib.hid hrow
    have HA := Lib.hid hall
    clear hs hrow hall
    obtain ⟨u1, u2, u5'⟩ := HF.out.low.up (m := (k : Int)) (by omega) (by have := HN.out; omega) (j + 1)
    have u3 := (HF.out.low.up (m := (k : Int)) (by omega) (by have := HN.out; omega) j).2.2 (HA.out j (by omega))
    have hnext : Hid (upN l (j + 1 + 1) (k : Int) = par l (upN l (j + 1) k)) := rfl
    have hj : j ≤ 1000000 := by
      have := HA.out j (by omega)
      omega
    have hst : Hid (upTo l k (j + 1) = upTo l k j ++ [upN l (j + 1) k]) := upTo_step l k j
    have HD : Hid (upN l (j + 1) (k : Int) < 0 → deep l k = j + 1) := fun h0 => deep_is (n := l.length) (Nat.le_refl _) HF.out.low (by omega) (by have := HN.out; omega) h0 HA.out
    have hlen := upTo_length l k j
    obtain ⟨A, hA⟩ : ∃ A, upN l (j + 1) (k : Int) = A := ⟨_, rfl⟩
    rw [hA] at u1 u2 hnext hst HD ⊢
    have HAA := Lib.hid hA
    clear hA u3 u5'
    by_cases hge : 0 ≤ A
    · obtain ⟨x, rfl⟩ := Int.eq_ofNat_of_zero_le hge
      have HCX : Hid (∀ w', Seen w w' → w'.cell? ⟨b, off + x * 49 + 48, none⟩ = some (.int .i64 (nd l x).p)) := fun w' h' => ((HC.out x (by omega)).seen h').par
      have hx2 : (x : Int) < (n : Int) := by omega
      rw [par_nat] at hnext
      have u4 : Hid (-1 ≤ (nd l x).p ∧ (nd l x).p < x) := HF.out.low x (by have := HN.out; omega)
      obtain ⟨B, hB⟩ : ∃ B, (nd l x).p = B := ⟨_, rfl⟩
      rw [hB] at HCX hnext u4
      clear hB
      go_wp2_with (at_builtin; refine wpList_pushI rfl (.tmp 27) (.tmp 29) rfl w.heap.size u5 (upTo l k j) x rfl rfl HR.out (by omega) S2.out.size ?_; intro v3 w3 hr3 hb3; have R3 := Lib.hid hr3; have S3 : Hid (Seen w w3) := Below.trans S2.out hb3; clear hr3 hb3; have cx := HCX.out w3 S3.out)
      go_roundw
      case rel =>
        refine ⟨j + 1, by rw [hnext.out], fun i hi => ?_, ?_, S3.out⟩
        · rcases Nat.lt_or_ge i (j + 1) with h | h
          · exact HA.out i h
          · obtain rfl : i = j + 1 := by omega
            rw [HAA.out]; exact hge
        · rw [hst.out]; exact R3.out
      case measure =>
        have := u4.out
        simp [intOf]; omega
    · obtain rfl : A = -1 := by omega
      go_wp2_with fail
      go_ret
      rw [HD.out (by omega)]
      exact ⟨_, rfl, HR.out, S2.out⟩
end Go.Proofs.Ytdnohhcoapkhaaa
