/- Texts of the proof, merged: RefKin, RefKin2. -/
import Derived.Test.YtlnnaegmcopiiaaM15
/- Contracts of the reference's Made, Out, Below, End, Kids, Flow and Up, at lists that are trees; no conditions beyond those written in each theorem. -/
namespace Go.Proofs.Ytlnnaegmcopiiaa
open Go.ChangeShapes Go.WideShapes Go.ChangeAt Go.RowKit
set_option maxRecDepth 100000
theorem At.shown {w : World} {b o : Nat} {x : Nd} (h : At w b o x) : w.cell? ⟨b, o, none⟩ = some (.bool x.s.shown) := h.sty 0 _ (stl0 _)
theorem At.pos {w : World} {b o : Nat} {x : Nd} (h : At w b o x) : w.cell? ⟨b, o + 1, none⟩ = some (.int .i64 x.s.pos) := h.sty 1 _ (stl1 _)
theorem inB_no {l : List Nd} {n : Int} (h : inB l n = false) : n < 0 ∨ (l.length : Int) ≤ n := by
  unfold inB at h
  rw [Bool.and_eq_false_iff, decide_eq_false_iff_not, decide_eq_false_iff_not] at h
  omega
set_option maxHeartbeats 4000000 in
theorem refMade_any (ad : Option Addr) (n c : Nat) (l : List Nd) (m : Int) (w : World) (h : NS w ad n l) (hf : FormedT l) (hn : n ≤ 1000000) :
    Calls Try.prog 23 #[.slice ad n c, .int .i64 m] w fun e w' => e = .returned (.bool (inB l m && madeB l m)) ∧ w' = w := by
  have HN : Hid (l.length = n) := h.1
  cases hb : inB l m
  · have hno := inB_no hb
    rw [HN.out] at hno
    clear h hf hb
    rcases Int.lt_or_le m 0 with hm | hm
    · go_enter Try.func23, Try.ntmps23
      go_wp2_with fail
      go_ret
      exact ⟨rfl, rfl⟩
    · have hm0 : ¬ m < 0 := by omega
      have hm1 : (n : Int) ≤ m := by omega
      clear hno
      go_enter Try.func23, Try.ntmps23
      go_wp2_with fail
      go_ret
      exact ⟨rfl, rfl⟩
  · obtain ⟨k, hk, rfl⟩ := inB_iff.1 hb
    rw [Bool.true_and]
    have hkn : k < n := by have := HN.out; omega
    obtain ⟨b, off, rfl, hc⟩ := h.ats (by omega)
    have HC := Lib.hid hc
    have HF := Lib.hid hf
    clear h hf hb hc hk
    have hk0 : ¬ (k : Int) < 0 := by omega
    have hk1 : ¬ (n : Int) ≤ (k : Int) := by omega
    have hk2 : (k : Int) < (n : Int) := by omega
    go_enter Try.func23, Try.ntmps23
    go_wp2_with fail
    go_loopw [1] (fun x wr => ∃ j : Nat, x = .int .i64 (upN l j k) ∧ wr = w ∧ ∀ i, i < j → 0 ≤ upN l i k ∧ shownB l (upN l i k) = true) (fun x _ => (intOf x + 1).toNat)
    case atStart => exact ⟨0, rfl, rfl, fun j hj => absurd hj (by omega)⟩
    case round =>
      obtain ⟨j, rfl, rfl, hall⟩ := hrel
      have HA := Lib.hid hall
      clear hall
      obtain ⟨u1, u2, u3⟩ := HF.out.low.up (m := (k : Int)) (by omega) (by have := HN.out; omega) j
      have hnext : Hid (upN l (j + 1) (k : Int) = par l (upN l j k)) := rfl
      obtain ⟨A, hA⟩ : ∃ A, upN l j (k : Int) = A := ⟨_, rfl⟩
      rw [hA] at u1 u2 u3 hnext ⊢
      have HAA := Lib.hid hA
      clear hA
      by_cases hge : 0 ≤ A
      · obtain ⟨x, rfl⟩ := Int.eq_ofNat_of_zero_le hge
        have ca := (HC.out x (by omega)).par
        have cs := (HC.out x (by omega)).shown
        have ha' : (x : Int) < (n : Int) := by omega
        have HSH : Hid (shownB l (x : Int) = (nd l x).s.shown) := rfl
        obtain ⟨b1, hb1⟩ : ∃ b1, (nd l x).s.shown = b1 := ⟨_, rfl⟩
        rw [hb1] at cs HSH
        clear hb1 u3
        cases b1
        · have e1 : Hid (madeB l (k : Int) = false) := decide_eq_false fun hall => by
            have hd : j < deep l k := by
              have hsp := deep_spec (m := (k : Int)) (n := l.length) (Nat.le_refl _) HF.out.low (by omega) (by have := HN.out; omega)
              rcases Nat.lt_or_ge j (deep l k) with h | h
              · exact h
              · exfalso
                rcases Nat.eq_or_lt_of_le h with h | h
                · have := hsp.1
                  rw [h, HAA.out] at this; omega
                · have := (HA.out _ h).1
                  have := hsp.1
                  omega
            have := hall j hd
            rw [HAA.out, HSH.out] at this
            cases this
          go_wp2_with fail
          go_ret
          rw [e1.out]
          exact ⟨rfl, rfl⟩
        · go_wp2_with fail
          refine ⟨⟨j + 1, ?_, trivial, fun i hi => ?_⟩, ?_⟩
          · rw [hnext.out, par_nat]
          · rcases Nat.lt_or_ge i j with h | h
            · exact HA.out i h
            · obtain rfl : i = j := by omega
              rw [HAA.out]; exact ⟨hge, HSH.out⟩
          · have := HF.out.low.par (m := (x : Int)) (by omega) (by have := HN.out; omega)
            rw [par_nat] at this
            simp [intOf]; omega
      · have e1 : Hid (madeB l (k : Int) = true) := decide_eq_true fun i hi => by
          have := deep_is (m := (k : Int)) (n := l.length) (Nat.le_refl _) HF.out.low (by omega) (by have := HN.out; omega) (k := j) (by rw [HAA.out]; omega) fun i hi => (HA.out i hi).1
          rw [this] at hi
          exact (HA.out i hi).2
        clear u3
        go_wp2_with fail
        go_ret
        rw [e1.out]
        exact ⟨rfl, rfl⟩
set_option maxHeartbeats 4000000 in
theorem refOut_any (ad : Option Addr) (n c : Nat) (l : List Nd) (m : Int) (w : World) (h : NS w ad n l) (hf : FormedT l) (hn : n ≤ 1000000) :
    Calls Try.prog 38 #[.slice ad n c, .int .i64 m] w fun e w' => e = .returned (.bool (inB l m && outB l m)) ∧ w' = w := by
  have HN : Hid (l.length = n) := h.1
  have HM := Lib.hid (refMade_any ad n c l m w h hf hn)
  by_cases h0 : 0 < m
  · cases hb : inB l m
    · rw [hb] at HM
      clear h hf hb
      go_enter Try.func38, Try.ntmps38
      go_wp2_with (go_at_call 23; refine HM.out.mono ?_; clear HM; rintro e w1 ⟨rfl, rfl⟩)
      go_ret
      exact ⟨rfl, rfl⟩
    · rw [hb, Bool.true_and] at HM
      rw [Bool.true_and]
      obtain ⟨k, hk, rfl⟩ := inB_iff.1 hb
      have hkn : k < n := by have := HN.out; omega
      have hk2 : (k : Int) < (n : Int) := by omega
      obtain ⟨b, off, rfl, hc⟩ := h.ats (by omega)
      have cp := (hc k hkn).pos
      have e1 : Hid (outB l (k : Int) = (madeB l k && decide (2 ≤ (nd l k).s.pos))) := by
        unfold Hid outB
        rw [decide_eq_true h0, Bool.true_and, Int.toNat_natCast]
      obtain ⟨P, hP⟩ : ∃ P, (nd l k).s.pos = P := ⟨_, rfl⟩
      rw [hP] at cp e1
      obtain ⟨A, hA⟩ : ∃ A, madeB l (k : Int) = A := ⟨_, rfl⟩
      rw [hA] at HM e1
      clear h hf hb hc hk hP hA
      cases A
      · go_enter Try.func38, Try.ntmps38
        go_wp2_with (go_at_call 23; refine HM.out.mono ?_; clear HM; rintro e w1 ⟨rfl, rfl⟩)
        go_ret
        rw [e1.out]
        exact ⟨rfl, rfl⟩
      · go_enter Try.func38, Try.ntmps38
        go_wp2_with (go_at_call 23; refine HM.out.mono ?_; clear HM; rintro e w1 ⟨rfl, rfl⟩)
        go_ret
        rw [e1.out]
        exact ⟨by simp, rfl⟩
  · have e1 : Hid (outB l m = false) := by
      unfold Hid outB
      rw [decide_eq_false h0, Bool.false_and]
    clear h hf HM
    go_enter Try.func38, Try.ntmps38
    go_wp2_with fail
    go_ret
    rw [e1.out, Bool.and_false]
    exact ⟨rfl, rfl⟩
end Go.Proofs.Ytlnnaegmcopiiaa

/- Contracts of the reference's Below, End, Kids, Flow and Up, at lists that are trees; no conditions beyond those written in each theorem. -/
namespace Go.Proofs.Ytlnnaegmcopiiaa
open Go.ChangeShapes Go.WideShapes Go.ChangeAt Go.RowKit
set_option maxRecDepth 100000
/-- The last node ahead of k that is m or below it. -/
def lastTo (l : List Nd) (m : Int) (k : Nat) : Int := if inB l m = true ∧ m.toNat < k then (min k (endN l m.toNat) : Nat) - 1 else -1
theorem last_step (l : List Nd) (m : Int) (k : Nat) : lastTo l m (k + 1) = if belV l m k then (k : Int) else lastTo l m k := by
  unfold lastTo belV endV
  cases hb : inB l m
  · simp
  · obtain ⟨q, hq, rfl⟩ := inB_iff.1 hb
    have := end_low hq
    have := end_le hq
    simp only [Int.toNat_natCast, Bool.true_and, true_and, if_true]
    cases hd : (decide ((q : Int) ≤ (k : Int)) && decide ((k : Int) < (endN l q : Int)))
    · rw [Bool.and_eq_false_iff, decide_eq_false_iff_not, decide_eq_false_iff_not] at hd
      simp only [Bool.false_eq_true, if_false]
      split <;> split <;> omega
    · rw [Bool.and_eq_true, decide_eq_true_iff, decide_eq_true_iff] at hd
      simp only [if_true]
      split <;> omega
theorem last_end (l : List Nd) (m : Int) : lastTo l m l.length + 1 = endV l m := by
  unfold lastTo endV
  cases hb : inB l m
  · rfl
  · obtain ⟨q, hq, rfl⟩ := inB_iff.1 hb
    have := end_low hq
    have := end_le hq
    simp only [Int.toNat_natCast, true_and, if_true]
    rw [if_pos hq]
    omega
theorem last_bound (l : List Nd) (m : Int) (k : Nat) : -1 ≤ lastTo l m k ∧ lastTo l m k < k ∨ lastTo l m k = -1 := by
  unfold lastTo
  split
  · rename_i h
    omega
  · exact .inr rfl
set_option maxHeartbeats 8000000 in
theorem refFlow_any (ad : Option Addr) (n c : Nat) (l : List Nd) (m : Int) (w : World) (h : NS w ad n l) (hf : FormedT l) (hn : n ≤ 1000000) :
    Calls Try.prog 24 #[.slice ad n c, .int .i64 m] w (RowI w (flowTo l m n)) := by
  have HN : Hid (l.length = n) := h.1
  have HS := Lib.hid h
  have HMD : Hid (∀ w', Seen w w' → ∀ k : Nat, k < n → Calls Try.prog 23 #[.slice ad n c, .int .i64 k] w' fun e w'' => e = .returned (.bool (madeB l k)) ∧ w'' = w') := fun w' h' k hk => by
    have := refMade_any ad n c l k w' (h.seen h') hf hn
    rw [inB_nat (by have := HN.out; omega), Bool.true_and] at this
    exact this
  have HOD : Hid (∀ w', Seen w w' → ∀ k : Nat, k < n → Calls Try.prog 38 #[.slice ad n c, .int .i64 k] w' fun e w'' => e = .returned (.bool (outB l k)) ∧ w'' = w') := fun w' h' k hk => by
    have := refOut_any ad n c l k w' (h.seen h') hf hn
    rw [inB_nat (by have := HN.out; omega), Bool.true_and] at this
    exact this
  clear h hf
  go_enter Try.func24, Try.ntmps24
  go_wp2_with fail
  go_loopw [5, 9] (fun s x wr => ∃ k : Nat, x = .int .i64 k ∧ k ≤ n ∧ RI wr w.heap.size s (flowTo l m k) ∧ Seen w wr) (fun _ x _ => n - (intOf x).toNat)
  case atStart => exact ⟨0, rfl, by omega, RI.nil _ _, Seen.refl _⟩
  case round =>
    obtain ⟨k, rfl, hk, hrow, hs⟩ := hrel
    have S1 := Lib.hid hs
    have HR := Lib.hid hrow
    clear hs hrow
    have hlen := flow_length l m k
    have HST : Hid (flowTo l m (k + 1) = flowTo l m k ++ (if kidB l m k && flowF l k then [(k : Int)] else [])) := flow_step l m k
    by_cases hlt : k < n
    · have hk' : (k : Int) < (n : Int) := by omega
      have HM1 := Lib.hid (HMD.out _ S1.out k hlt)
      have HO1 := Lib.hid (HOD.out _ S1.out k hlt)
      obtain ⟨b, off, rfl, hc⟩ := HS.out.ats (by omega)
      have cp := ((hc k hlt).seen S1.out).par
      clear hc
      unfold kidB flowF at HST
      obtain ⟨P, hP⟩ : ∃ P, (nd l k).p = P := ⟨_, rfl⟩
      rw [hP] at cp HST
      clear hP
      obtain ⟨A, hA⟩ : ∃ A, madeB l (k : Int) = A := ⟨_, rfl⟩
      obtain ⟨O, hO⟩ : ∃ O, outB l (k : Int) = O := ⟨_, rfl⟩
      rw [hA] at HM1 HST
      rw [hO] at HO1 HST
      clear hA hO
      rcases Nat.eq_zero_or_pos k with h0 | h0
      · subst h0
        clear HM1 HO1
        go_wp2_with fail
        go_roundw
        case rel =>
          refine ⟨0 + 1, by go_num, by omega, ?_, S1.out⟩
          rw [HST.out]
          simpa using HR.out
        case measure => simp [intOf]; omega
      · have hk0 : (k : Int) > 0 := by omega
        have ek : Hid (decide (0 < k) = true) := decide_eq_true h0
        rw [ek.out, Bool.true_and] at HST
        cases hq : (P == m)
        · rw [hq] at HST
          clear HM1 HO1
          go_wp2_with fail
          go_roundw
          case rel =>
            refine ⟨k + 1, by go_num, by omega, ?_, S1.out⟩
            rw [HST.out]
            simpa using HR.out
          case measure => simp [intOf]; omega
        · rw [hq] at HST
          cases A
          · clear HO1
            go_wp2_with (go_at_call 23; refine HM1.out.mono ?_; clear HM1; rintro e w3 ⟨rfl, rfl⟩)
            go_roundw
            case rel =>
              refine ⟨k + 1, by go_num, by omega, ?_, S1.out⟩
              rw [HST.out]
              simpa using HR.out
            case measure => simp [intOf]; omega
          · cases O
            · go_wp2_with (first
                | (go_at_call 23; refine HM1.out.mono ?_; clear HM1; rintro e w3 ⟨rfl, rfl⟩)
                | (go_at_call 38; refine HO1.out.mono ?_; clear HO1; rintro e w3 ⟨rfl, rfl⟩)
                | (at_builtin; refine wpList_pushI rfl (.tmp 34) (.tmp 36) rfl w.heap.size u5 (flowTo l m k) k rfl rfl HR.out (by omega) S1.out.size ?_; intro v3 w3 hr3 hb3; have R3 := Lib.hid hr3; have S3 : Hid (Seen w w3) := Below.trans S1.out hb3; clear hr3 hb3))
              go_roundw
              case rel =>
                refine ⟨k + 1, by go_num, by omega, ?_, S3.out⟩
                rw [HST.out]
                exact R3.out
              case measure => simp [intOf]; omega
            · go_wp2_with (first
                | (go_at_call 23; refine HM1.out.mono ?_; clear HM1; rintro e w3 ⟨rfl, rfl⟩)
                | (go_at_call 38; refine HO1.out.mono ?_; clear HO1; rintro e w3 ⟨rfl, rfl⟩))
              go_roundw
              case rel =>
                refine ⟨k + 1, by go_num, by omega, ?_, S1.out⟩
                rw [HST.out]
                simpa using HR.out
              case measure => simp [intOf]; omega
    · have hk' : ¬ (k : Int) < (n : Int) := by omega
      obtain rfl : k = n := by omega
      go_wp2_with fail
      go_ret
      exact ⟨_, rfl, HR.out, S1.out⟩
end Go.Proofs.Ytlnnaegmcopiiaa
