/- Plain mathematics: what the reference answers is what the program answers; no conditions. -/
import Derived.Test.YtimnhognjkgohaaRefFor
namespace Go.Proofs.Ytimnhognjkgohaa
open Go.ChangeShapes Go.WideShapes Go.ChangeAt Go.RowKit
set_option maxRecDepth 100000
set_option linter.unusedVariables false
/-- The rest without wrapping. -/
def restI (b : Bx) (s : Sz) : Int := b.base - b.ar - orV b.lf 0 - orV s 0 - orV b.rt 0
theorem restW_is {b : Bx} {s : Sz} (h : okF b = true) (h1 : fitsB (orV s 0) = true) : restW b s = restI b s := by
  obtain ⟨⟨b1, b2⟩, ⟨b3, b4⟩, ⟨b5, b6⟩, ⟨b7, b8⟩⟩ := okF_parts h
  obtain ⟨n1, n2⟩ := fitsB_iff.1 h1
  unfold restW restI
  rw [w64 (n := b.base - b.ar) (by omega) (by omega), w64 (n := b.base - b.ar - orV b.lf 0) (by omega) (by omega), w64 (n := b.base - b.ar - orV b.lf 0 - orV s 0) (by omega) (by omega), w64 (by omega) (by omega)]
theorem orV_au (n : Int) : orV ⟨true, n⟩ 0 = 0 := rfl
theorem orV_no (n : Int) : orV ⟨false, n⟩ 0 = n := rfl
theorem fits0 : fitsB 0 = true := by decide
theorem fitsB_no {n : Int} (h : fitsB n = false) : ¬ (-1125899906842624 ≤ n ∧ n ≤ 1125899906842624) := fun g => by rw [fitsB_iff.2 g] at h; cases h
/-- The width asked doesn't fit: the program says no. -/
theorem try_no {b : Bx} {s : Sz} (h : okF b = true) (h1 : fitsB (wN b s) = false) : tryB b s = false := by
  unfold tryB fitO
  have hw : fitsB (fillW b s).w = false := by
    unfold wN at h1
    obtain ⟨sa, sn⟩ := s
    cases sa with
    | true =>
      have e := restW_is (s := ⟨true, sn⟩) h (by rw [orV_au]; exact fits0)
      unfold restI at e
      rw [orV_au] at e
      have ef : (fillW b ⟨true, sn⟩).w = restW b ⟨true, sn⟩ := rfl
      rw [ef, e]
      simp only [if_true] at h1
      rw [show b.base - b.ar - orV b.lf 0 - 0 - orV b.rt 0 = b.base - b.ar - orV b.lf 0 - orV b.rt 0 by omega]
      exact h1
    | false =>
      have ef : (fillW b ⟨false, sn⟩).w = sn := by
        unfold fillW fillR
        simp only [Bool.false_eq_true, if_false, orV_no]
        split
        · split <;> rfl
        · rfl
      rw [ef]
      simpa using h1
  rw [hw]
  simp
/-- It fits: the same results. -/
theorem fill_is {b : Bx} {s : Sz} (h : okF b = true) (h1 : fitsB (wN b s) = true) : fillW b s = refO b s := by
  obtain ⟨⟨b1, b2⟩, ⟨b3, b4⟩, ⟨b5, b6⟩, ⟨b7, b8⟩⟩ := okF_parts h
  obtain ⟨n1, n2⟩ := fitsB_iff.1 h1
  unfold refO
  rw [if_pos h1]
  obtain ⟨sa, sn⟩ := s
  cases sa with
  | true =>
    have e := restW_is (s := ⟨true, sn⟩) h (by rw [orV_au]; exact fits0)
    unfold restI at e
    rw [orV_au] at e
    have hs : stay b ⟨true, sn⟩ = false := by simp [stay]
    have hw : wN b ⟨true, sn⟩ = b.base - b.ar - orV b.lf 0 - orV b.rt 0 := rfl
    have ef : fillW b ⟨true, sn⟩ = ⟨orV b.lf 0, restW b ⟨true, sn⟩, orV b.rt 0⟩ := rfl
    rw [hs, hw, ef, e]
    unfold refI
    simp only [Bool.false_and, Bool.false_eq_true, if_false, Bool.not_false, Bool.true_and, Bool.false_or]
    cases b.rtl
    · simp only [Bool.false_eq_true, if_false]
      congr 1
      · omega
      · omega
    · simp only [if_true]
      congr 1
      · omega
      · omega
  | false =>
    have hw : wN b ⟨false, sn⟩ = sn := rfl
    rw [hw] at h1 n1 n2
    have e := restW_is (s := ⟨false, sn⟩) h (by rw [orV_no]; exact h1)
    unfold restI at e
    rw [orV_no] at e
    obtain ⟨t, ht⟩ : ∃ t, restW b ⟨false, sn⟩ = t := ⟨_, rfl⟩
    rw [ht] at e
    have hs : stay b ⟨false, sn⟩ = decide (0 ≤ t) := by
      unfold stay
      rw [hw]
      by_cases h0 : 0 ≤ t
      · rw [decide_eq_true h0, decide_eq_false (by omega)]; rfl
      · rw [decide_eq_false h0, decide_eq_true (by omega)]; rfl
    have ef : fillW b ⟨false, sn⟩ = fillR b ⟨false, sn⟩ t := by unfold fillW; rw [ht]
    rw [ef, hs, hw]
    unfold fillR refI
    simp only [Bool.false_eq_true, if_false, orV_no]
    by_cases h0 : 0 ≤ t
    · have hl : tkL b t = if b.lf.au = false ∧ b.rt.au = false then b.rtl else b.lf.au := by unfold tkL; rw [if_neg (by omega)]
      have hr : tkR b t = if b.lf.au = false ∧ b.rt.au = false then !b.rtl else b.rt.au := by unfold tkR; rw [if_neg (by omega)]
      rw [hl, hr, decide_eq_true h0]
      simp only [Bool.true_and]
      cases hla : b.lf.au <;> cases hra : b.rt.au
      · cases hrt : b.rtl
        · simp
          rw [w64 (by omega) (by omega)]
          omega
        · simp
          rw [w64 (by omega) (by omega)]
          omega
      · simp
        rw [w64 (by omega) (by omega)]
        omega
      · simp
        rw [w64 (by omega) (by omega)]
        omega
      · have hl0 : orV b.lf 0 = 0 := by unfold orV; rw [hla]; rfl
        have hr0 : orV b.rt 0 = 0 := by unfold orV; rw [hra]; rfl
        have hh : halfI t = t / 2 := rfl
        have et : b.base - b.ar - sn = t := by omega
        simp [et]
        rw [w64 (by omega) (by omega)]
    · have hl : tkL b t = b.rtl := by unfold tkL; rw [if_pos (by omega)]
      have hr : tkR b t = !b.rtl := by unfold tkR; rw [if_pos (by omega)]
      rw [hl, hr, decide_eq_false h0]
      cases hrt : b.rtl
      · simp
        rw [w64 (by omega) (by omega)]
        omega
      · simp
        rw [w64 (by omega) (by omega)]
        omega
theorem try_is {b : Bx} (s : Sz) (h : okF b = true) : tryB b s = refB b s ∧ (tryB b s = true → fillW b s = refO b s) := by
  cases h1 : fitsB (wN b s) with
  | false =>
    have e := try_no h h1
    refine ⟨?_, fun g => by rw [e] at g; cases g⟩
    rw [e]
    unfold refB
    rw [h1]; rfl
  | true =>
    have e := fill_is h h1
    refine ⟨?_, fun _ => e⟩
    have hw : (refO b s).w = wN b s := by
      unfold refO
      rw [if_pos h1]
      unfold refI
      split
      · rfl
      · split <;> rfl
    unfold tryB refB fitO
    rw [e, h1, hw, h1]
    simp
end Go.Proofs.Ytimnhognjkgohaa
