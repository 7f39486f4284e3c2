/- Plain mathematics of the laws about sums and about what is kept; no conditions. -/
import Derived.Test.YtimnhognjkgohaaSame
namespace Go.Proofs.Ytimnhognjkgohaa
open Go.ChangeShapes Go.WideShapes Go.ChangeAt Go.RowKit
set_option maxRecDepth 100000
set_option linter.unusedVariables false
theorem fill_w {b : Bx} {n : Int} : (fillW b ⟨false, n⟩).w = n := by
  unfold fillW fillR
  simp only [Bool.false_eq_true, if_false, orV_no]
  split
  · split <;> rfl
  · rfl
theorem sol_parts {b : Bx} (h : solB b = true) : okF b = true ∧ tryB b (lastS b) = true ∧ solO b = fillW b (lastS b) := by
  have h' := h
  unfold solB at h'
  simp only [Bool.and_eq_true] at h'
  exact ⟨h'.1, h'.2, by unfold solO; rw [h]; rfl⟩
/-- All fits: together they are as wide as the container. -/
theorem sum_is {b : Bx} {s : Sz} (hok : okF b = true) (h : tryB b s = true) : (fillW b s).l + b.ar + (fillW b s).w + (fillW b s).r = b.base := by
  cases h1 : fitsB (wN b s) with
  | false => rw [try_no hok h1] at h; cases h
  | true =>
    rw [fill_is hok h1]
    unfold refO
    rw [if_pos h1]
    unfold refI
    split
    · simp only; omega
    · split
      · simp only; omega
      · simp only; omega
theorem fit_parts {b : Bx} {s : Sz} (h : tryB b s = true) : fitsB (fillW b s).l = true ∧ fitsB (fillW b s).w = true ∧ fitsB (fillW b s).r = true := by
  unfold tryB fitO at h
  simp only [Bool.and_eq_true] at h
  exact ⟨h.1.1, h.1.2, h.2⟩
theorem between {b : Bx} (h : tryB b (lastS b) = true) (hl : b.lo ≤ b.hi) : b.lo ≤ (fillW b (lastS b)).w ∧ (fillW b (lastS b)).w ≤ b.hi := by
  unfold lastS at h ⊢
  obtain ⟨s, hs⟩ : ∃ s, nextHi b b.wd = s := ⟨_, rfl⟩
  rw [hs] at h ⊢
  by_cases h1 : tryB b s = true ∧ (fillW b s).w < b.lo
  · have e : nextLo b s = ⟨false, b.lo⟩ := lo_yes h1.1 h1.2
    rw [e, fill_w]
    exact ⟨Int.le_refl _, hl⟩
  · have e : nextLo b s = s := lo_no h1
    rw [e] at h ⊢
    refine ⟨Int.not_lt.1 (fun g => h1 ⟨h, g⟩), ?_⟩
    by_cases h2 : tryB b b.wd = true ∧ b.hi < (fillW b b.wd).w
    · have e2 : s = ⟨false, b.hi⟩ := hs.symm.trans (hi_yes h2.1 h2.2)
      rw [e2, fill_w]
      exact Int.le_refl _
    · have e2 : s = b.wd := hs.symm.trans (hi_no h2)
      rw [e2] at h ⊢
      exact Int.not_lt.1 (fun g => h2 ⟨h, g⟩)
/-- What AcrossSums asks. -/
theorem sums_math {b : Bx} (h : solB b = true) (hl : b.lo ≤ b.hi) : ((solO b).l + b.ar + (solO b).w + (solO b).r = b.base ∧ b.lo ≤ (solO b).w ∧ (solO b).w ≤ b.hi) ∧
    ((-1125899906842624 ≤ (solO b).l ∧ (solO b).l ≤ 1125899906842624) ∧ (-1125899906842624 ≤ (solO b).w ∧ (solO b).w ≤ 1125899906842624) ∧ (-1125899906842624 ≤ b.ar ∧ b.ar ≤ 1125899906842624) ∧ (-1125899906842624 ≤ b.base ∧ b.base ≤ 1125899906842624)) := by
  obtain ⟨h1, h2, h3⟩ := sol_parts h
  obtain ⟨f1, f2, f3⟩ := fit_parts h2
  obtain ⟨g1, g2, -, -⟩ := okF_parts h1
  rw [h3]
  exact ⟨⟨sum_is h1 h2, between h2 hl⟩, fitsB_iff.1 f1, fitsB_iff.1 f2, g2, g1⟩
/-- What stays of the margins. -/
theorem kept_lr (b : Bx) (s : Sz) : (b.lf.au = true ∨ (fillW b s).l = b.lf.n ∨ b.rtl = true) ∧ (b.rt.au = true ∨ (fillW b s).r = b.rt.n ∨ b.rtl = false) := by
  unfold fillW
  obtain ⟨t, ht⟩ : ∃ t, restW b s = t := ⟨_, rfl⟩
  rw [ht]
  unfold fillR
  obtain ⟨base, ⟨la, ln⟩, wd, ⟨ra, rn⟩, ar, rtl, lo, hi⟩ := b
  cases s.au
  · simp only [Bool.false_eq_true, if_false]
    unfold tkL tkR orV
    by_cases h0 : t < 0
    · simp only [if_pos h0]
      cases la <;> cases ra <;> cases rtl <;> simp
    · simp only [if_neg h0]
      cases la <;> cases ra <;> cases rtl <;> simp
  · simp only [if_true]
    unfold orV
    cases la <;> cases ra <;> simp
/-- What stays of the width. -/
theorem kept_w (b : Bx) : b.wd.au = true ∨ (fillW b (lastS b)).w = b.wd.n ∨ (fillW b (lastS b)).w = b.lo ∨ (fillW b (lastS b)).w = b.hi := by
  unfold lastS
  obtain ⟨s, hs⟩ : ∃ s, nextHi b b.wd = s := ⟨_, rfl⟩
  rw [hs]
  by_cases h1 : tryB b s = true ∧ (fillW b s).w < b.lo
  · rw [lo_yes h1.1 h1.2, fill_w]
    exact .inr (.inr (.inl rfl))
  · rw [lo_no h1]
    by_cases h2 : tryB b b.wd = true ∧ b.hi < (fillW b b.wd).w
    · have e2 : s = ⟨false, b.hi⟩ := hs.symm.trans (hi_yes h2.1 h2.2)
      rw [e2, fill_w]
      exact .inr (.inr (.inr rfl))
    · have e2 : s = b.wd := hs.symm.trans (hi_no h2)
      rw [e2]
      cases ha : b.wd.au with
      | true => exact .inl rfl
      | false =>
        refine .inr (.inl ?_)
        rw [sz_false ha, fill_w]
end Go.Proofs.Ytimnhognjkgohaa
