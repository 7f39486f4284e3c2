/- Piles behind others, as plain mathematics; no conditions beyond those written in each theorem. -/
import Derived.Test.YtmcjabbfhhdmmaaPMath
namespace Go.Proofs.Ytmcjabbfhhdmmaa
set_option maxRecDepth 100000
theorem fits_sum {zs : List Int} (h : sumB zs = true) : fitsB (sumN zs) = true := by
  unfold sumN
  rw [if_pos h]
  unfold sumB at h
  rw [Bool.and_eq_true] at h
  exact h.2
theorem low_fits {p : Pi} {c : Ch} (hf : fitsB p.edge = true) (h : lowB p c = true) : fitsB (lowP p c).edge = true := by
  unfold lowB at h
  unfold lowP
  split
  · exact hf
  · rename_i ht
    rw [Bool.and_eq_true, Bool.or_eq_true] at h
    exact fits_sum (h.2.resolve_left ht)
theorem runL_fits {p q : Pi} {l : List Ch} (hf : fitsB p.edge = true) (h : runL p l = some q) : fitsB q.edge = true := by
  induction l generalizing p with
  | nil => simp [runL] at h; subst h; exact hf
  | cons c l ih =>
    simp only [runL] at h
    split at h
    · rename_i hb
      exact ih (low_fits hf hb) h
    · cases h
theorem run_shift {l : List Ch} : ∀ {p q A : Pi}, p.edge = q.edge → p.cur = q.cur → runL p l = some A →
    ∃ Y, A.y = p.y ++ Y ∧ Y.length = l.length ∧ ∃ B, runL q l = some B ∧ B.y = q.y ++ Y ∧ B.edge = A.edge ∧ B.cur = A.cur := by
  induction l with
  | nil =>
    intro p q A he hc h
    simp [runL] at h
    subst h
    exact ⟨[], by simp, rfl, q, rfl, by simp, he.symm, hc.symm⟩
  | cons c l ih =>
    intro p q A he hc h
    simp only [runL] at h
    split at h
    · rename_i hb
      have hb' : lowB q c = true := by unfold lowB at hb ⊢; rw [← he, ← hc]; exact hb
      have e1 : (lowP p c).edge = (lowP q c).edge := by unfold lowP; rw [he, hc]; split <;> rfl
      have e2 : (lowP p c).cur = (lowP q c).cur := by unfold lowP; rw [he, hc]; split <;> rfl
      have y1 : (lowP p c).y = p.y ++ [posN q.edge q.cur c] := by unfold lowP; rw [he, hc]; split <;> rfl
      have y2 : (lowP q c).y = q.y ++ [posN q.edge q.cur c] := by unfold lowP; split <;> rfl
      obtain ⟨Y, h1, h2, B, h3, h4, h5⟩ := ih e1 e2 h
      refine ⟨posN q.edge q.cur c :: Y, by rw [h1, y1]; simp, by simp [h2], B, ?_, by rw [h4, y2]; simp, h5⟩
      simp only [runL, hb', if_true]
      exact h3
    · cases h
/-- One box of this height, with this margin below. -/
def oneC (e : Int) (u : St) : Ch := ⟨zS, u, zS, false, e⟩
theorem one_low (e : Int) (u : St) (he : fitsB e = true) : lowB (openP false) (oneC e u) = true ∧ lowP (openP false) (oneC e u) = ⟨[0], e, zS, u, false⟩ := by
  have hs : sumN [0, e] = e ∧ sumB [0, e] = true := by
    have h1 : isum [0, e] = e := by simp [isum]
    have := sum_good (zs := [0, e]) (by simp [he, fits_zero]) (by rw [h1]; exact he)
    rw [h1] at this
    exact this
  have hp : posN (openP false).edge (openP false).cur (oneC e u) = 0 ∧ posB (openP false).edge (openP false).cur (oneC e u) = true := ⟨rfl, rfl⟩
  constructor
  · unfold lowB
    rw [hp.1, hp.2]
    show (true && (false || sumB [0, e])) = true
    rw [hs.2]; rfl
  · unfold lowP
    rw [hp.1, if_neg (by simp [oneC])]
    show (⟨[] ++ [0], sumN [0, e], zS, u, false⟩ : Pi) = _
    rw [hs.1]; rfl
theorem stk_shut (l : List Ch) : stkO l false = runL (openP false) l := run_shut _ rfl l
/-- What is piled behind others. -/
theorem parts {l m : List Ch} {A : Pi} (h : stkO (l ++ m) false = some A) :
    ∃ P, stkO l false = some P ∧ ∃ Y B, A.y.length = l.length + m.length ∧ stkO (oneC P.edge P.cur :: m) false = some B ∧ Y.length = m.length ∧ (∀ k, zat A.y (l.length + k) = zat Y k) ∧ (∀ k, zat B.y (k + 1) = zat Y k) ∧ B.y.length = m.length + 1 ∧ B.edge = A.edge ∧ B.cur = A.cur := by
  rw [stk_shut, runL_append] at h
  cases hl : runL (openP false) l with
  | none => rw [hl] at h; cases h
  | some P =>
    rw [hl] at h
    have h' : runL P m = some A := h
    refine ⟨P, by rw [stk_shut, hl], ?_⟩
    have hf := runL_fits fits_zero hl
    obtain ⟨o1, o2⟩ := one_low P.edge P.cur hf
    obtain ⟨Y, h1, h2, B, h3, h4, h5, h6⟩ := run_shift (p := P) (q := ⟨[0], P.edge, zS, P.cur, false⟩) rfl rfl h'
    have hpl : P.y.length = l.length := by have := runL_len hl; simpa [openP] using this
    refine ⟨Y, B, by rw [h1, List.length_append, hpl, h2], ?_, h2, fun k => ?_, fun k => ?_, by rw [h4]; simp [h2], h5, h6⟩
    · rw [stk_shut]
      simp only [runL, o1, o2, if_true]
      exact h3
    · rw [h1]; unfold zat
      rw [List.getD_eq_getElem?_getD, List.getElem?_append_right (by omega), show l.length + k - P.y.length = k by omega, ← List.getD_eq_getElem?_getD]
    · rw [h4]; rfl
end Go.Proofs.Ytmcjabbfhhdmmaa
