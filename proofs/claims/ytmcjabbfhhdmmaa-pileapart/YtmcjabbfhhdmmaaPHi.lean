/- Children without margins, as plain mathematics; no conditions beyond those written in each theorem. -/
import Derived.Test.YtmcjabbfhhdmmaaPMath
namespace Go.Proofs.Ytmcjabbfhhdmmaa
set_option maxRecDepth 100000
/-- A child of this height alone. -/
def hiC (z : Int) : Ch := ⟨zS, zS, zS, false, z⟩
/-- The sum of the first k heights. -/
def upS (l : List Int) (k : Nat) : Int := isum (l.take k)
theorem upS_next {l : List Int} {k : Nat} (h : k < l.length) : upS l (k + 1) = upS l k + zat l k := isum_take_succ l k h
theorem upS_low {l : List Int} (hz : ∀ z ∈ l, 0 ≤ z ∧ z ≤ 65535) (k : Nat) (hk : k ≤ l.length) : 0 ≤ upS l k ∧ upS l k ≤ 65535 * (k : Int) := by
  induction k with
  | zero => simp [upS, isum]
  | succ k ih =>
    have h1 := ih (by omega)
    have h2 := hz (zat l k) (by rw [zat_eq (by omega)]; exact List.getElem_mem _)
    rw [upS_next (by omega)]
    omega
theorem pair_sum {a b : Int} (h1 : fitsB a = true) (h2 : fitsB b = true) (h3 : fitsB (a + b) = true) : sumN [a, b] = a + b ∧ sumB [a, b] = true := by
  have e : isum [a, b] = a + b := by simp [isum]
  have := sum_good (zs := [a, b]) (by simp [h1, h2]) (by rw [e]; exact h3)
  rw [e] at this
  exact this
theorem fits_of {z : Int} (h1 : 0 ≤ z) (h2 : z ≤ 100000000) : fitsB z = true := fitsB_t (by omega) (by omega)
theorem hi_low (p : Pi) (z : Int) (hp : p.att = false) (hc : p.cur = zS) (e0 : 0 ≤ p.edge) (e1 : p.edge ≤ 10000000) (z0 : 0 ≤ z) (z1 : z ≤ 65535) :
    addB p (hiC z) = true ∧ addP p (hiC z) = ⟨p.y ++ [p.edge], p.edge + z, p.top, zS, false⟩ := by
  have hg : gapB p.cur (hiC z) = true ∧ gapN p.cur (hiC z) = 0 := by rw [hc]; exact ⟨rfl, rfl⟩
  have hs := pair_sum (a := p.edge) (b := 0) (fits_of e0 (by omega)) (by decide) (by rw [Int.add_zero]; exact fits_of e0 (by omega))
  have hpos : posN p.edge p.cur (hiC z) = p.edge ∧ posB p.edge p.cur (hiC z) = true := by
    unfold posN posB
    rw [hg.1, hg.2, hs.1, hs.2]
    simp
  have h2 := pair_sum (a := p.edge) (b := z) (fits_of e0 (by omega)) (fits_of z0 (by omega)) (fits_of (by omega) (by omega))
  constructor
  · unfold addB lowB
    rw [hp, hpos.1, hpos.2]
    show (true && (false || sumB [p.edge, z])) = true
    rw [h2.2]; rfl
  · unfold addP lowP
    rw [hp, hpos.1, if_neg (by decide), if_neg (by simp [hiC])]
    show (⟨p.y ++ [p.edge], sumN [p.edge, z], p.top, zS, false⟩ : Pi) = _
    rw [h2.1]
theorem hi_top (p : Pi) (z : Int) (hp : p.att = true) (z0 : 0 ≤ z) (z1 : z ≤ 65535) :
    addB p (hiC z) = true ∧ addP p (hiC z) = ⟨p.y ++ [0], z, joinS p.top zS, zS, false⟩ := by
  constructor
  · unfold addB topB
    rw [hp]
    show (false || fitsB z) = true
    rw [fits_of z0 (by omega)]; rfl
  · unfold addP
    rw [hp]; rfl
theorem hi_run {l : List Int} {o : Bool} (hl : l.length ≤ 50) (hz : ∀ z ∈ l, 0 ≤ z ∧ z ≤ 65535) (k : Nat) (hk : k ≤ l.length) :
    ∃ q, runP (openP o) ((l.take k).map hiC) = some q ∧ q.y.length = k ∧ (∀ j, j < k → zat q.y j = upS l j) ∧ q.edge = upS l k ∧ q.cur = zS ∧ q.att = (o && decide (k = 0)) := by
  induction k with
  | zero => exact ⟨openP o, rfl, rfl, fun j h => absurd h (Nat.not_lt_zero j), rfl, rfl, by simp [openP]⟩
  | succ k ih =>
    obtain ⟨q, h1, h2, h3, h4, h5, h6⟩ := ih (by omega)
    have hb := upS_low hz k (by omega)
    have hzk := hz (zat l k) (by rw [zat_eq (by omega)]; exact List.getElem_mem _)
    have et : (l.take (k + 1)).map hiC = (l.take k).map hiC ++ [hiC (zat l k)] := by
      rw [List.take_succ_eq_append_getElem (by omega), List.map_append, zat_eq (by omega)]; rfl
    have hrun : ∀ q', addB q (hiC (zat l k)) = true → addP q (hiC (zat l k)) = q' → runP (openP o) ((l.take (k + 1)).map hiC) = some q' := by
      intro q' hb he
      rw [et, runP_append, h1]
      simp [runP, hb, he]
    have hat : ∀ (x : Int), x = upS l k → ∀ j, j < k + 1 → zat (q.y ++ [x]) j = upS l j := by
      intro x hx j hj
      rcases Nat.lt_or_ge j k with h | h
      · rw [← h3 j h]; unfold zat; rw [List.getD_eq_getElem?_getD, List.getElem?_append_left (by omega), ← List.getD_eq_getElem?_getD]
      · obtain rfl : j = k := by omega
        unfold zat; rw [List.getD_eq_getElem?_getD, List.getElem?_append_right (by omega), h2]; simpa using hx
    cases ha : q.att
    · have := hi_low q (zat l k) ha h5 (by rw [h4]; exact hb.1) (by rw [h4]; omega) hzk.1 hzk.2
      refine ⟨_, hrun _ this.1 this.2, by simp [h2], hat _ h4, ?_, rfl, by simp⟩
      show q.edge + zat l k = _
      rw [h4, upS_next (by omega)]
    · have h0 : k = 0 := by rw [ha] at h6; by_cases hk0 : k = 0; exact hk0; simp [hk0] at h6
      have := hi_top q (zat l k) ha hzk.1 hzk.2
      refine ⟨_, hrun _ this.1 this.2, by simp [h2], hat _ (by subst h0; rfl), ?_, rfl, by simp⟩
      show zat l k = _
      rw [upS_next (by omega)]
      subst h0
      show _ = isum [] + zat l 0
      simp [isum]
theorem hi_stk {l : List Int} {o : Bool} (hl : l.length ≤ 50) (hz : ∀ z ∈ l, 0 ≤ z ∧ z ≤ 65535) :
    stkB (l.map hiC) o = true ∧ (stkP (l.map hiC) o).y.length = l.length ∧ (∀ j, j < l.length → zat (stkP (l.map hiC) o).y j = upS l j) ∧ (stkP (l.map hiC) o).edge = upS l l.length ∧ (stkP (l.map hiC) o).att = (o && decide (l.length = 0)) := by
  obtain ⟨q, h1, h2, h3, h4, h5, h6⟩ := hi_run (o := o) hl hz l.length (Nat.le_refl _)
  rw [List.take_length] at h1
  obtain ⟨e1, e2⟩ := stk_some (l := l.map hiC) (o := o) h1
  rw [e1, e2]
  exact ⟨rfl, h2, h3, h4, h6⟩
end Go.Proofs.Ytmcjabbfhhdmmaa
