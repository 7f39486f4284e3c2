/- Contracts of fix.floorDiv and fix.Part over the translation of this seat. -/
import Derived.Test.YtjgpajbibmfjlaaBase
namespace Go.Proofs.Ytjgpajbibmfjlaa
open Go.ChangeShapes Go.WideShapes Go.ChangeAt Go.RowKit
set_option maxRecDepth 100000

theorem tdiv_neg (n k : Int) (h : n < 0) : n.tdiv k = -((-n) / k) := by
  have h2 : (-(-n)).tdiv k = -((-n) / k) := by rw [Int.neg_tdiv, Int.tdiv_eq_ediv_of_nonneg (by omega)]
  rwa [Int.neg_neg] at h2
theorem tmod_neg (n k : Int) (h : n < 0) : n.tmod k = -((-n) % k) := by
  have h2 : (-(-n)).tmod k = -((-n) % k) := by rw [Int.neg_tmod, Int.tmod_eq_emod_of_nonneg (by omega)]
  rwa [Int.neg_neg] at h2

def divI (n : Int) : Int := n / 10000

theorem floorDiv_any (n : Int) (w : World) (h1 : -10000000000 ≤ n) (h2 : n ≤ 10000000000) :
    Calls Try.prog 21 #[.int .i64 n, .int .i64 10000] w fun e w' => e = .returned (.int .i64 (divI n)) ∧ w = w' := by
  have H := Lib.hid (show divI n = n / 10000 from rfl)
  by_cases h3 : n < 0
  · have hd := Lib.hid (tdiv_neg n 10000 h3)
    have hm := Lib.hid (tmod_neg n 10000 h3)
    go_enter Try.func21, Try.ntmps21
    go_wp2
    all_goals
      go_ret
      refine ⟨ret_int ?_, rfl⟩
      have := hd.out
      have := hm.out
      rw [H.out]
      try unfold wrap64
      omega
  · go_enter Try.func21, Try.ntmps21
    go_wp2
    go_ret
    exact ⟨ret_int (by rw [H.out]), rfl⟩

def partV (b p : Int) : Int := b * p / 10000

theorem mul_bounds {q p Q P : Int} (hq0 : 0 ≤ q) (hq : q ≤ Q) (hp0 : -P ≤ p) (hp : p ≤ P) : -(Q * P) ≤ q * p ∧ q * p ≤ Q * P := by
  have hP : 0 ≤ P := by omega
  have h1 : q * p ≤ q * P := Int.mul_le_mul_of_nonneg_left hp hq0
  have h2 : q * P ≤ Q * P := Int.mul_le_mul_of_nonneg_right hq hP
  have h3 : q * (-P) ≤ q * p := Int.mul_le_mul_of_nonneg_left hp0 hq0
  have h4 : q * (-P) = -(q * P) := Int.mul_neg q P
  omega

theorem partV_eq (b p : Int) : b / 10000 * p + divI (b % 10000 * p) = partV b p := by
  unfold divI partV
  have h : b * p = b % 10000 * p + (b / 10000 * p) * 10000 := by
    have e := Int.emod_add_mul_ediv b 10000
    have e2 : b * p = (b % 10000 + 10000 * (b / 10000)) * p := by rw [e]
    rw [e2, Int.add_mul, Int.mul_assoc, Int.mul_comm 10000]
  rw [h, Int.add_mul_ediv_right _ _ (by decide)]
  omega

def partR (b p : Int) : Bool := decide (0 ≤ b ∧ b ≤ 1125899906842624 ∧ -1000000 ≤ p ∧ p ≤ 1000000)
def partB (b p : Int) : Bool := partR b p && fitsB (partV b p)
def partN (b p : Int) : Int := if partB b p then partV b p else 0

theorem ret_two {a b : Int} {c d : Bool} (h : a = b) (h2 : c = d) : Ending.returned (.tuple #[.int .i64 a, .bool c]) = .returned (.tuple #[.int .i64 b, .bool d]) := by rw [h, h2]

theorem part_no (b p : Int) (w : World) (h : partR b p = false) :
    Calls Try.prog 17 #[.int .i64 b, .int .i64 p] w fun e w' => e = .returned (.tuple #[.int .i64 (partN b p), .bool (partB b p)]) ∧ w = w' := by
  have H1 := Lib.hid (show partB b p = false by unfold partB; simp [h])
  have H2 := Lib.hid (show partN b p = 0 by unfold partN; rw [H1.out]; rfl)
  have h3 : ¬ (0 ≤ b ∧ b ≤ 1125899906842624 ∧ -1000000 ≤ p ∧ p ≤ 1000000) := by unfold partR at h; simpa using h
  clear h
  by_cases h4 : b < 0
  · clear h3
    go_enter Try.func17, Try.ntmps17
    go_wp2
    go_ret2
    exact ⟨ret_two H2.out.symm H1.out.symm, rfl⟩
  · by_cases h5 : 1125899906842624 < b
    · clear h3
      go_enter Try.func17, Try.ntmps17
      go_wp2
      go_ret2
      exact ⟨ret_two H2.out.symm H1.out.symm, rfl⟩
    · by_cases h6 : p < -1000000
      · clear h3
        go_enter Try.func17, Try.ntmps17
        go_wp2
        go_ret2
        exact ⟨ret_two H2.out.symm H1.out.symm, rfl⟩
      · have h7 : 1000000 < p := by omega
        clear h3
        go_enter Try.func17, Try.ntmps17
        go_wp2
        go_ret2
        exact ⟨ret_two H2.out.symm H1.out.symm, rfl⟩

theorem part_yes (b p : Int) (w : World) (h : partR b p = true) :
    Calls Try.prog 17 #[.int .i64 b, .int .i64 p] w fun e w' => e = .returned (.tuple #[.int .i64 (partN b p), .bool (partB b p)]) ∧ w = w' := by
  have h3 : 0 ≤ b ∧ b ≤ 1125899906842624 ∧ -1000000 ≤ p ∧ p ≤ 1000000 := by unfold partR at h; simpa using h
  have H1 := Lib.hid (show partB b p = fitsB (partV b p) by unfold partB; simp [h])
  have H2 := Lib.hid (show partN b p = if fitsB (partV b p) then partV b p else 0 by unfold partN; rw [H1.out])
  clear h
  obtain ⟨h4, h5, h6, h7⟩ := h3
  have m1 := mul_bounds (q := b / 10000) (p := p) (Q := 112589990684) (P := 1000000) (by omega) (by omega) (by omega) (by omega)
  have m2 := mul_bounds (q := b % 10000) (p := p) (Q := 9999) (P := 1000000) (by omega) (by omega) (by omega) (by omega)
  have HE := Lib.hid (partV_eq b p)
  have hd : -1000000 ≤ divI (b % 10000 * p) ∧ divI (b % 10000 * p) ≤ 1000000 := by unfold divI; omega
  obtain ⟨m11, m12⟩ := m1
  obtain ⟨m21, m22⟩ := m2
  obtain ⟨hd1, hd2⟩ := hd
  cases hf : fitsB (partV b p) with
  | true =>
    rw [hf] at H1 H2
    have HF := Lib.hid hf
    clear hf
    go_enter Try.func17, Try.ntmps17
    go_wp2_with fail
    refine (floorDiv_any _ _ (by omega) (by omega)).mono ?_
    rintro e w' ⟨rfl, rfl⟩
    go_wp2_with fail
    rw [HE.out]
    refine (fits_any _ _).mono ?_
    rintro e w' ⟨rfl, rfl⟩
    rw [HF.out]
    go_wp2
    go_ret2
    exact ⟨ret_two H2.out.symm H1.out.symm, rfl⟩
  | false =>
    rw [hf] at H1 H2
    have HF := Lib.hid hf
    clear hf
    go_enter Try.func17, Try.ntmps17
    go_wp2_with fail
    refine (floorDiv_any _ _ (by omega) (by omega)).mono ?_
    rintro e w' ⟨rfl, rfl⟩
    go_wp2_with fail
    rw [HE.out]
    refine (fits_any _ _).mono ?_
    rintro e w' ⟨rfl, rfl⟩
    rw [HF.out]
    go_wp2
    go_ret2
    exact ⟨ret_two H2.out.symm H1.out.symm, rfl⟩

theorem part_any (b p : Int) (w : World) :
    Calls Try.prog 17 #[.int .i64 b, .int .i64 p] w fun e w' => e = .returned (.tuple #[.int .i64 (partN b p), .bool (partB b p)]) ∧ w = w' := by
  cases h : partR b p with
  | true => exact part_yes b p w h
  | false => exact part_no b p w h

theorem partV_bounds {b p : Int} (h1 : 0 ≤ b) (h2 : b ≤ 1099511627776) (h3 : 0 ≤ p) (h4 : p ≤ 1000000) :
    0 ≤ partV b p ∧ partV b p ≤ 109951162777600 ∧ 0 ≤ b * p ∧ b * p ≤ 1099511627776000000 ∧ 10000 * partV b p ≤ b * p ∧ b * p - 10000 * partV b p < 10000 := by
  have h5 : 0 ≤ b * p := Int.mul_nonneg h1 h3
  have h6 := (mul_bounds (q := b) (p := p) (Q := 1099511627776) (P := 1000000) h1 h2 (by omega) h4).2
  unfold partV
  omega

theorem part_small (b p : Int) (w : World) (h1 : 0 ≤ b) (h2 : b ≤ 1099511627776) (h3 : 0 ≤ p) (h4 : p ≤ 1000000) :
    Calls Try.prog 17 #[.int .i64 b, .int .i64 p] w fun e w' => e = .returned (.tuple #[.int .i64 (partV b p), .bool true]) ∧ w = w' := by
  have hb := partV_bounds h1 h2 h3 h4
  have hr : partR b p = true := by unfold partR; simp; omega
  have hB : partB b p = true := by unfold partB; rw [hr, fitsB_t (by omega) (by omega)]; rfl
  have hN : partN b p = partV b p := by unfold partN; rw [hB]; rfl
  refine (part_any b p w).mono ?_
  rintro e w' ⟨rfl, rfl⟩
  exact ⟨ret_two hN hB, rfl⟩
end Go.Proofs.Ytjgpajbibmfjlaa
