/- Contracts of fix.floorDiv and fix.Part over the translation of this seat. -/
import Derived.Test.YtlnnaegmcopiiaaBase
namespace Go.Proofs.Ytlnnaegmcopiiaa
open Go.ChangeShapes Go.WideShapes Go.ChangeAt Go.RowKit
set_option maxRecDepth 100000

theorem tdiv_neg (n k : Int) (h : n < 0) : n.tdiv k = -((-n) / k) := by
  have h2 : (-(-n)).tdiv k = -((-n) / k) := by rw [Int.neg_tdiv, Int.tdiv_eq_ediv_of_nonneg (by omega)]
  rwa [Int.neg_neg] at h2
theorem tmod_neg (n k : Int) (h : n < 0) : n.tmod k = -((-n) % k) := by
  have h2 : (-(-n)).tmod k = -((-n) % k) := by rw [Int.neg_tmod, Int.tmod_eq_emod_of_nonneg (by omega)]
  rwa [Int.neg_neg] at h2

def divI (n : Int) : Int := n / 10000

def partV (b p : Int) : Int := b * p / 10000

theorem mul_bounds {q p Q P : Int} (hq0 : 0 ≤ q) (hq : q ≤ Q) (hp0 : -P ≤ p) (hp : p ≤ P) : -(Q * P) ≤ q * p ∧ q * p ≤ Q * P := by
  have hP : 0 ≤ P := by omega
  have h1 : q * p ≤ q * P := Int.mul_le_mul_of_nonneg_left hp hq0
  have h2 : q * P ≤ Q * P := Int.mul_le_mul_of_nonneg_right hq hP
  have h3 : q * (-P) ≤ q * p := Int.mul_le_mul_of_nonneg_left hp0 hq0
  have h4 : q * (-P) = -(q * P) := Int.mul_neg q P
  omega

theorem partV_eq (b p : Int) : b / 10000 * p + divI (b % 10000 * p) = partV b p := by
  unfold divI partV
  have h : b * p = b % 10000 * p + (b / 10000 * p) * 10000 := by
    have e := Int.emod_add_mul_ediv b 10000
    have e2 : b * p = (b % 10000 + 10000 * (b / 10000)) * p := by rw [e]
    rw [e2, Int.add_mul, Int.mul_assoc, Int.mul_comm 10000]
  rw [h, Int.add_mul_ediv_right _ _ (by decide)]
  omega

def partR (b p : Int) : Bool := decide (0 ≤ b ∧ b ≤ 1125899906842624 ∧ -1000000 ≤ p ∧ p ≤ 1000000)
def partB (b p : Int) : Bool := partR b p && fitsB (partV b p)
def partN (b p : Int) : Int := if partB b p then partV b p else 0

theorem ret_two {a b : Int} {c d : Bool} (h : a = b) (h2 : c = d) : Ending.returned (.tuple #[.int .i64 a, .bool c]) = .returned (.tuple #[.int .i64 b, .bool d]) := by rw [h, h2]

theorem partV_bounds {b p : Int} (h1 : 0 ≤ b) (h2 : b ≤ 1099511627776) (h3 : 0 ≤ p) (h4 : p ≤ 1000000) :
    0 ≤ partV b p ∧ partV b p ≤ 109951162777600 ∧ 0 ≤ b * p ∧ b * p ≤ 1099511627776000000 ∧ 10000 * partV b p ≤ b * p ∧ b * p - 10000 * partV b p < 10000 := by
  have h5 : 0 ≤ b * p := Int.mul_nonneg h1 h3
  have h6 := (mul_bounds (q := b) (p := p) (Q := 1099511627776) (P := 1000000) h1 h2 (by omega) h4).2
  unfold partV
  omega

end Go.Proofs.Ytlnnaegmcopiiaa
