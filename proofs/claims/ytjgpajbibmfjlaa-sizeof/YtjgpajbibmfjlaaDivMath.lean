/- Plain arithmetic for math/bits.Div64 at the divisor 10000 and for Mul64. -/
import Derived.Test.YtjgpajbibmfjlaaParts
import Derived.Laws.Bits64b
import Derived.Lib.Mul64
namespace Go.Proofs.Ytjgpajbibmfjlaa
open Go.ChangeShapes Go.WideShapes Go.ChangeAt Go.RowKit
set_option maxRecDepth 100000

theorem e_and : bits .and .u64 11258999068426240000 4294967295 = 0 := by decide +kernel

theorem e_or (hi lo : Int) (g0 : 0 ≤ hi) (g1 : hi ≤ 63) (h0 : 0 ≤ lo) (h1 : lo ≤ 18446744073709551615) :
    bits .or .u64 (hi * 1125899906842624) (lo / 16384) = hi * 1125899906842624 + lo / 16384 := by
  obtain ⟨a, rfl⟩ := Int.eq_ofNat_of_zero_le g0
  obtain ⟨b, rfl⟩ := Int.eq_ofNat_of_zero_le h0
  have h := bits_or_u64_nat (a * 1125899906842624) (b / 16384) (by omega) (by omega)
  have e : 1125899906842624 * a + b / 16384 = 1125899906842624 * a ||| b / 16384 := Nat.two_pow_add_eq_or_of_lt (i := 50) (b := b / 16384) (by omega) a
  rw [Nat.mul_comm a, ← e] at h
  have c1 : ((1125899906842624 * a : Nat) : Int) = (a : Int) * 1125899906842624 := by omega
  have c2 : ((b / 16384 : Nat) : Int) = (b : Int) / 16384 := by omega
  rw [c1, c2] at h
  rw [h]; omega

theorem e_wrap (lo : Int) :
    IntKind.u64.wrap (lo * 1125899906842624) = lo % 16384 * 1125899906842624 := by
  rw [IntKind.wrap_u64]; omega

theorem e_and2 (r : Int) (h0 : 0 ≤ r) (h1 : r < 16384) : bits .and .u64 (r * 1125899906842624) 4294967295 = 0 := by
  obtain ⟨a, rfl⟩ := Int.eq_ofNat_of_zero_le h0
  have h := bits_and_u64_nat (a * 1125899906842624) 4294967295 (by omega) (by omega)
  have e : a * 1125899906842624 &&& 4294967295 = a * 1125899906842624 % 4294967296 := Nat.and_two_pow_sub_one_eq_mod _ 32
  rw [e] at h
  have c1 : ((a * 1125899906842624 : Nat) : Int) = (a : Int) * 1125899906842624 := by omega
  rw [c1] at h
  refine h.trans ?_
  omega

theorem e_un21 (U Q R L : Int) (hR : U - Q * 2621440000 = R) (R0 : 0 ≤ R) (R1 : R < 2621440000) (L0 : 0 ≤ L) (L1 : L < 16384) :
    IntKind.u64.wrap (IntKind.u64.wrap (IntKind.u64.wrap (U * 4294967296) + L * 1125899906842624 / 4294967296) - IntKind.u64.wrap (Q * 11258999068426240000)) = R * 4294967296 + L * 262144 := by
  simp only [IntKind.wrap_u64]
  have h : L * 1125899906842624 / 4294967296 = L * 262144 := by omega
  rw [h]
  omega

theorem e_quo (Q P : Int) (Q0 : 0 ≤ Q) (Q1 : Q < 27487791) (P0 : 0 ≤ P) (P1 : P < 4294967296) :
    IntKind.u64.wrap (IntKind.u64.wrap (Q * 4294967296) + P) = Q * 4294967296 + P := by
  simp only [IntKind.wrap_u64]; omega

theorem e_rem (T P r : Int) (hr : T - P * 2621440000 = r * 262144) (r0 : 0 ≤ r) (r1 : r < 10000) :
    IntKind.u64.wrap (IntKind.u64.wrap (IntKind.u64.wrap (T * 4294967296)) - IntKind.u64.wrap (P * 11258999068426240000)) / 1125899906842624 = r := by
  simp only [IntKind.wrap_u64]; omega

theorem div_fin (hi lo U Q R T P S : Int) (hU : hi * 1125899906842624 + lo / 16384 = U) (hR : U - Q * 2621440000 = R) (hT : R * 4294967296 + lo % 16384 * 262144 = T)
    (hS : T - P * 2621440000 = S) (S0 : 0 ≤ S) (S1 : S < 2621440000) :
    Q * 4294967296 + P = (hi * 18446744073709551616 + lo) / 10000 ∧ T - P * 2621440000 = ((hi * 18446744073709551616 + lo) % 10000) * 262144 := by
  omega

theorem e_mask (a : Int) (h0 : 0 ≤ a) (h1 : a ≤ 18446744073709551615) : bits .and .u64 a 4294967295 = a % 4294967296 := by
  obtain ⟨n, rfl⟩ := Int.eq_ofNat_of_zero_le h0
  have h := bits_and_u64_nat n 4294967295 (by omega) (by omega)
  have e : n &&& 4294967295 = n % 4294967296 := Nat.and_two_pow_sub_one_eq_mod _ 32
  rw [e] at h
  refine h.trans ?_
  omega

theorem mul_hi (x y : Int) (x0 : 0 ≤ x) (x1 : x ≤ 1125899906842624) (y0 : 0 ≤ y) (y1 : y ≤ 1000000) :
    IntKind.u64.wrap (IntKind.u64.wrap (IntKind.u64.wrap (x / 4294967296 * (y / 4294967296)) +
      IntKind.u64.wrap (IntKind.u64.wrap (x / 4294967296 * bits BinOp.and IntKind.u64 y 4294967295) +
        IntKind.u64.wrap (bits BinOp.and IntKind.u64 x 4294967295 * bits BinOp.and IntKind.u64 y 4294967295) / 4294967296) / 4294967296) +
      IntKind.u64.wrap (bits BinOp.and IntKind.u64 (IntKind.u64.wrap (IntKind.u64.wrap (x / 4294967296 * bits BinOp.and IntKind.u64 y 4294967295) +
        IntKind.u64.wrap (bits BinOp.and IntKind.u64 x 4294967295 * bits BinOp.and IntKind.u64 y 4294967295) / 4294967296)) 4294967295 +
        IntKind.u64.wrap (bits BinOp.and IntKind.u64 x 4294967295 * (y / 4294967296))) / 4294967296) = x * y / 18446744073709551616 := by
  have m1 := mul_bounds (q := x / 4294967296) (p := y) (Q := 262144) (P := 1000000) (by omega) (by omega) (by omega) (by omega)
  have m2 := mul_bounds (q := x % 4294967296) (p := y) (Q := 4294967295) (P := 1000000) (by omega) (by omega) (by omega) (by omega)
  have n1 : 0 ≤ x / 4294967296 * y := Int.mul_nonneg (by omega) y0
  have n2 : 0 ≤ x % 4294967296 * y := Int.mul_nonneg (by omega) y0
  have hy : y / 4294967296 = 0 := by omega
  have hy2 : y % 4294967296 = y := by omega
  have hxy : x * y = x % 4294967296 * y + (x / 4294967296 * y) * 4294967296 := by
    have e := Int.emod_add_mul_ediv x 4294967296
    have e2 : x * y = (x % 4294967296 + 4294967296 * (x / 4294967296)) * y := by rw [e]
    rw [e2, Int.add_mul, Int.mul_assoc, Int.mul_comm 4294967296]
  rw [e_mask x x0 (by omega), e_mask y y0 (by omega), hy, hy2, Int.mul_zero, Int.mul_zero, hxy]
  generalize x / 4294967296 * y = A at *
  generalize x % 4294967296 * y = B at *
  have hw : IntKind.u64.wrap (IntKind.u64.wrap A + IntKind.u64.wrap B / 4294967296) = A + B / 4294967296 := by
    simp only [IntKind.wrap_u64]; omega
  rw [hw, e_mask _ (by omega) (by omega)]
  simp only [IntKind.wrap_u64]
  omega
end Go.Proofs.Ytjgpajbibmfjlaa
