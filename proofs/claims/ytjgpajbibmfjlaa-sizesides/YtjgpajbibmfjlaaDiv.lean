/- Contracts of math/bits.Div64 at the divisor 10000 over the translation of this seat. -/
import Derived.Test.YtjgpajbibmfjlaaDivMath
import Derived.BigQuiet
import Derived.Deep.QuietTactic
namespace Go.Proofs.Ytjgpajbibmfjlaa
open Go.ChangeShapes Go.WideShapes Go.ChangeAt Go.RowKit
set_option maxRecDepth 100000

set_option maxRecDepth 100000 in
theorem len_10000 (w : World) : Calls Try.prog 25 #[.int .u64 10000] w fun e w' => e = .returned (.int .i64 14) ∧ w = w' := by
  go_enter Try.func25, Try.ntmps25
  go_wp2
  go_ret
  exact ⟨ret_int (by decide +kernel), rfl⟩

theorem lz_10000 (w : World) : Calls Try.prog 24 #[.int .u64 10000] w fun e w' => e = .returned (.int .i64 50) ∧ w = w' := by
  go_enter Try.func24, Try.ntmps24
  go_wp2_with (go_at_call 25; refine (len_10000 _).mono ?_; rintro e w' ⟨rfl, rfl⟩)
  go_ret
  exact ⟨rfl, rfl⟩

theorem ret_uu {a b c d : Int} (h : a = b) (h2 : c = d) : Ending.returned (.tuple #[.int .u64 a, .int .u64 c]) = .returned (.tuple #[.int .u64 b, .int .u64 d]) := by rw [h, h2]

theorem div_zero (lo : Int) (w : World) (h0 : 0 ≤ lo) (h1 : lo ≤ 18446744073709551615) :
    Calls Try.prog 23 #[.int .u64 0, .int .u64 lo, .int .u64 10000] w fun e w' => e = .returned (.tuple #[.int .u64 (lo / 10000), .int .u64 (lo % 10000)]) ∧ ∃ n, w' = w.drewN n := by
  go_enter Try.func23, Try.ntmps23
  go_wp2
  go_quiet (fail)
  go_wp2
  go_ret2
  exact ⟨rfl, nq, rfl⟩

theorem div_pos (hi lo : Int) (w : World) (g0 : 1 ≤ hi) (g1 : hi ≤ 63) (h0 : 0 ≤ lo) (h1 : lo ≤ 18446744073709551615) :
    Calls Try.prog 23 #[.int .u64 hi, .int .u64 lo, .int .u64 10000] w fun e w' => e = .returned (.tuple #[.int .u64 ((hi * 18446744073709551616 + lo) / 10000), .int .u64 ((hi * 18446744073709551616 + lo) % 10000)]) ∧ w = w' := by
  have hne : (hi == 0) = false := by simp; omega
  have E2 := Lib.hid (e_or hi lo (by omega) g1 h0 h1)
  have E3 := Lib.hid (e_wrap lo)
  have E4 := Lib.hid (e_and2 (lo % 16384) (by omega) (by omega))
  go_enter Try.func23, Try.ntmps23
  go_wp2_with (go_at_call 24; refine (lz_10000 _).mono ?_; rintro e w' ⟨rfl, rfl⟩)
  rw [e_and, E2.out, E3.out, E4.out]
  generalize hU : hi * 1125899906842624 + lo / 16384 = U
  have HU := Lib.hid hU
  have U0 : 0 ≤ U := by omega
  have U1 : U < 72057594037927936 := by omega
  clear hU
  rw [IntWalk.u64_quo U 2621440000 (by omega), IntWalk.u64_in (U / 2621440000 * 2621440000) (by omega), IntWalk.u64_in (U - U / 2621440000 * 2621440000) (by omega)]
  generalize hQ : U / 2621440000 = Q
  have HQ := Lib.hid hQ
  have Q0 : 0 ≤ Q := by omega
  have Q1 : Q < 27487791 := by omega
  generalize hR : U - Q * 2621440000 = R
  have HR := Lib.hid hR
  have R0 : 0 ≤ R := by omega
  have R1 : R < 2621440000 := by omega
  clear hR hQ
  go_loop [15, 16] (fun q r => q = .int .u64 Q ∧ r = .int .u64 R) (fun _ _ => 0)
  case atStart => exact ⟨rfl, rfl⟩
  case round =>
    obtain ⟨rfl, rfl⟩ := hrel
    go_wp2
    rw [e_un21 U Q R (lo % 16384) HR.out R0 R1 (by omega) (by omega)]
    generalize hT : R * 4294967296 + lo % 16384 * 262144 = T
    have HT := Lib.hid hT
    have T0 : 0 ≤ T := by omega
    have T1 : T < 11258999068426240000 := by omega
    clear hT
    rw [IntWalk.u64_quo T 2621440000 (by omega), IntWalk.u64_in (T / 2621440000 * 2621440000) (by omega), IntWalk.u64_in (T - T / 2621440000 * 2621440000) (by omega)]
    generalize hP : T / 2621440000 = P
    have HP := Lib.hid hP
    have P0 : 0 ≤ P := by omega
    have P1 : P < 4294967296 := by omega
    generalize hS : T - P * 2621440000 = S
    have HS := Lib.hid hS
    have S0 : 0 ≤ S := by omega
    have S1 : S < 2621440000 := by omega
    clear hS hP
    go_loop [18, 16] (fun q r => q = .int .u64 P ∧ r = .int .u64 S) (fun _ _ => 0)
    case atStart => exact ⟨rfl, rfl⟩
    case round =>
      obtain ⟨rfl, rfl⟩ := hrel
      go_wp2
      go_ret2
      refine ⟨ret_uu ?_ ?_, rfl⟩
      · rw [← (div_fin hi lo U Q R T P S HU.out HR.out HT.out HS.out S0 S1).1]
      · exact e_rem T P _ (div_fin hi lo U Q R T P S HU.out HR.out HT.out HS.out S0 S1).2 (by omega) (by omega)

theorem mul_any (x y : Int) (w : World) (x0 : 0 ≤ x) (x1 : x ≤ 1125899906842624) (y0 : 0 ≤ y) (y1 : y ≤ 1000000) :
    Calls Try.prog 22 #[.int .u64 x, .int .u64 y] w fun e w' => e = .returned (.tuple #[.int .u64 (x * y / 18446744073709551616), .int .u64 (x * y % 18446744073709551616)]) ∧ w = w' := by
  go_enter Try.func22, Try.ntmps22
  go_wp2
  go_ret2
  refine ⟨ret_uu ?_ ?_, rfl⟩
  · exact mul_hi x y x0 x1 y0 y1
  · exact IntKind.wrap_u64 (x * y)
end Go.Proofs.Ytjgpajbibmfjlaa
