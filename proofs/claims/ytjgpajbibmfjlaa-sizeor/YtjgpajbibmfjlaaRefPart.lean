/- The contract of the reference's Part over the translation of this seat. -/
import Derived.Test.YtjgpajbibmfjlaaDiv
namespace Go.Proofs.Ytjgpajbibmfjlaa
open Go.ChangeShapes Go.WideShapes Go.ChangeAt Go.RowKit
set_option maxRecDepth 100000

theorem div_any (M : Int) (w : World) (h0 : 0 ≤ M) (h1 : M ≤ 1125899906842624000000) :
    Calls Try.prog 23 #[.int .u64 (M / 18446744073709551616), .int .u64 (M % 18446744073709551616), .int .u64 10000] w fun e w' => e = .returned (.tuple #[.int .u64 (M / 10000), .int .u64 (M % 10000)]) ∧ ∃ n, w' = w.drewN n := by
  by_cases hz : M / 18446744073709551616 = 0
  · have e1 : M % 18446744073709551616 = M := by omega
    rw [hz, e1]
    exact div_zero M w h0 (by omega)
  · refine (div_pos (M / 18446744073709551616) (M % 18446744073709551616) w (by omega) (by omega) (by omega) (by omega)).mono ?_
    rintro e w' ⟨rfl, rfl⟩
    refine ⟨?_, 0, rfl⟩
    have e2 : M / 18446744073709551616 * 18446744073709551616 + M % 18446744073709551616 = M := by omega
    rw [e2]

theorem refPart_no (b p : Int) (w : World) (h : partR b p = false) :
    Calls Try.prog 19 #[.int .i64 b, .int .i64 p] w fun e w' => e = .returned (.tuple #[.int .i64 (partN b p), .bool (partB b p)]) ∧ ∃ n, w' = w.drewN n := by
  have H1 := Lib.hid (show partB b p = false by unfold partB; simp [h])
  have H2 := Lib.hid (show partN b p = 0 by unfold partN; rw [H1.out]; rfl)
  have h3 : ¬ (0 ≤ b ∧ b ≤ 1125899906842624 ∧ -1000000 ≤ p ∧ p ≤ 1000000) := by unfold partR at h; simpa using h
  clear h
  by_cases h4 : b < 0
  · clear h3
    go_enter Try.func19, Try.ntmps19
    go_wp2
    go_ret2
    exact ⟨ret_two H2.out.symm H1.out.symm, 0, rfl⟩
  · by_cases h5 : 1125899906842624 < b
    · clear h3
      go_enter Try.func19, Try.ntmps19
      go_wp2
      go_ret2
      exact ⟨ret_two H2.out.symm H1.out.symm, 0, rfl⟩
    · by_cases h6 : p < -1000000
      · clear h3
        go_enter Try.func19, Try.ntmps19
        go_wp2
        go_ret2
        exact ⟨ret_two H2.out.symm H1.out.symm, 0, rfl⟩
      · have h7 : 1000000 < p := by omega
        clear h3
        go_enter Try.func19, Try.ntmps19
        go_wp2
        go_ret2
        exact ⟨ret_two H2.out.symm H1.out.symm, 0, rfl⟩

theorem partN_of {b p v : Int} (hr : partR b p = true) (hv : partV b p = v) (h1 : -1125899906842624 ≤ v) (h2 : v ≤ 1125899906842624) : partN b p = v ∧ partB b p = true := by
  have hB : partB b p = true := by unfold partB; rw [hr, hv, fitsB_t h1 h2]; rfl
  exact ⟨by unfold partN; rw [hB, hv]; rfl, hB⟩
theorem partN_out {b p v : Int} (hv : partV b p = v) (h : ¬ (-1125899906842624 ≤ v ∧ v ≤ 1125899906842624)) : partN b p = 0 ∧ partB b p = false := by
  have hB : partB b p = false := by unfold partB; rw [hv, fitsB_f h, Bool.and_false]
  exact ⟨by unfold partN; rw [hB]; rfl, hB⟩

theorem refPart_pos (b p : Int) (w : World) (h1 : 0 ≤ b) (h2 : b ≤ 1125899906842624) (h3 : 0 ≤ p) (h4 : p ≤ 1000000) :
    Calls Try.prog 19 #[.int .i64 b, .int .i64 p] w fun e w' => e = .returned (.tuple #[.int .i64 (partN b p), .bool (partB b p)]) ∧ ∃ n, w' = w.drewN n := by
  have hr : partR b p = true := by unfold partR; simp; omega
  have HR := Lib.hid hr
  clear hr
  have HV := Lib.hid (show partV b p = b * p / 10000 from rfl)
  have m1 := (mul_bounds (q := b) (p := p) (Q := 1125899906842624) (P := 1000000) h1 h2 (by omega) h4).2
  have m0 : 0 ≤ b * p := Int.mul_nonneg h1 h3
  go_enter Try.func19, Try.ntmps19
  go_wp2_with fail
  refine (mul_any b p _ h1 h2 h3 h4).mono ?_
  rintro e w' ⟨rfl, rfl⟩
  generalize b * p = M at *
  go_wp2_with fail
  refine (div_any M _ m0 m1).mono ?_
  rintro e w' ⟨rfl, n, rfl⟩
  have q0 : 0 ≤ M / 10000 := by omega
  have q1 : M / 10000 ≤ 112589990684262400 := by omega
  generalize M / 10000 = q at *
  generalize M % 10000 = r
  go_wp2
  all_goals
    go_ret2
    first
    | exact ⟨ret_two (partN_of HR.out HV.out (by omega) (by omega)).1.symm (partN_of HR.out HV.out (by omega) (by omega)).2.symm, n, rfl⟩
    | exact ⟨ret_two (partN_out HV.out (by omega)).1.symm (partN_out HV.out (by omega)).2.symm, n, rfl⟩

theorem partV_neg (b p M : Int) (h : b * -p = M) : partV b p = -(M / 10000 + if 0 < M % 10000 then 1 else 0) := by
  have e : b * p = -M := by rw [← h, Int.mul_neg, Int.neg_neg]
  unfold partV
  rw [e]
  split <;> omega

theorem refPart_neg (b p : Int) (w : World) (h1 : 0 ≤ b) (h2 : b ≤ 1125899906842624) (h3 : -1000000 ≤ p) (h4 : p < 0) :
    Calls Try.prog 19 #[.int .i64 b, .int .i64 p] w fun e w' => e = .returned (.tuple #[.int .i64 (partN b p), .bool (partB b p)]) ∧ ∃ n, w' = w.drewN n := by
  have hr : partR b p = true := by unfold partR; simp; omega
  have HR := Lib.hid hr
  clear hr
  have m1 := (mul_bounds (q := b) (p := -p) (Q := 1125899906842624) (P := 1000000) h1 h2 (by omega) (by omega)).2
  have m0 : 0 ≤ b * -p := Int.mul_nonneg h1 (by omega)
  have HV := Lib.hid (partV_neg b p (b * -p) rfl)
  go_enter Try.func19, Try.ntmps19
  go_wp2_with fail
  refine (mul_any b (-p) _ h1 h2 (by omega) (by omega)).mono ?_
  rintro e w' ⟨rfl, rfl⟩
  generalize b * -p = M at *
  go_wp2_with fail
  refine (div_any M _ m0 m1).mono ?_
  rintro e w' ⟨rfl, n, rfl⟩
  have q0 : 0 ≤ M / 10000 := by omega
  have q1 : M / 10000 ≤ 112589990684262400 := by omega
  generalize M / 10000 = q at *
  generalize M % 10000 = r at *
  by_cases hr : 0 < r
  · have HV2 := Lib.hid (show partV b p = -(q + 1) by rw [HV.out, if_pos hr])
    go_wp2
    all_goals
      go_ret2
      first
      | exact ⟨ret_two (partN_of HR.out HV2.out (by omega) (by omega)).1.symm (partN_of HR.out HV2.out (by omega) (by omega)).2.symm, n, rfl⟩
      | exact ⟨ret_two (partN_out HV2.out (by omega)).1.symm (partN_out HV2.out (by omega)).2.symm, n, rfl⟩
  · have HV2 := Lib.hid (show partV b p = -q by rw [HV.out, if_neg hr, Int.add_zero])
    go_wp2
    all_goals
      go_ret2
      first
      | exact ⟨ret_two (partN_of HR.out HV2.out (by omega) (by omega)).1.symm (partN_of HR.out HV2.out (by omega) (by omega)).2.symm, n, rfl⟩
      | exact ⟨ret_two (partN_out HV2.out (by omega)).1.symm (partN_out HV2.out (by omega)).2.symm, n, rfl⟩

theorem refPart_any (b p : Int) (w : World) :
    Calls Try.prog 19 #[.int .i64 b, .int .i64 p] w fun e w' => e = .returned (.tuple #[.int .i64 (partN b p), .bool (partB b p)]) ∧ ∃ n, w' = w.drewN n := by
  cases h : partR b p with
  | false => exact refPart_no b p w h
  | true =>
    have h3 : 0 ≤ b ∧ b ≤ 1125899906842624 ∧ -1000000 ≤ p ∧ p ≤ 1000000 := by unfold partR at h; simpa using h
    by_cases h4 : p < 0
    · exact refPart_neg b p w h3.1 h3.2.1 h3.2.2.1 h4
    · exact refPart_pos b p w h3.1 h3.2.1 (by omega) h3.2.2.2
end Go.Proofs.Ytjgpajbibmfjlaa
