/- Contracts of the two Sum functions over the translation of this seat, for slices of at most 4000 elements. -/
import Derived.Test.YtlnnaegmcopiiaaSumMath
import Derived.Test.YtlnnaegmcopiiaaParts
import Derived.Laws.Externs
namespace Go.Proofs.Ytlnnaegmcopiiaa
open Go.ChangeShapes Go.WideShapes Go.ChangeAt Go.RowKit
set_option maxRecDepth 100000

theorem refSum_any (a : Option Addr) (n c : Nat) (zs : List Int) (w : World) (h : ZI w a n zs) (hn : n ≤ 4000) :
    Calls Try.prog 25 #[.slice a n c] w fun e w' => e = .returned (.tuple #[.int .i64 (sumN zs), .bool (sumB zs)]) ∧ w = w' := by
  obtain ⟨hl, hc⟩ := h
  have HL := Lib.hid hl
  clear hl
  have HC := Lib.hid hc
  clear hc
  go_enter Try.func25, Try.ntmps25
  go_wp2
  go_loop [4, 9] (fun s i => ∃ k : Nat, k ≤ n ∧ i = .int .i64 k ∧ s = .int .i64 (isum (zs.take k)) ∧ (zs.take k).all fitsB = true) (fun _ i => n - (intOf i).toNat)
  case atStart => exact ⟨0, Nat.zero_le _, rfl, rfl, rfl⟩
  case round =>
    obtain ⟨k, hk, rfl, rfl, hall⟩ := hrel
    have hb := isum_bound _ hall
    have hlt : (zs.take k).length ≤ k := List.length_take_le _ _
    have hb1 : -4503599627370496000 ≤ isum (zs.take k) := by omega
    have hb2 : isum (zs.take k) ≤ 4503599627370496000 := by omega
    clear hb hlt
    have HA := Lib.hid hall
    clear hall
    by_cases hkn : k < n
    · obtain ⟨b, off, rfl, hcell⟩ := HC.out (by omega)
      have hck := hcell k hkn
      clear hcell
      have HT := Lib.hid (isum_take_succ zs k (by rw [HL.out]; exact hkn))
      cases hf : fitsB (zat zs k) with
      | false =>
        have HF := Lib.hid (sum_bad (by rw [HL.out]; exact hkn) hf)
        go_wp2_with (go_at_call 39; refine (refFits_any _ _).mono ?_; rintro e w' ⟨rfl, rfl⟩)
        go_ret2
        exact ⟨ret_two HF.out.1.symm HF.out.2.symm, rfl⟩
      | true =>
        have hz : -1125899906842624 ≤ zat zs k ∧ zat zs k ≤ 1125899906842624 := by unfold fitsB at hf; simpa using hf
        obtain ⟨hz1, hz2⟩ := hz
        have HN := Lib.hid (all_take_succ (by rw [HL.out]; exact hkn) HA.out hf)
        go_wp2_with (go_at_call 39; refine (refFits_any _ _).mono ?_; rintro e w' ⟨rfl, rfl⟩)
        go_round
        case rel => exact ⟨k + 1, by omega, by go_num, by rw [HT.out], HN.out⟩
        case measure => simp [intOf]; omega
    · have hke : zs.take k = zs := List.take_of_length_le (by rw [HL.out]; omega)
      rw [hke]
      rw [hke] at HA hb1 hb2
      clear hke
      cases hf : fitsB (isum zs) with
      | true =>
        have HF := Lib.hid (sum_good HA.out hf)
        have HF2 := Lib.hid hf
        clear hf
        go_wp2_with (go_at_call 39; refine (refFits_any _ _).mono ?_; rintro e w' ⟨rfl, rfl⟩; rw [HF2.out])
        go_ret2
        exact ⟨ret_two HF.out.1.symm HF.out.2.symm, rfl⟩
      | false =>
        have HF := Lib.hid (sum_great hf)
        have HF2 := Lib.hid hf
        clear hf
        go_wp2_with (go_at_call 39; refine (refFits_any _ _).mono ?_; rintro e w' ⟨rfl, rfl⟩; rw [HF2.out])
        go_ret2
        exact ⟨ret_two HF.out.1.symm HF.out.2.symm, rfl⟩

/-- The two words of a number: what is kept in the low one (unsigned) and in the high one (signed). -/
def loS (s : Int) : Int := s % 18446744073709551616
def hiS (s : Int) : Int := s / 18446744073709551616

theorem add64_0 (x y : Int) (hx : 0 ≤ x) (hy : 0 ≤ y) (w : World) : (callFunc 54 #[.int .u64 x, .int .u64 y, .int .u64 0]).run Try.prog w =
    .ok (.value (.tuple #[.int .u64 (loS (x + y)), .int .u64 (hiS (x + y))])) w := by
  rw [run_callFunc_extern Try.func54 (by kernel_rfl) (by kernel_rfl) (by kernel_rfl) (e := add64Entry) (by kernel_rfl), run_add64 x y 0 hx hy (by omega) (by omega)]
  simp only [Result.andThen, Int.add_zero]
  rfl

theorem hi_step (S z : Int) (h1 : -4503599627370496000 ≤ S) (h2 : S ≤ 4503599627370496000) (h3 : -1125899906842624 ≤ z) (h4 : z ≤ 1125899906842624) :
    wrap64 (hiS S + wrap64 (z / 9223372036854775808 + wrap64 (hiS (loS S + IntKind.u64.wrap z)))) = hiS (S + z) := by
  rw [IntKind.wrap_u64]
  unfold hiS loS
  have a1 : 0 ≤ (S % 18446744073709551616 + z % 18446744073709551616) / 18446744073709551616 ∧ (S % 18446744073709551616 + z % 18446744073709551616) / 18446744073709551616 ≤ 1 := by omega
  have a2 : -1 ≤ z / 9223372036854775808 ∧ z / 9223372036854775808 ≤ 0 := by omega
  have a3 : -1 ≤ S / 18446744073709551616 ∧ S / 18446744073709551616 ≤ 0 := by omega
  rw [IntWalk.wrap64_in ((S % 18446744073709551616 + z % 18446744073709551616) / 18446744073709551616) (by omega)]
  rw [IntWalk.wrap64_in (z / 9223372036854775808 + (S % 18446744073709551616 + z % 18446744073709551616) / 18446744073709551616) (by omega)]
  rw [IntWalk.wrap64_in _ (by omega)]
  have a4 : z / 9223372036854775808 = z / 18446744073709551616 := by omega
  rw [a4]
  omega
theorem lo_step (S z : Int) : loS (loS S + IntKind.u64.wrap z) = loS (S + z) := by
  rw [IntKind.wrap_u64]; unfold loS; omega

theorem sum_any (a : Option Addr) (n c : Nat) (zs : List Int) (w : World) (h : ZI w a n zs) (hn : n ≤ 4000) :
    Calls Try.prog 45 #[.slice a n c] w fun e w' => e = .returned (.tuple #[.int .i64 (sumN zs), .bool (sumB zs)]) ∧ w = w' := by
  obtain ⟨hl, hc⟩ := h
  have HL := Lib.hid hl
  clear hl
  have HC := Lib.hid hc
  clear hc
  go_enter Try.func45, Try.ntmps45
  go_wp2
  go_loop [4, 5, 12] (fun hi lo i => ∃ k : Nat, k ≤ n ∧ i = .int .i64 k ∧ hi = .int .i64 (hiS (isum (zs.take k))) ∧ lo = .int .u64 (loS (isum (zs.take k))) ∧ (zs.take k).all fitsB = true) (fun _ _ i => n - (intOf i).toNat)
  case atStart => exact ⟨0, Nat.zero_le _, rfl, rfl, rfl, rfl⟩
  case round =>
    obtain ⟨k, hk, rfl, rfl, rfl, hall⟩ := hrel
    have hb := isum_bound _ hall
    have hlt : (zs.take k).length ≤ k := List.length_take_le _ _
    have hb1 : -4503599627370496000 ≤ isum (zs.take k) := by omega
    have hb2 : isum (zs.take k) ≤ 4503599627370496000 := by omega
    clear hb hlt
    have HA := Lib.hid hall
    clear hall
    by_cases hkn : k < n
    · obtain ⟨b, off, rfl, hcell⟩ := HC.out (by omega)
      have hck := hcell k hkn
      clear hcell
      have HT := Lib.hid (isum_take_succ zs k (by rw [HL.out]; exact hkn))
      cases hf : fitsB (zat zs k) with
      | false =>
        have HF := Lib.hid (sum_bad (by rw [HL.out]; exact hkn) hf)
        go_wp2_with (go_at_call 53; refine (fits_any _ _).mono ?_; rintro e w' ⟨rfl, rfl⟩)
        go_ret2
        exact ⟨ret_two HF.out.1.symm HF.out.2.symm, rfl⟩
      | true =>
        have hz : -1125899906842624 ≤ zat zs k ∧ zat zs k ≤ 1125899906842624 := by unfold fitsB at hf; simpa using hf
        obtain ⟨hz1, hz2⟩ := hz
        have HN := Lib.hid (all_take_succ (by rw [HL.out]; exact hkn) HA.out hf)
        have lo0 : 0 ≤ loS (isum (zs.take k)) := by unfold loS; omega
        have wr0 : 0 ≤ IntKind.u64.wrap (zat zs k) := by rw [IntKind.wrap_u64]; omega
        go_wp2_with (first | (go_at_call 53; refine (fits_any _ _).mono ?_; rintro e w' ⟨rfl, rfl⟩) | simp only [add64_0 _ _ lo0 wr0])
        go_round
        case rel =>
          refine ⟨k + 1, by omega, by go_num, ?_, ?_, HN.out⟩
          · rw [HT.out]; exact congrArg (Value.int .i64) (hi_step _ _ hb1 hb2 hz1 hz2)
          · rw [HT.out]; exact congrArg (Value.int .u64) (lo_step _ _)
        case measure => simp [intOf]; omega
    · have hke : zs.take k = zs := List.take_of_length_le (by rw [HL.out]; omega)
      rw [hke]
      rw [hke] at HA hb1 hb2
      clear hke
      have hw : wrap64 (loS (isum zs)) = isum zs := by unfold wrap64 loS; omega
      have hh : hiS (isum zs) = if isum zs < 0 then -1 else 0 := by unfold hiS; split <;> omega
      rw [hh]
      clear hh
      cases hf : fitsB (isum zs) with
      | true =>
        have HF := Lib.hid (sum_good HA.out hf)
        have HF2 := Lib.hid hf
        clear hf HA HC HL
        generalize isum zs = S at *
        by_cases hs : S < 0
        · rw [if_pos hs]
          go_wp2_with (go_at_call 53; refine (fits_any _ _).mono ?_; rintro e w' ⟨rfl, rfl⟩; rw [HF2.out])
          go_ret2
          exact ⟨ret_two HF.out.1.symm HF.out.2.symm, rfl⟩
        · rw [if_neg hs]
          go_wp2_with (go_at_call 53; refine (fits_any _ _).mono ?_; rintro e w' ⟨rfl, rfl⟩; rw [HF2.out])
          go_ret2
          exact ⟨ret_two HF.out.1.symm HF.out.2.symm, rfl⟩
      | false =>
        have HF := Lib.hid (sum_great hf)
        have HF2 := Lib.hid hf
        clear hf HA HC HL
        generalize isum zs = S at *
        by_cases hs : S < 0
        · rw [if_pos hs]
          go_wp2_with (go_at_call 53; refine (fits_any _ _).mono ?_; rintro e w' ⟨rfl, rfl⟩; rw [HF2.out])
          go_ret2
          exact ⟨ret_two HF.out.1.symm HF.out.2.symm, rfl⟩
        · rw [if_neg hs]
          go_wp2_with (go_at_call 53; refine (fits_any _ _).mono ?_; rintro e w' ⟨rfl, rfl⟩; rw [HF2.out])
          go_ret2
          exact ⟨ret_two HF.out.1.symm HF.out.2.symm, rfl⟩
end Go.Proofs.Ytlnnaegmcopiiaa
