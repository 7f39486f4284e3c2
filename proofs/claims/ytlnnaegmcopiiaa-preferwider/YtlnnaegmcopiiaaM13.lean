/- Texts of the proof, merged: PfU, Parts, Sums, PfO0. -/
import Derived.Test.YtlnnaegmcopiiaaM12
import Derived.Deep.DeepCutAuto
import Derived.Laws.Externs
import Derived.Test.YtlnnaegmcopiiaaM11
/- Contracts of small functions that layer 15 calls; no conditions. -/
namespace Go.Proofs.Ytlnnaegmcopiiaa
open Go.ChangeShapes Go.WideShapes Go.ChangeAt Go.RowKit
set_option maxRecDepth 100000
theorem clamp_seen (n l m : Int) (w : World) :
    Calls Try.prog 21 #[.int .i64 n, .int .i64 l, .int .i64 m] w fun e w' => e = .returned (.int .i64 (clampI n l m)) ∧ Seen w w' := by
  have H := Lib.hid (show clampI n l m = max (min n m) l from rfl)
  go_enter Try.func21, Try.ntmps21
  go_wp2
  all_goals
    go_ret
    exact ⟨ret_int (by rw [H.out]; omega), Seen.refl _⟩
theorem refClamp_seen (n l m : Int) (w : World) :
    Calls Try.prog 27 #[.int .i64 n, .int .i64 l, .int .i64 m] w fun e w' => e = .returned (.int .i64 (clampI n l m)) ∧ Seen w w' := by
  have H := Lib.hid (show clampI n l m = max (min n m) l from rfl)
  go_enter Try.func27, Try.ntmps27
  go_wp2
  all_goals
    go_ret
    exact ⟨ret_int (by rw [H.out]; omega), Seen.refl _⟩
theorem units_in (k n o : Int) (w : World) :
    Calls Try.prog 22 #[.agg #[.int .i64 k, .int .i64 n], .int .i64 o] w fun e w' => e = .returned (.int .i64 (uN ⟨k, n⟩ o)) ∧ Seen w w' := by
  have HV := Lib.hid (show uN ⟨k, n⟩ o = if k = 1 then n else o from rfl)
  obtain ⟨W, hW⟩ : ∃ W, W = w.alloc (.cells #[.int .i64 k, .int .i64 n] 35) := ⟨_, rfl⟩
  have r := (show Blk W w.heap.size [.int .i64 k, .int .i64 n] 35 by rw [hW]; exact Blk.new w _ _).rules2 W (Seen.refl W)
  have SW : Hid (Seen w W) := by rw [hW]; exact (Seen.refl w).alloc _
  by_cases hk : k = 1
  · rw [HV.out, if_pos hk]
    subst hk
    go_enter Try.func22, Try.ntmps22
    go_upto_region 1 with fail
    rw [← hW]
    clear hW
    go_wp2_with fail
    go_ret
    exact ⟨rfl, SW.out⟩
  · rw [HV.out, if_neg hk]
    have hkb : (k == 1) = false := by simpa using hk
    go_enter Try.func22, Try.ntmps22
    go_upto_region 1 with fail
    rw [← hW]
    clear hW
    go_wp2_with fail
    go_ret
    exact ⟨rfl, SW.out⟩
theorem units_ref (k n o : Int) (w : World) :
    Calls Try.prog 26 #[.agg #[.int .i64 k, .int .i64 n], .int .i64 o] w fun e w' => e = .returned (.int .i64 (uN ⟨k, n⟩ o)) ∧ Seen w w' := by
  have HV := Lib.hid (show uN ⟨k, n⟩ o = if k = 1 then n else o from rfl)
  obtain ⟨W, hW⟩ : ∃ W, W = w.alloc (.cells #[.int .i64 k, .int .i64 n] 35) := ⟨_, rfl⟩
  have r := (show Blk W w.heap.size [.int .i64 k, .int .i64 n] 35 by rw [hW]; exact Blk.new w _ _).rules2 W (Seen.refl W)
  have SW : Hid (Seen w W) := by rw [hW]; exact (Seen.refl w).alloc _
  by_cases hk : k = 1
  · rw [HV.out, if_pos hk]
    subst hk
    go_enter Try.func26, Try.ntmps26
    go_upto_region 1 with fail
    rw [← hW]
    clear hW
    go_wp2_with fail
    go_ret
    exact ⟨rfl, SW.out⟩
  · rw [HV.out, if_neg hk]
    have hkb : (k == 1) = false := by simpa using hk
    go_enter Try.func26, Try.ntmps26
    go_upto_region 1 with fail
    rw [← hW]
    clear hW
    go_wp2_with fail
    go_ret
    exact ⟨rfl, SW.out⟩
end Go.Proofs.Ytlnnaegmcopiiaa

/- Contracts of fix.floorDiv and fix.Part over the translation of this seat. -/
namespace Go.Proofs.Ytlnnaegmcopiiaa
open Go.ChangeShapes Go.WideShapes Go.ChangeAt Go.RowKit
set_option maxRecDepth 100000

theorem tdiv_neg (n k : Int) (h : n < 0) : n.tdiv k = -((-n) / k) := by
  have h2 : (-(-n)).tdiv k = -((-n) / k) := by rw [Int.neg_tdiv, Int.tdiv_eq_ediv_of_nonneg (by omega)]
  rwa [Int.neg_neg] at h2
theorem tmod_neg (n k : Int) (h : n < 0) : n.tmod k = -((-n) % k) := by
  have h2 : (-(-n)).tmod k = -((-n) % k) := by rw [Int.neg_tmod, Int.tmod_eq_emod_of_nonneg (by omega)]
  rwa [Int.neg_neg] at h2

def divI (n : Int) : Int := n / 10000

def partV (b p : Int) : Int := b * p / 10000

theorem mul_bounds {q p Q P : Int} (hq0 : 0 ≤ q) (hq : q ≤ Q) (hp0 : -P ≤ p) (hp : p ≤ P) : -(Q * P) ≤ q * p ∧ q * p ≤ Q * P := by
  have hP : 0 ≤ P := by omega
  have h1 : q * p ≤ q * P := Int.mul_le_mul_of_nonneg_left hp hq0
  have h2 : q * P ≤ Q * P := Int.mul_le_mul_of_nonneg_right hq hP
  have h3 : q * (-P) ≤ q * p := Int.mul_le_mul_of_nonneg_left hp0 hq0
  have h4 : q * (-P) = -(q * P) := Int.mul_neg q P
  omega

theorem partV_eq (b p : Int) : b / 10000 * p + divI (b % 10000 * p) = partV b p := by
  unfold divI partV
  have h : b * p = b % 10000 * p + (b / 10000 * p) * 10000 := by
    have e := Int.emod_add_mul_ediv b 10000
    have e2 : b * p = (b % 10000 + 10000 * (b / 10000)) * p := by rw [e]
    rw [e2, Int.add_mul, Int.mul_assoc, Int.mul_comm 10000]
  rw [h, Int.add_mul_ediv_right _ _ (by decide)]
  omega

def partR (b p : Int) : Bool := decide (0 ≤ b ∧ b ≤ 1125899906842624 ∧ -1000000 ≤ p ∧ p ≤ 1000000)
def partB (b p : Int) : Bool := partR b p && fitsB (partV b p)
def partN (b p : Int) : Int := if partB b p then partV b p else 0

theorem ret_two {a b : Int} {c d : Bool} (h : a = b) (h2 : c = d) : Ending.returned (.tuple #[.int .i64 a, .bool c]) = .returned (.tuple #[.int .i64 b, .bool d]) := by rw [h, h2]

theorem partV_bounds {b p : Int} (h1 : 0 ≤ b) (h2 : b ≤ 1099511627776) (h3 : 0 ≤ p) (h4 : p ≤ 1000000) :
    0 ≤ partV b p ∧ partV b p ≤ 109951162777600 ∧ 0 ≤ b * p ∧ b * p ≤ 1099511627776000000 ∧ 10000 * partV b p ≤ b * p ∧ b * p - 10000 * partV b p < 10000 := by
  have h5 : 0 ≤ b * p := Int.mul_nonneg h1 h3
  have h6 := (mul_bounds (q := b) (p := p) (Q := 1099511627776) (P := 1000000) h1 h2 (by omega) h4).2
  unfold partV
  omega

end Go.Proofs.Ytlnnaegmcopiiaa

/- Contracts of the two Sum functions over the translation of this seat, for slices of at most 4000 elements. -/
namespace Go.Proofs.Ytlnnaegmcopiiaa
open Go.ChangeShapes Go.WideShapes Go.ChangeAt Go.RowKit
set_option maxRecDepth 100000

theorem refSum_any (a : Option Addr) (n c : Nat) (zs : List Int) (w : World) (h : ZI w a n zs) (hn : n ≤ 4000) :
    Calls Try.prog 25 #[.slice a n c] w fun e w' => e = .returned (.tuple #[.int .i64 (sumN zs), .bool (sumB zs)]) ∧ w = w' := by
  obtain ⟨hl, hc⟩ := h
  have HL := Lib.hid hl
  clear hl
  have HC := Lib.hid hc
  clear hc
  go_enter Try.func25, Try.ntmps25
  go_wp2
  go_loop [4, 9] (fun s i => ∃ k : Nat, k ≤ n ∧ i = .int .i64 k ∧ s = .int .i64 (isum (zs.take k)) ∧ (zs.take k).all fitsB = true) (fun _ i => n - (intOf i).toNat)
  case atStart => exact ⟨0, Nat.zero_le _, rfl, rfl, rfl⟩
  case round =>
    obtain ⟨k, hk, rfl, rfl, hall⟩ := hrel
    have hb := isum_bound _ hall
    have hlt : (zs.take k).length ≤ k := List.length_take_le _ _
    have hb1 : -4503599627370496000 ≤ isum (zs.take k) := by omega
    have hb2 : isum (zs.take k) ≤ 4503599627370496000 := by omega
    clear hb hlt
    have HA := Lib.hid hall
    clear hall
    by_cases hkn : k < n
    · obtain ⟨b, off, rfl, hcell⟩ := HC.out (by omega)
      have hck := hcell k hkn
      clear hcell
      have HT := Lib.hid (isum_take_succ zs k (by rw [HL.out]; exact hkn))
      cases hf : fitsB (zat zs k) with
      | false =>
        have HF := Lib.hid (sum_bad (by rw [HL.out]; exact hkn) hf)
        go_wp2_with (go_at_call 39; refine (refFits_any _ _).mono ?_; rintro e w' ⟨rfl, rfl⟩)
        go_ret2
        exact ⟨ret_two HF.out.1.symm HF.out.2.symm, rfl⟩
      | true =>
        have hz : -1125899906842624 ≤ zat zs k ∧ zat zs k ≤ 1125899906842624 := by unfold fitsB at hf; simpa using hf
        obtain ⟨hz1, hz2⟩ := hz
        have HN := Lib.hid (all_take_succ (by rw [HL.out]; exact hkn) HA.out hf)
        go_wp2_with (go_at_call 39; refine (refFits_any _ _).mono ?_; rintro e w' ⟨rfl, rfl⟩)
        go_round
        case rel => exact ⟨k + 1, by omega, by go_num, by rw [HT.out], HN.out⟩
        case measure => simp [intOf]; omega
    · have hke : zs.take k = zs := List.take_of_length_le (by rw [HL.out]; omega)
      rw [hke]
      rw [hke] at HA hb1 hb2
      clear hke
      cases hf : fitsB (isum zs) with
      | true =>
        have HF := Lib.hid (sum_good HA.out hf)
        have HF2 := Lib.hid hf
        clear hf
        go_wp2_with (go_at_call 39; refine (refFits_any _ _).mono ?_; rintro e w' ⟨rfl, rfl⟩; rw [HF2.out])
        go_ret2
        exact ⟨ret_two HF.out.1.symm HF.out.2.symm, rfl⟩
      | false =>
        have HF := Lib.hid (sum_great hf)
        have HF2 := Lib.hid hf
        clear hf
        go_wp2_with (go_at_call 39; refine (refFits_any _ _).mono ?_; rintro e w' ⟨rfl, rfl⟩; rw [HF2.out])
        go_ret2
        exact ⟨ret_two HF.out.1.symm HF.out.2.symm, rfl⟩

/-- The two words of a number: what is kept in the low one (unsigned) and in the high one (signed). -/
def loS (s : Int) : Int := s % 18446744073709551616
def hiS (s : Int) : Int := s / 18446744073709551616

theorem add64_0 (x y : Int) (hx : 0 ≤ x) (hy : 0 ≤ y) (w : World) : (callFunc 54 #[.int .u64 x, .int .u64 y, .int .u64 0]).run Try.prog w =
    .ok (.value (.tuple #[.int .u64 (loS (x + y)), .int .u64 (hiS (x + y))])) w := by
  rw [run_callFunc_extern Try.func54 (by kernel_rfl) (by kernel_rfl) (by kernel_rfl) (e := add64Entry) (by kernel_rfl), run_add64 x y 0 hx hy (by omega) (by omega)]
  simp only [Result.andThen, Int.add_zero]
  rfl

theorem hi_step (S z : Int) (h1 : -4503599627370496000 ≤ S) (h2 : S ≤ 4503599627370496000) (h3 : -1125899906842624 ≤ z) (h4 : z ≤ 1125899906842624) :
    wrap64 (hiS S + wrap64 (z / 9223372036854775808 + wrap64 (hiS (loS S + IntKind.u64.wrap z)))) = hiS (S + z) := by
  rw [IntKind.wrap_u64]
  unfold hiS loS
  have a1 : 0 ≤ (S % 18446744073709551616 + z % 18446744073709551616) / 18446744073709551616 ∧ (S % 18446744073709551616 + z % 18446744073709551616) / 18446744073709551616 ≤ 1 := by omega
  have a2 : -1 ≤ z / 9223372036854775808 ∧ z / 9223372036854775808 ≤ 0 := by omega
  have a3 : -1 ≤ S / 18446744073709551616 ∧ S / 18446744073709551616 ≤ 0 := by omega
  rw [IntWalk.wrap64_in ((S % 18446744073709551616 + z % 18446744073709551616) / 18446744073709551616) (by omega)]
  rw [IntWalk.wrap64_in (z / 9223372036854775808 + (S % 18446744073709551616 + z % 18446744073709551616) / 18446744073709551616) (by omega)]
  rw [IntWalk.wrap64_in _ (by omega)]
  have a4 : z / 9223372036854775808 = z / 18446744073709551616 := by omega
  rw [a4]
  omega
theorem lo_step (S z : Int) : loS (loS S + IntKind.u64.wrap z) = loS (S + z) := by
  rw [IntKind.wrap_u64]; unfold loS; omega

theorem sum_any (a : Option Addr) (n c : Nat) (zs : List Int) (w : World) (h : ZI w a n zs) (hn : n ≤ 4000) :
    Calls Try.prog 45 #[.slice a n c] w fun e w' => e = .returned (.tuple #[.int .i64 (sumN zs), .bool (sumB zs)]) ∧ w = w' := by
  obtain ⟨hl, hc⟩ := h
  have HL := Lib.hid hl
  clear hl
  have HC := Lib.hid hc
  clear hc
  go_enter Try.func45, Try.ntmps45
  go_wp2
  go_loop [4, 5, 12] (fun hi lo i => ∃ k : Nat, k ≤ n ∧ i = .int .i64 k ∧ hi = .int .i64 (hiS (isum (zs.take k))) ∧ lo = .int .u64 (loS (isum (zs.take k))) ∧ (zs.take k).all fitsB = true) (fun _ _ i => n - (intOf i).toNat)
  case atStart => exact ⟨0, Nat.zero_le _, rfl, rfl, rfl, rfl⟩
  case round =>
    obtain ⟨k, hk, rfl, rfl, rfl, hall⟩ := hrel
    have hb := isum_bound _ hall
    have hlt : (zs.take k).length ≤ k := List.length_take_le _ _
    have hb1 : -4503599627370496000 ≤ isum (zs.take k) := by omega
    have hb2 : isum (zs.take k) ≤ 4503599627370496000 := by omega
    clear hb hlt
    have HA := Lib.hid hall
    clear hall
    by_cases hkn : k < n
    · obtain ⟨b, off, rfl, hcell⟩ := HC.out (by omega)
      have hck := hcell k hkn
      clear hcell
      have HT := Lib.hid (isum_take_succ zs k (by rw [HL.out]; exact hkn))
      cases hf : fitsB (zat zs k) with
      | false =>
        have HF := Lib.hid (sum_bad (by rw [HL.out]; exact hkn) hf)
        go_wp2_with (go_at_call 53; refine (fits_any _ _).mono ?_; rintro e w' ⟨rfl, rfl⟩)
        go_ret2
        exact ⟨ret_two HF.out.1.symm HF.out.2.symm, rfl⟩
      | true =>
        have hz : -1125899906842624 ≤ zat zs k ∧ zat zs k ≤ 1125899906842624 := by unfold fitsB at hf; simpa using hf
        obtain ⟨hz1, hz2⟩ := hz
        have HN := Lib.hid (all_take_succ (by rw [HL.out]; exact hkn) HA.out hf)
        have lo0 : 0 ≤ loS (isum (zs.take k)) := by unfold loS; omega
        have wr0 : 0 ≤ IntKind.u64.wrap (zat zs k) := by rw [IntKind.wrap_u64]; omega
        go_wp2_with (first | (go_at_call 53; refine (fits_any _ _).mono ?_; rintro e w' ⟨rfl, rfl⟩) | simp only [add64_0 _ _ lo0 wr0])
        go_round
        case rel =>
          refine ⟨k + 1, by omega, by go_num, ?_, ?_, HN.out⟩
          · rw [HT.out]; exact congrArg (Value.int .i64) (hi_step _ _ hb1 hb2 hz1 hz2)
          · rw [HT.out]; exact congrArg (Value.int .u64) (lo_step _ _)
        case measure => simp [intOf]; omega
    · have hke : zs.take k = zs := List.take_of_length_le (by rw [HL.out]; omega)
      rw [hke]
      rw [hke] at HA hb1 hb2
      clear hke
      have hw : wrap64 (loS (isum zs)) = isum zs := by unfold wrap64 loS; omega
      have hh : hiS (isum zs) = if isum zs < 0 then -1 else 0 := by unfold hiS; split <;> omega
      rw [hh]
      clear hh
      cases hf : fitsB (isum zs) with
      | true =>
        have HF := Lib.hid (sum_good HA.out hf)
        have HF2 := Lib.hid hf
        clear hf HA HC HL
        generalize isum zs = S at *
        by_cases hs : S < 0
        · rw [if_pos hs]
          go_wp2_with (go_at_call 53; refine (fits_any _ _).mono ?_; rintro e w' ⟨rfl, rfl⟩; rw [HF2.out])
          go_ret2
          exact ⟨ret_two HF.out.1.symm HF.out.2.symm, rfl⟩
        · rw [if_neg hs]
          go_wp2_with (go_at_call 53; refine (fits_any _ _).mono ?_; rintro e w' ⟨rfl, rfl⟩; rw [HF2.out])
          go_ret2
          exact ⟨ret_two HF.out.1.symm HF.out.2.symm, rfl⟩
      | false =>
        have HF := Lib.hid (sum_great hf)
        have HF2 := Lib.hid hf
        clear hf HA HC HL
        generalize isum zs = S at *
        by_cases hs : S < 0
        · rw [if_pos hs]
          go_wp2_with (go_at_call 53; refine (fits_any _ _).mono ?_; rintro e w' ⟨rfl, rfl⟩; rw [HF2.out])
          go_ret2
          exact ⟨ret_two HF.out.1.symm HF.out.2.symm, rfl⟩
        · rw [if_neg hs]
          go_wp2_with (go_at_call 53; refine (fits_any _ _).mono ?_; rintro e w' ⟨rfl, rfl⟩; rw [HF2.out])
          go_ret2
          exact ⟨ret_two HF.out.1.symm HF.out.2.symm, rfl⟩
end Go.Proofs.Ytlnnaegmcopiiaa

/- Loads of a style, seven numbers in a row; no conditions beyond those written in each theorem. -/
namespace Go.Proofs.Ytlnnaegmcopiiaa
open Go.ChangeShapes Go.WideShapes Go.ChangeAt Go.RowKit
set_option maxRecDepth 100000
theorem ldc2 {w : World} {a : Addr} {v : Value} (h : w.cell? a = some v) : (Instr.loadAt 2 (.pointer (some a))).run Try.prog w = .ok v w := by
  simp [Instr.loadAt, Instr.sureAddr, loadVar, Try.isAgg2, h]
theorem sz35 : (Try.prog.info? 35).map (·.size) = some 2 := by kernel_rfl
theorem lda35 {w : World} {X o : Nat} {vs : List Value} (h : w.rangeAt X o vs) (hl : vs.length = 2) : (Instr.loadAt 35 (.pointer (some ⟨X, o, none⟩))).run Try.prog w = .ok (.agg vs.toArray) w :=
  run_loadAt_mid w X o 35 vs _ h Try.underlying35 rfl (by rw [hl]; exact sz35)
/-- A length of a style, as it lies. -/
theorem ldLen {w : World} {X : Nat} {s : Sty} (h : Hs w X s) (hf : Full s) {i o : Nat} (hi : i < 18) (ho : o = 2 + i * 2) {k n : Int} (hk : lat s.lens i = ⟨k, n⟩) :
    (Instr.loadAt 35 (.pointer (some ⟨X, o, none⟩))).run Try.prog w = .ok (.agg #[.int .i64 k, .int .i64 n]) w := by
  subst ho
  refine lda35 (vs := [.int .i64 k, .int .i64 n]) (fun j v hj => ?_) rfl
  have e := stl_len hf hi
  rw [hk] at e
  match j, hj with
  | 0, hj => simp at hj; subst hj; exact (h.at (2 + i * 2)).trans e.1
  | 1, hj => simp at hj; subst hj; exact (h.at (2 + i * 2 + 1)).trans e.2
theorem ldBord {w : World} {X : Nat} {s : Sty} (h : Hs w X s) (hf : Full s) {i o : Nat} (hi : i < 4) (ho : o = 38 + i) {n : Int} (hk : bat s.bord i = n) :
    (Instr.loadAt 2 (.pointer (some ⟨X, o, none⟩))).run Try.prog w = .ok (.int .i64 n) w := by
  subst ho
  refine ldc2 ?_
  rw [← hk]
  exact (h.at (38 + i)).trans (stl_bord hf hi)
theorem zi_seven (w : World) (a b c d e f g : Int) (t : TypeId) : ZI (w.alloc (.cells #[.int .i64 a, .int .i64 b, .int .i64 c, .int .i64 d, .int .i64 e, .int .i64 f, .int .i64 g] t)) (some ⟨w.heap.size, 0, none⟩) 7 [a, b, c, d, e, f, g] := by
  have k : Blk (w.alloc (.cells #[.int .i64 a, .int .i64 b, .int .i64 c, .int .i64 d, .int .i64 e, .int .i64 f, .int .i64 g] t)) w.heap.size [.int .i64 a, .int .i64 b, .int .i64 c, .int .i64 d, .int .i64 e, .int .i64 f, .int .i64 g] t := Blk.new w _ _
  refine ⟨rfl, fun _ => ⟨_, _, rfl, fun i hi => ?_⟩⟩
  rcases (show i = 0 ∨ i = 1 ∨ i = 2 ∨ i = 3 ∨ i = 4 ∨ i = 5 ∨ i = 6 by omega) with rfl | rfl | rfl | rfl | rfl | rfl | rfl
  · exact k.cell 0
  · exact k.cell 1
  · exact k.cell 2
  · exact k.cell 3
  · exact k.cell 4
  · exact k.cell 5
  · exact k.cell 6
theorem prA_sum (zs : List Int) : prA (if sumB zs then some (sumN zs) else none) = .tuple #[.int .i64 (sumN zs), .bool (sumB zs)] := by
  cases h : sumB zs
  · have : sumN zs = 0 := by unfold sumN; rw [h]; rfl
    rw [this]; rfl
  · rfl
end Go.Proofs.Ytlnnaegmcopiiaa
