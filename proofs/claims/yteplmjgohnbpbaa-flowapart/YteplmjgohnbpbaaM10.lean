/- Texts of the proof, merged: Parts, DivMath, Div, RefPart, Blk. -/
import Derived.Test.YteplmjgohnbpbaaM9
import Derived.Laws.Bits64b
import Derived.Lib.Mul64
import Derived.BigQuiet
import Derived.Deep.QuietTactic
import Derived.Test.YteplmjgohnbpbaaM0
/- Contracts of fix.floorDiv and fix.Part over the translation of this seat. -/
namespace Go.Proofs.Yteplmjgohnbpbaa
open Go.ChangeShapes Go.WideShapes Go.ChangeAt Go.RowKit
set_option maxRecDepth 100000

theorem tdiv_neg (n k : Int) (h : n < 0) : n.tdiv k = -((-n) / k) := by
  have h2 : (-(-n)).tdiv k = -((-n) / k) := by rw [Int.neg_tdiv, Int.tdiv_eq_ediv_of_nonneg (by omega)]
  rwa [Int.neg_neg] at h2
theorem tmod_neg (n k : Int) (h : n < 0) : n.tmod k = -((-n) % k) := by
  have h2 : (-(-n)).tmod k = -((-n) % k) := by rw [Int.neg_tmod, Int.tmod_eq_emod_of_nonneg (by omega)]
  rwa [Int.neg_neg] at h2

def divI (n : Int) : Int := n / 10000

theorem floorDiv_any (n : Int) (w : World) (h1 : -10000000000 ≤ n) (h2 : n ≤ 10000000000) :
    Calls Try.prog 95 #[.int .i64 n, .int .i64 10000] w fun e w' => e = .returned (.int .i64 (divI n)) ∧ w = w' := by
  have H := Lib.hid (show divI n = n / 10000 from rfl)
  by_cases h3 : n < 0
  · have hd := Lib.hid (tdiv_neg n 10000 h3)
    have hm := Lib.hid (tmod_neg n 10000 h3)
    go_enter Try.func95, Try.ntmps95
    go_wp2
    all_goals
      go_ret
      refine ⟨ret_int ?_, rfl⟩
      have := hd.out
      have := hm.out
      rw [H.out]
      try unfold wrap64
      omega
  · go_enter Try.func95, Try.ntmps95
    go_wp2
    go_ret
    exact ⟨ret_int (by rw [H.out]), rfl⟩

def partV (b p : Int) : Int := b * p / 10000

theorem mul_bounds {q p Q P : Int} (hq0 : 0 ≤ q) (hq : q ≤ Q) (hp0 : -P ≤ p) (hp : p ≤ P) : -(Q * P) ≤ q * p ∧ q * p ≤ Q * P := by
  have hP : 0 ≤ P := by omega
  have h1 : q * p ≤ q * P := Int.mul_le_mul_of_nonneg_left hp hq0
  have h2 : q * P ≤ Q * P := Int.mul_le_mul_of_nonneg_right hq hP
  have h3 : q * (-P) ≤ q * p := Int.mul_le_mul_of_nonneg_left hp0 hq0
  have h4 : q * (-P) = -(q * P) := Int.mul_neg q P
  omega

theorem partV_eq (b p : Int) : b / 10000 * p + divI (b % 10000 * p) = partV b p := by
  unfold divI partV
  have h : b * p = b % 10000 * p + (b / 10000 * p) * 10000 := by
    have e := Int.emod_add_mul_ediv b 10000
    have e2 : b * p = (b % 10000 + 10000 * (b / 10000)) * p := by rw [e]
    rw [e2, Int.add_mul, Int.mul_assoc, Int.mul_comm 10000]
  rw [h, Int.add_mul_ediv_right _ _ (by decide)]
  omega

def partR (b p : Int) : Bool := decide (0 ≤ b ∧ b ≤ 1125899906842624 ∧ -1000000 ≤ p ∧ p ≤ 1000000)
def partB (b p : Int) : Bool := partR b p && fitsB (partV b p)
def partN (b p : Int) : Int := if partB b p then partV b p else 0

theorem ret_two {a b : Int} {c d : Bool} (h : a = b) (h2 : c = d) : Ending.returned (.tuple #[.int .i64 a, .bool c]) = .returned (.tuple #[.int .i64 b, .bool d]) := by rw [h, h2]

theorem part_no (b p : Int) (w : World) (h : partR b p = false) :
    Calls Try.prog 85 #[.int .i64 b, .int .i64 p] w fun e w' => e = .returned (.tuple #[.int .i64 (partN b p), .bool (partB b p)]) ∧ w = w' := by
  have H1 := Lib.hid (show partB b p = false by unfold partB; simp [h])
  have H2 := Lib.hid (show partN b p = 0 by unfold partN; rw [H1.out]; rfl)
  have h3 : ¬ (0 ≤ b ∧ b ≤ 1125899906842624 ∧ -1000000 ≤ p ∧ p ≤ 1000000) := by unfold partR at h; simpa using h
  clear h
  by_cases h4 : b < 0
  · clear h3
    go_enter Try.func85, Try.ntmps85
    go_wp2
    go_ret2
    exact ⟨ret_two H2.out.symm H1.out.symm, rfl⟩
  · by_cases h5 : 1125899906842624 < b
    · clear h3
      go_enter Try.func85, Try.ntmps85
      go_wp2
      go_ret2
      exact ⟨ret_two H2.out.symm H1.out.symm, rfl⟩
    · by_cases h6 : p < -1000000
      · clear h3
        go_enter Try.func85, Try.ntmps85
        go_wp2
        go_ret2
        exact ⟨ret_two H2.out.symm H1.out.symm, rfl⟩
      · have h7 : 1000000 < p := by omega
        clear h3
        go_enter Try.func85, Try.ntmps85
        go_wp2
        go_ret2
        exact ⟨ret_two H2.out.symm H1.out.symm, rfl⟩

theorem part_yes (b p : Int) (w : World) (h : partR b p = true) :
    Calls Try.prog 85 #[.int .i64 b, .int .i64 p] w fun e w' => e = .returned (.tuple #[.int .i64 (partN b p), .bool (partB b p)]) ∧ w = w' := by
  have h3 : 0 ≤ b ∧ b ≤ 1125899906842624 ∧ -1000000 ≤ p ∧ p ≤ 1000000 := by unfold partR at h; simpa using h
  have H1 := Lib.hid (show partB b p = fitsB (partV b p) by unfold partB; simp [h])
  have H2 := Lib.hid (show partN b p = if fitsB (partV b p) then partV b p else 0 by unfold partN; rw [H1.out])
  clear h
  obtain ⟨h4, h5, h6, h7⟩ := h3
  have m1 := mul_bounds (q := b / 10000) (p := p) (Q := 112589990684) (P := 1000000) (by omega) (by omega) (by omega) (by omega)
  have m2 := mul_bounds (q := b % 10000) (p := p) (Q := 9999) (P := 1000000) (by omega) (by omega) (by omega) (by omega)
  have HE := Lib.hid (partV_eq b p)
  have hd : -1000000 ≤ divI (b % 10000 * p) ∧ divI (b % 10000 * p) ≤ 1000000 := by unfold divI; omega
  obtain ⟨m11, m12⟩ := m1
  obtain ⟨m21, m22⟩ := m2
  obtain ⟨hd1, hd2⟩ := hd
  cases hf : fitsB (partV b p) with
  | true =>
    rw [hf] at H1 H2
    have HF := Lib.hid hf
    clear hf
    go_enter Try.func85, Try.ntmps85
    go_wp2_with fail
    refine (floorDiv_any _ _ (by omega) (by omega)).mono ?_
    rintro e w' ⟨rfl, rfl⟩
    go_wp2_with fail
    rw [HE.out]
    refine (fits_any _ _).mono ?_
    rintro e w' ⟨rfl, rfl⟩
    rw [HF.out]
    go_wp2
    go_ret2
    exact ⟨ret_two H2.out.symm H1.out.symm, rfl⟩
  | false =>
    rw [hf] at H1 H2
    have HF := Lib.hid hf
    clear hf
    go_enter Try.func85, Try.ntmps85
    go_wp2_with fail
    refine (floorDiv_any _ _ (by omega) (by omega)).mono ?_
    rintro e w' ⟨rfl, rfl⟩
    go_wp2_with fail
    rw [HE.out]
    refine (fits_any _ _).mono ?_
    rintro e w' ⟨rfl, rfl⟩
    rw [HF.out]
    go_wp2
    go_ret2
    exact ⟨ret_two H2.out.symm H1.out.symm, rfl⟩

theorem part_any (b p : Int) (w : World) :
    Calls Try.prog 85 #[.int .i64 b, .int .i64 p] w fun e w' => e = .returned (.tuple #[.int .i64 (partN b p), .bool (partB b p)]) ∧ w = w' := by
  cases h : partR b p with
  | true => exact part_yes b p w h
  | false => exact part_no b p w h

theorem partV_bounds {b p : Int} (h1 : 0 ≤ b) (h2 : b ≤ 1099511627776) (h3 : 0 ≤ p) (h4 : p ≤ 1000000) :
    0 ≤ partV b p ∧ partV b p ≤ 109951162777600 ∧ 0 ≤ b * p ∧ b * p ≤ 1099511627776000000 ∧ 10000 * partV b p ≤ b * p ∧ b * p - 10000 * partV b p < 10000 := by
  have h5 : 0 ≤ b * p := Int.mul_nonneg h1 h3
  have h6 := (mul_bounds (q := b) (p := p) (Q := 1099511627776) (P := 1000000) h1 h2 (by omega) h4).2
  unfold partV
  omega

theorem part_small (b p : Int) (w : World) (h1 : 0 ≤ b) (h2 : b ≤ 1099511627776) (h3 : 0 ≤ p) (h4 : p ≤ 1000000) :
    Calls Try.prog 85 #[.int .i64 b, .int .i64 p] w fun e w' => e = .returned (.tuple #[.int .i64 (partV b p), .bool true]) ∧ w = w' := by
  have hb := partV_bounds h1 h2 h3 h4
  have hr : partR b p = true := by unfold partR; simp; omega
  have hB : partB b p = true := by unfold partB; rw [hr, fitsB_t (by omega) (by omega)]; rfl
  have hN : partN b p = partV b p := by unfold partN; rw [hB]; rfl
  refine (part_any b p w).mono ?_
  rintro e w' ⟨rfl, rfl⟩
  exact ⟨ret_two hN hB, rfl⟩
end Go.Proofs.Yteplmjgohnbpbaa

/- Plain arithmetic for math/bits.Div64 at the divisor 10000 and for Mul64. -/
namespace Go.Proofs.Yteplmjgohnbpbaa
open Go.ChangeShapes Go.WideShapes Go.ChangeAt Go.RowKit
set_option maxRecDepth 100000

theorem e_and : bits .and .u64 11258999068426240000 4294967295 = 0 := by decide +kernel

theorem e_or (hi lo : Int) (g0 : 0 ≤ hi) (g1 : hi ≤ 63) (h0 : 0 ≤ lo) (h1 : lo ≤ 18446744073709551615) :
    bits .or .u64 (hi * 1125899906842624) (lo / 16384) = hi * 1125899906842624 + lo / 16384 := by
  obtain ⟨a, rfl⟩ := Int.eq_ofNat_of_zero_le g0
  obtain ⟨b, rfl⟩ := Int.eq_ofNat_of_zero_le h0
  have h := bits_or_u64_nat (a * 1125899906842624) (b / 16384) (by omega) (by omega)
  have e : 1125899906842624 * a + b / 16384 = 1125899906842624 * a ||| b / 16384 := Nat.two_pow_add_eq_or_of_lt (i := 50) (b := b / 16384) (by omega) a
  rw [Nat.mul_comm a, ← e] at h
  have c1 : ((1125899906842624 * a : Nat) : Int) = (a : Int) * 1125899906842624 := by omega
  have c2 : ((b / 16384 : Nat) : Int) = (b : Int) / 16384 := by omega
  rw [c1, c2] at h
  rw [h]; omega

theorem e_wrap (lo : Int) :
    IntKind.u64.wrap (lo * 1125899906842624) = lo % 16384 * 1125899906842624 := by
  rw [IntKind.wrap_u64]; omega

theorem e_and2 (r : Int) (h0 : 0 ≤ r) (h1 : r < 16384) : bits .and .u64 (r * 1125899906842624) 4294967295 = 0 := by
  obtain ⟨a, rfl⟩ := Int.eq_ofNat_of_zero_le h0
  have h := bits_and_u64_nat (a * 1125899906842624) 4294967295 (by omega) (by omega)
  have e : a * 1125899906842624 &&& 4294967295 = a * 1125899906842624 % 4294967296 := Nat.and_two_pow_sub_one_eq_mod _ 32
  rw [e] at h
  have c1 : ((a * 1125899906842624 : Nat) : Int) = (a : Int) * 1125899906842624 := by omega
  rw [c1] at h
  refine h.trans ?_
  omega

theorem e_un21 (U Q R L : Int) (hR : U - Q * 2621440000 = R) (R0 : 0 ≤ R) (R1 : R < 2621440000) (L0 : 0 ≤ L) (L1 : L < 16384) :
    IntKind.u64.wrap (IntKind.u64.wrap (IntKind.u64.wrap (U * 4294967296) + L * 1125899906842624 / 4294967296) - IntKind.u64.wrap (Q * 11258999068426240000)) = R * 4294967296 + L * 262144 := by
  simp only [IntKind.wrap_u64]
  have h : L * 1125899906842624 / 4294967296 = L * 262144 := by omega
  rw [h]
  omega

theorem e_quo (Q P : Int) (Q0 : 0 ≤ Q) (Q1 : Q < 27487791) (P0 : 0 ≤ P) (P1 : P < 4294967296) :
    IntKind.u64.wrap (IntKind.u64.wrap (Q * 4294967296) + P) = Q * 4294967296 + P := by
  simp only [IntKind.wrap_u64]; omega

theorem e_rem (T P r : Int) (hr : T - P * 2621440000 = r * 262144) (r0 : 0 ≤ r) (r1 : r < 10000) :
    IntKind.u64.wrap (IntKind.u64.wrap (IntKind.u64.wrap (T * 4294967296)) - IntKind.u64.wrap (P * 11258999068426240000)) / 1125899906842624 = r := by
  simp only [IntKind.wrap_u64]; omega

theorem div_fin (hi lo U Q R T P S : Int) (hU : hi * 1125899906842624 + lo / 16384 = U) (hR : U - Q * 2621440000 = R) (hT : R * 4294967296 + lo % 16384 * 262144 = T)
    (hS : T - P * 2621440000 = S) (S0 : 0 ≤ S) (S1 : S < 2621440000) :
    Q * 4294967296 + P = (hi * 18446744073709551616 + lo) / 10000 ∧ T - P * 2621440000 = ((hi * 18446744073709551616 + lo) % 10000) * 262144 := by
  omega

theorem e_mask (a : Int) (h0 : 0 ≤ a) (h1 : a ≤ 18446744073709551615) : bits .and .u64 a 4294967295 = a % 4294967296 := by
  obtain ⟨n, rfl⟩ := Int.eq_ofNat_of_zero_le h0
  have h := bits_and_u64_nat n 4294967295 (by omega) (by omega)
  have e : n &&& 4294967295 = n % 4294967296 := Nat.and_two_pow_sub_one_eq_mod _ 32
  rw [e] at h
  refine h.trans ?_
  omega

theorem mul_hi (x y : Int) (x0 : 0 ≤ x) (x1 : x ≤ 1125899906842624) (y0 : 0 ≤ y) (y1 : y ≤ 1000000) :
    IntKind.u64.wrap (IntKind.u64.wrap (IntKind.u64.wrap (x / 4294967296 * (y / 4294967296)) +
      IntKind.u64.wrap (IntKind.u64.wrap (x / 4294967296 * bits BinOp.and IntKind.u64 y 4294967295) +
        IntKind.u64.wrap (bits BinOp.and IntKind.u64 x 4294967295 * bits BinOp.and IntKind.u64 y 4294967295) / 4294967296) / 4294967296) +
      IntKind.u64.wrap (bits BinOp.and IntKind.u64 (IntKind.u64.wrap (IntKind.u64.wrap (x / 4294967296 * bits BinOp.and IntKind.u64 y 4294967295) +
        IntKind.u64.wrap (bits BinOp.and IntKind.u64 x 4294967295 * bits BinOp.and IntKind.u64 y 4294967295) / 4294967296)) 4294967295 +
        IntKind.u64.wrap (bits BinOp.and IntKind.u64 x 4294967295 * (y / 4294967296))) / 4294967296) = x * y / 18446744073709551616 := by
  have m1 := mul_bounds (q := x / 4294967296) (p := y) (Q := 262144) (P := 1000000) (by omega) (by omega) (by omega) (by omega)
  have m2 := mul_bounds (q := x % 4294967296) (p := y) (Q := 4294967295) (P := 1000000) (by omega) (by omega) (by omega) (by omega)
  have n1 : 0 ≤ x / 4294967296 * y := Int.mul_nonneg (by omega) y0
  have n2 : 0 ≤ x % 4294967296 * y := Int.mul_nonneg (by omega) y0
  have hy : y / 4294967296 = 0 := by omega
  have hy2 : y % 4294967296 = y := by omega
  have hxy : x * y = x % 4294967296 * y + (x / 4294967296 * y) * 4294967296 := by
    have e := Int.emod_add_mul_ediv x 4294967296
    have e2 : x * y = (x % 4294967296 + 4294967296 * (x / 4294967296)) * y := by rw [e]
    rw [e2, Int.add_mul, Int.mul_assoc, Int.mul_comm 4294967296]
  rw [e_mask x x0 (by omega), e_mask y y0 (by omega), hy, hy2, Int.mul_zero, Int.mul_zero, hxy]
  generalize x / 4294967296 * y = A at *
  generalize x % 4294967296 * y = B at *
  have hw : IntKind.u64.wrap (IntKind.u64.wrap A + IntKind.u64.wrap B / 4294967296) = A + B / 4294967296 := by
    simp only [IntKind.wrap_u64]; omega
  rw [hw, e_mask _ (by omega) (by omega)]
  simp only [IntKind.wrap_u64]
  omega
end Go.Proofs.Yteplmjgohnbpbaa

/- Contracts of math/bits.Div64 at the divisor 10000 over the translation of this seat. -/
namespace Go.Proofs.Yteplmjgohnbpbaa
open Go.ChangeShapes Go.WideShapes Go.ChangeAt Go.RowKit
set_option maxRecDepth 100000

theorem ret_uu {a b c d : Int} (h : a = b) (h2 : c = d) : Ending.returned (.tuple #[.int .u64 a, .int .u64 c]) = .returned (.tuple #[.int .u64 b, .int .u64 d]) := by rw [h, h2]

end Go.Proofs.Yteplmjgohnbpbaa

/- The contract of the reference's Part over the translation of this seat. -/
namespace Go.Proofs.Yteplmjgohnbpbaa
open Go.ChangeShapes Go.WideShapes Go.ChangeAt Go.RowKit
set_option maxRecDepth 100000

theorem partN_of {b p v : Int} (hr : partR b p = true) (hv : partV b p = v) (h1 : -1125899906842624 ≤ v) (h2 : v ≤ 1125899906842624) : partN b p = v ∧ partB b p = true := by
  have hB : partB b p = true := by unfold partB; rw [hr, hv, fitsB_t h1 h2]; rfl
  exact ⟨by unfold partN; rw [hB, hv]; rfl, hB⟩
theorem partN_out {b p v : Int} (hv : partV b p = v) (h : ¬ (-1125899906842624 ≤ v ∧ v ≤ 1125899906842624)) : partN b p = 0 ∧ partB b p = false := by
  have hB : partB b p = false := by unfold partB; rw [hv, fitsB_f h, Bool.and_false]
  exact ⟨by unfold partN; rw [hB]; rfl, hB⟩

theorem partV_neg (b p M : Int) (h : b * -p = M) : partV b p = -(M / 10000 + if 0 < M % 10000 then 1 else 0) := by
  have e : b * p = -M := by rw [← h, Int.mul_neg, Int.neg_neg]
  unfold partV
  rw [e]
  split <;> omega

end Go.Proofs.Yteplmjgohnbpbaa

/- A block whose cells are all known, while it is stored into and others are laid. No number of a seat in it; no conditions beyond those written in each theorem. -/
namespace Go.Proofs.Yteplmjgohnbpbaa
open Go.ChangeShapes Go.WideShapes Go.ChangeAt Go.RowKit
set_option maxRecDepth 100000
/-- The block B holds just these cells. -/
def Blk (w : World) (B : Nat) (l : List Value) (t : TypeId) : Prop := w.heap[B]? = some (.cells l.toArray t)
section
variable {w w' : World} {B : Nat} {l : List Value} {t : TypeId}
theorem Blk.lt (h : Blk w B l t) : B < w.heap.size := by
  rcases Nat.lt_or_ge B w.heap.size with h1 | h1
  · exact h1
  · have h2 : w.heap[B]? = none := Array.getElem?_eq_none h1
    rw [show w.heap[B]? = _ from h] at h2; cases h2
theorem Blk.new (w : World) (l : List Value) (t : TypeId) : Blk (w.alloc (.cells l.toArray t)) w.heap.size l t := World.alloc_heap_new w _
theorem Blk.seen (h : Blk w B l t) (hs : Seen w w') : Blk w' B l t := (hs.block B h.lt).trans h
theorem Blk.alloc (h : Blk w B l t) (o : Obj) : Blk (w.alloc o) B l t := h.seen ((Seen.refl w).alloc o)
theorem Blk.drew (h : Blk w B l t) : Blk w.drew B l t := h
theorem Blk.cell (h : Blk w B l t) (o : Nat) : w.cell? ⟨B, o, none⟩ = l[o]? := by
  rw [Go.Joins.cell_of_block h]; simp
theorem Blk.free (h : Blk w B l t) (o : Nat) : w.frozen? ⟨B, o, none⟩ = false := by
  simp [World.frozen?, show w.heap[B]? = _ from h]
theorem Blk.other (h : Blk w B l t) {p : Addr} (hp : p.block ≠ B) (v : Value) : Blk (w.setCell p v) B l t := (Below.heap_setCell w p v B (Ne.symm hp)).trans h
theorem Blk.set (h : Blk w B l t) (o : Nat) (v : Value) : Blk (w.setCell ⟨B, o, none⟩ v) B (l.set o v) t := by
  have hb : w.heap[B]? = some (.cells l.toArray t) := h
  unfold Blk World.setCell
  simp [Array.getElem?_modify, hb]
theorem Blk.rules2 {x y : Value} (h : Blk w B [x, y] t) : ∀ w', Seen w w' → w'.cell? ⟨B, 0, none⟩ = some x ∧ w'.cell? ⟨B, 1, none⟩ = some y ∧ (∀ o, w'.frozen? ⟨B, o, none⟩ = false) :=
  fun _ hs => ⟨(h.seen hs).cell 0, (h.seen hs).cell 1, (h.seen hs).free⟩
end
end Go.Proofs.Yteplmjgohnbpbaa
