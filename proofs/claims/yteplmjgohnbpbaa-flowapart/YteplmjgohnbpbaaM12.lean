/- Texts of the proof, merged: Sums, Strut, PStrArgs, SArgs. -/
import Derived.Test.YteplmjgohnbpbaaM11
import Derived.Test.YteplmjgohnbpbaaM10
import Derived.Laws.Externs
import Derived.ShutString
import Derived.ChangeOld
import Derived.Test.YteplmjgohnbpbaaM2
/- Contracts of the two Sum functions over the translation of this seat, for slices of at most 4000 elements. -/
namespace Go.Proofs.Yteplmjgohnbpbaa
open Go.ChangeShapes Go.WideShapes Go.ChangeAt Go.RowKit
set_option maxRecDepth 100000

/-- The two words of a number: what is kept in the low one (unsigned) and in the high one (signed). -/
def loS (s : Int) : Int := s % 18446744073709551616
def hiS (s : Int) : Int := s / 18446744073709551616

theorem add64_0 (x y : Int) (hx : 0 ≤ x) (hy : 0 ≤ y) (w : World) : (callFunc 96 #[.int .u64 x, .int .u64 y, .int .u64 0]).run Try.prog w =
    .ok (.value (.tuple #[.int .u64 (loS (x + y)), .int .u64 (hiS (x + y))])) w := by
  rw [run_callFunc_extern Try.func96 (by kernel_rfl) (by kernel_rfl) (by kernel_rfl) (e := add64Entry) (by kernel_rfl), run_add64 x y 0 hx hy (by omega) (by omega)]
  simp only [Result.andThen, Int.add_zero]
  rfl

theorem hi_step (S z : Int) (h1 : -4503599627370496000 ≤ S) (h2 : S ≤ 4503599627370496000) (h3 : -1125899906842624 ≤ z) (h4 : z ≤ 1125899906842624) :
    wrap64 (hiS S + wrap64 (z / 9223372036854775808 + wrap64 (hiS (loS S + IntKind.u64.wrap z)))) = hiS (S + z) := by
  rw [IntKind.wrap_u64]
  unfold hiS loS
  have a1 : 0 ≤ (S % 18446744073709551616 + z % 18446744073709551616) / 18446744073709551616 ∧ (S % 18446744073709551616 + z % 18446744073709551616) / 18446744073709551616 ≤ 1 := by omega
  have a2 : -1 ≤ z / 9223372036854775808 ∧ z / 9223372036854775808 ≤ 0 := by omega
  have a3 : -1 ≤ S / 18446744073709551616 ∧ S / 18446744073709551616 ≤ 0 := by omega
  rw [IntWalk.wrap64_in ((S % 18446744073709551616 + z % 18446744073709551616) / 18446744073709551616) (by omega)]
  rw [IntWalk.wrap64_in (z / 9223372036854775808 + (S % 18446744073709551616 + z % 18446744073709551616) / 18446744073709551616) (by omega)]
  rw [IntWalk.wrap64_in _ (by omega)]
  have a4 : z / 9223372036854775808 = z / 18446744073709551616 := by omega
  rw [a4]
  omega
theorem lo_step (S z : Int) : loS (loS S + IntKind.u64.wrap z) = loS (S + z) := by
  rw [IntKind.wrap_u64]; unfold loS; omega

theorem sum_any (a : Option Addr) (n c : Nat) (zs : List Int) (w : World) (h : ZI w a n zs) (hn : n ≤ 4000) :
    Calls Try.prog 87 #[.slice a n c] w fun e w' => e = .returned (.tuple #[.int .i64 (sumN zs), .bool (sumB zs)]) ∧ w = w' := by
  obtain ⟨hl, hc⟩ := h
  have HL := Lib.hid hl
  clear hl
  have HC := Lib.hid hc
  clear hc
  go_enter Try.func87, Try.ntmps87
  go_wp2
  go_loop [4, 5, 12] (fun hi lo i => ∃ k : Nat, k ≤ n ∧ i = .int .i64 k ∧ hi = .int .i64 (hiS (isum (zs.take k))) ∧ lo = .int .u64 (loS (isum (zs.take k))) ∧ (zs.take k).all fitsB = true) (fun _ _ i => n - (intOf i).toNat)
  case atStart => exact ⟨0, Nat.zero_le _, rfl, rfl, rfl, rfl⟩
  case round =>
    obtain ⟨k, hk, rfl, rfl, rfl, hall⟩ := hrel
    have hb := isum_bound _ hall
    have hlt : (zs.take k).length ≤ k := List.length_take_le _ _
    have hb1 : -4503599627370496000 ≤ isum (zs.take k) := by omega
    have hb2 : isum (zs.take k) ≤ 4503599627370496000 := by omega
    clear hb hlt
    have HA := Lib.hid hall
    clear hall
    by_cases hkn : k < n
    · obtain ⟨b, off, rfl, hcell⟩ := HC.out (by omega)
      have hck := hcell k hkn
      clear hcell
      have HT := Lib.hid (isum_take_succ zs k (by rw [HL.out]; exact hkn))
      cases hf : fitsB (zat zs k) with
      | false =>
        have HF := Lib.hid (sum_bad (by rw [HL.out]; exact hkn) hf)
        go_wp2_with (go_at_call 76; refine (fits_any _ _).mono ?_; rintro e w' ⟨rfl, rfl⟩)
        go_ret2
        exact ⟨ret_two HF.out.1.symm HF.out.2.symm, rfl⟩
      | true =>
        have hz : -1125899906842624 ≤ zat zs k ∧ zat zs k ≤ 1125899906842624 := by unfold fitsB at hf; simpa using hf
        obtain ⟨hz1, hz2⟩ := hz
        have HN := Lib.hid (all_take_succ (by rw [HL.out]; exact hkn) HA.out hf)
        have lo0 : 0 ≤ loS (isum (zs.take k)) := by unfold loS; omega
        have wr0 : 0 ≤ IntKind.u64.wrap (zat zs k) := by rw [IntKind.wrap_u64]; omega
        go_wp2_with (first | (go_at_call 76; refine (fits_any _ _).mono ?_; rintro e w' ⟨rfl, rfl⟩) | simp only [add64_0 _ _ lo0 wr0])
        go_round
        case rel =>
          refine ⟨k + 1, by omega, by go_num, ?_, ?_, HN.out⟩
          · rw [HT.out]; exact congrArg (Value.int .i64) (hi_step _ _ hb1 hb2 hz1 hz2)
          · rw [HT.out]; exact congrArg (Value.int .u64) (lo_step _ _)
        case measure => simp [intOf]; omega
    · have hke : zs.take k = zs := List.take_of_length_le (by rw [HL.out]; omega)
      rw [hke]
      rw [hke] at HA hb1 hb2
      clear hke
      have hw : wrap64 (loS (isum zs)) = isum zs := by unfold wrap64 loS; omega
      have hh : hiS (isum zs) = if isum zs < 0 then -1 else 0 := by unfold hiS; split <;> omega
      rw [hh]
      clear hh
      cases hf : fitsB (isum zs) with
      | true =>
        have HF := Lib.hid (sum_good HA.out hf)
        have HF2 := Lib.hid hf
        clear hf HA HC HL
        generalize isum zs = S at *
        by_cases hs : S < 0
        · rw [if_pos hs]
          go_wp2_with (go_at_call 76; refine (fits_any _ _).mono ?_; rintro e w' ⟨rfl, rfl⟩; rw [HF2.out])
          go_ret2
          exact ⟨ret_two HF.out.1.symm HF.out.2.symm, rfl⟩
        · rw [if_neg hs]
          go_wp2_with (go_at_call 76; refine (fits_any _ _).mono ?_; rintro e w' ⟨rfl, rfl⟩; rw [HF2.out])
          go_ret2
          exact ⟨ret_two HF.out.1.symm HF.out.2.symm, rfl⟩
      | false =>
        have HF := Lib.hid (sum_great hf)
        have HF2 := Lib.hid hf
        clear hf HA HC HL
        generalize isum zs = S at *
        by_cases hs : S < 0
        · rw [if_pos hs]
          go_wp2_with (go_at_call 76; refine (fits_any _ _).mono ?_; rintro e w' ⟨rfl, rfl⟩; rw [HF2.out])
          go_ret2
          exact ⟨ret_two HF.out.1.symm HF.out.2.symm, rfl⟩
        · rw [if_neg hs]
          go_wp2_with (go_at_call 76; refine (fits_any _ _).mono ?_; rintro e w' ⟨rfl, rfl⟩; rw [HF2.out])
          go_ret2
          exact ⟨ret_two HF.out.1.symm HF.out.2.symm, rfl⟩
end Go.Proofs.Yteplmjgohnbpbaa

/- Contracts of package strut, of its reference twins and of the law package's own check, over the translation of this seat; no conditions beyond those written in each theorem. -/
namespace Go.Proofs.Yteplmjgohnbpbaa
open Go.ChangeShapes Go.WideShapes Go.ChangeAt Go.RowKit
set_option maxRecDepth 100000
/-- A strut. -/
structure St where
  p : Int
  n : Int
deriving DecidableEq
/-- Its value. -/
abbrev stv (s : St) : Value := .agg #[.int .i64 s.p, .int .i64 s.n]
def ofM (m : Int) : St := ⟨max m 0, min m 0⟩
def joinS (a b : St) : St := ⟨max a.p b.p, min a.n b.n⟩
theorem ret_st {a b c d : Int} (h : a = c) (h2 : b = d) : Ending.returned (.agg #[.int .i64 a, .int .i64 b]) = .returned (.agg #[.int .i64 c, .int .i64 d]) := by rw [h, h2]
theorem join_any (a b : St) (w : World) :
    Calls Try.prog 69 #[.agg #[.int .i64 a.p, .int .i64 a.n], .agg #[.int .i64 b.p, .int .i64 b.n]] w fun e w' => e = .returned (.agg #[.int .i64 (joinS a b).p, .int .i64 (joinS a b).n]) ∧ Below w.heap.size w w' := by
  have H := Lib.hid (show (joinS a b).p = max a.p b.p ∧ (joinS a b).n = min a.n b.n from ⟨rfl, rfl⟩)
  go_enter Try.func69, Try.ntmps69
  go_wp2
  all_goals
    go_returns
    exact ⟨ret_st (by rw [H.out.1]; omega) (by rw [H.out.2]; omega), by go_grown⟩
theorem zs_two (w : World) (a b : Int) (o : Obj) (t : TypeId) : ZI ((w.alloc o).alloc (.cells #[.int .i64 a, .int .i64 b] t)) (some ⟨w.heap.size + 1, 0, none⟩) 2 [a, b] := by
  have k : Blk ((w.alloc o).alloc (.cells #[.int .i64 a, .int .i64 b] t)) (w.heap.size + 1) [.int .i64 a, .int .i64 b] t := by simpa using Blk.new (w.alloc o) [.int .i64 a, .int .i64 b] t
  refine ⟨rfl, fun _ => ⟨_, _, rfl, fun i hi => ?_⟩⟩
  rcases (show i = 0 ∨ i = 1 by omega) with rfl | rfl
  · exact k.cell 0
  · exact k.cell 1
def valN (s : St) : Int := sumN [s.p, s.n]
def valB (s : St) : Bool := sumB [s.p, s.n]
theorem value_any (s : St) (w : World) :
    Calls Try.prog 75 #[.agg #[.int .i64 s.p, .int .i64 s.n]] w fun e w' => e = .returned (.tuple #[.int .i64 (valN s), .bool (valB s)]) ∧ Below w.heap.size w w' := by
  have h1 := Lib.hid (show sumN [s.p, s.n] = valN s from rfl)
  have h2 := Lib.hid (show sumB [s.p, s.n] = valB s from rfl)
  go_enter Try.func75, Try.ntmps75
  go_wp2_with (go_at_call 87; refine (sum_any _ _ _ [s.p, s.n] _ (zs_two w s.p s.n (.cells #[.int .i64 s.p, .int .i64 s.n] 43) 2) (by decide)).mono ?_; rintro e w' ⟨rfl, rfl⟩; rw [h1.out, h2.out])
  go_ret2
  exact ⟨rfl, by go_grown⟩
/-- Two struts are alike. -/
def eqSt (a b : St) : Bool := decide (a.p = b.p ∧ a.n = b.n)
theorem eqSt_self (a : St) : eqSt a a = true := by simp [eqSt]
theorem run_eql25 (w : World) (a n b m : Int) : (binOp .eql 43 (.agg #[.int .i64 a, .int .i64 n]) (.agg #[.int .i64 b, .int .i64 m])).run Try.prog w = .ok (.bool (eqSt ⟨a, n⟩ ⟨b, m⟩)) w := by
  unfold eqSt
  by_cases h1 : a = b
  · by_cases h2 : n = m
    · subst h1 h2; go_simp
    · subst h1; go_simp
  · go_simp
end Go.Proofs.Yteplmjgohnbpbaa

/- Arguments that came in, opened: a byte, a strut, a slice of numbers; no conditions beyond those written in each theorem. -/
namespace Go.Proofs.Yteplmjgohnbpbaa
open Go.ChangeShapes Go.WideShapes Go.ChangeAt Go.RowKit Go.Joins
set_option maxRecDepth 100000
/-- A number fits int64. -/
def okN (n : Int) : Prop := -9223372036854775808 ≤ n ∧ n ≤ 9223372036854775807
/-- A number fits uint8. -/
def okE (n : Int) : Prop := 0 ≤ n ∧ n ≤ 255
def okS (s : St) : Prop := okN s.p ∧ okN s.n
/-- A slice of numbers that came in. -/
structure Row where
  a : Option Addr
  n : Nat
  c : Nat
  zs : List Int
/-- It reads as its list, and lies in memory that was there. -/
def okR (w : World) (q : Row) : Prop := ZI w q.a q.n q.zs ∧ ∀ b off, q.a = some ⟨b, off, none⟩ → 0 < q.n → b < w.heap.size
theorem array2' {α : Type} {cs : Array α} (h : cs.size = 2) : ∃ c0 c1, cs = #[c0, c1] := by
  obtain ⟨l⟩ := cs
  match l, h with
  | [c0, c1], _ => exact ⟨c0, c1, rfl⟩
section
variable {H : Type} {enc : TypeId × Value → H} {w : World} {base : Nat} {spare : Nat → Bool} {held : Bool} {r : Reach} {b0 : Nat} {v : Value} {d : DataW H} {p : List MemPlace}
theorem open_byte (hv : Value.okWide Try.prog w r b0 5 v) (h : DataW.Trod enc Try.prog w base spare held 5 v d p) : ∃ n : Int, v = .int .u8 n ∧ okE n := by
  obtain ⟨n, rfl, rfl, rfl, wn⟩ := open_int Try.underlying5 hv h
  refine ⟨n, rfl, ?_⟩
  simp only [Lit.wf, Bool.and_eq_true, decide_eq_true_eq] at wn
  exact wn
theorem open_strut (hv : Value.okWide Try.prog w r b0 43 v) (h : DataW.Trod enc Try.prog w base spare held 43 v d p) : ∃ q : St, v = .agg #[.int .i64 q.p, .int .i64 q.n] ∧ okS q := by
  obtain ⟨cs, rfl, hs, hat⟩ := open_flat (by kernel_rfl) hv h
  obtain ⟨c0, c1, rfl⟩ := array2' (hs.trans (by kernel_rfl))
  obtain ⟨u0, e0, f0⟩ := hat 3 0 (.int .i64) (by kernel_rfl)
  obtain ⟨u1, e1, f1⟩ := hat 3 1 (.int .i64) (by kernel_rfl)
  obtain ⟨n0, rfl, g0⟩ := fits_i64 f0
  obtain ⟨n1, rfl, g1⟩ := fits_i64 f1
  simp at e0 e1
  subst e0 e1
  exact ⟨⟨n0, n1⟩, rfl, g0, g1⟩
theorem cell_lt {w : World} {a : Addr} {v : Value} (h : w.cell? a = some v) : a.block < w.heap.size := by
  rcases Nat.lt_or_ge a.block w.heap.size with h1 | h1
  · exact h1
  · simp [World.cell?, Array.getElem?_eq_none h1] at h
theorem open_row (hv : Value.okWide Try.prog w r b0 49 v) (h : DataW.Trod enc Try.prog w base spare held 49 v d p) : ∃ q : Row, v = .slice q.a q.n q.c ∧ okR w q := by
  obtain ⟨a0, len0, cap0, rfl⟩ := okWide_slice Try.underlying49 hv
  obtain ⟨fuel, hf⟩ := h
  rcases open_ints Try.underlying49 Try.underlying2 (by kernel_rfl) hf with ⟨hcs, _⟩ | ⟨x, l, c, z, hcs, _, hl, hm, hz, _, hcell, hwz⟩
  · simp [Value.cells] at hcs
    obtain ⟨rfl, rfl, rfl⟩ := hcs
    exact ⟨⟨none, 0, 0, []⟩, rfl, ⟨rfl, fun h => absurd h (by decide)⟩, fun b off h => by cases h⟩
  · simp [Value.cells] at hcs
    obtain ⟨rfl, rfl, rfl⟩ := hcs
    have hz' : len0 ≤ z.length := by
      rw [hz]
      split <;> omega
    refine ⟨⟨some x, len0, cap0, z.take len0⟩, rfl, ⟨by simp only [List.length_take]; omega, fun h0 => ?_⟩, fun b off he h0 => ?_⟩
    · obtain ⟨b, off, spot⟩ := x
      have hc := hcell 0 (by simp only at h0; omega)
      have hspot : spot = none := by simpa [Addr.add] using World.cell?_spot hc
      subst hspot
      refine ⟨b, off, rfl, fun i hi => ?_⟩
      simp only at hi
      have h1 := hcell i (by omega)
      have e1 : zat (z.take len0) i = z.getD i 0 := by
        unfold zat
        simp [hi]
      simp only [e1]
      rw [← h1]
      congr 1
      unfold Addr.add
      split <;> simp_all
    · simp only at he h0
      cases he
      have hc := hcell 0 (by omega)
      have hc' : w.cell? ⟨b, off, none⟩ = some (.int .i64 (z.getD 0 0)) := by simpa [Addr.add] using hc
      exact cell_lt hc'
end
end Go.Proofs.Yteplmjgohnbpbaa

/- Arguments that came in, opened: numbers, Booleans, a length, a size, four lengths; no conditions beyond those written in each theorem. -/
namespace Go.Proofs.Yteplmjgohnbpbaa
open Go.ChangeShapes Go.WideShapes Go.ChangeAt Go.RowKit Go.Joins
set_option maxRecDepth 100000
/-- Its cells. -/
def lnl (q : Ln) : List Value := [.int .i64 q.k, .int .i64 q.n]
def okL (q : Ln) : Prop := okN q.k ∧ okN q.n
section
variable {H : Type} {enc : TypeId × Value → H} {w : World} {base : Nat} {spare : Nat → Bool} {held : Bool} {r : Reach} {b0 : Nat} {v : Value} {d : DataW H} {p : List MemPlace}
theorem open_i64 (hv : Value.okWide Try.prog w r b0 2 v) (h : DataW.Trod enc Try.prog w base spare held 2 v d p) : ∃ n : Int, v = .int .i64 n ∧ okN n := by
  obtain ⟨n, rfl, rfl, rfl, wn⟩ := open_int Try.underlying2 hv h
  exact ⟨n, rfl, bounds_i64 wn⟩
theorem open_boo (hv : Value.okWide Try.prog w r b0 4 v) (h : DataW.Trod enc Try.prog w base spare held 4 v d p) : ∃ b : Bool, v = .bool b ∧ True := by
  obtain ⟨b, rfl, _, _⟩ := open_bool Try.underlying4 hv h
  exact ⟨b, rfl, trivial⟩
theorem open_len (hv : Value.okWide Try.prog w r b0 35 v) (h : DataW.Trod enc Try.prog w base spare held 35 v d p) : ∃ q : Ln, v = .agg #[.int .i64 q.k, .int .i64 q.n] ∧ okL q := by
  obtain ⟨cs, rfl, hs, hat⟩ := open_flat (by kernel_rfl) hv h
  obtain ⟨c0, c1, rfl⟩ := array2 (hs.trans (by kernel_rfl))
  obtain ⟨u0, e0, f0⟩ := hat 3 0 (.int .i64) (by kernel_rfl)
  obtain ⟨u1, e1, f1⟩ := hat 3 1 (.int .i64) (by kernel_rfl)
  obtain ⟨n0, rfl, g0⟩ := fits_i64 f0
  obtain ⟨n1, rfl, g1⟩ := fits_i64 f1
  simp at e0 e1
  subst e0 e1
  exact ⟨⟨n0, n1⟩, rfl, g0, g1⟩
theorem open_size (hv : Value.okWide Try.prog w r b0 24 v) (h : DataW.Trod enc Try.prog w base spare held 24 v d p) : ∃ q : Sz, v = .agg #[.bool q.au, .int .i64 q.n] ∧ okN q.n := by
  obtain ⟨cs, rfl, hs, hat⟩ := open_flat (by kernel_rfl) hv h
  obtain ⟨c0, c1, rfl⟩ := array2 (hs.trans (by kernel_rfl))
  obtain ⟨u0, e0, f0⟩ := hat 3 0 .bool (by kernel_rfl)
  obtain ⟨u1, e1, f1⟩ := hat 3 1 (.int .i64) (by kernel_rfl)
  obtain ⟨b0, rfl⟩ := f0
  obtain ⟨n1, rfl, g1⟩ := fits_i64 f1
  simp at e0 e1
  subst e0 e1
  exact ⟨⟨b0, n1⟩, rfl, g1⟩
/-- Four lengths. -/
structure Ln4 where
  a : Ln
  b : Ln
  c : Ln
  d : Ln
def ln4l (q : Ln4) : List Value := lnl q.a ++ lnl q.b ++ lnl q.c ++ lnl q.d
def okL4 (q : Ln4) : Prop := okL q.a ∧ okL q.b ∧ okL q.c ∧ okL q.d
theorem array8 {α : Type} {cs : Array α} (h : cs.size = 8) : ∃ c0 c1 c2 c3 c4 c5 c6 c7, cs = #[c0, c1, c2, c3, c4, c5, c6, c7] := by
  obtain ⟨l⟩ := cs
  match l, h with
  | [c0, c1, c2, c3, c4, c5, c6, c7], _ => exact ⟨c0, c1, c2, c3, c4, c5, c6, c7, rfl⟩
theorem open_lens (hv : Value.okWide Try.prog w r b0 36 v) (h : DataW.Trod enc Try.prog w base spare held 36 v d p) : ∃ q : Ln4, v = .agg #[.int .i64 q.a.k, .int .i64 q.a.n, .int .i64 q.b.k, .int .i64 q.b.n, .int .i64 q.c.k, .int .i64 q.c.n, .int .i64 q.d.k, .int .i64 q.d.n] ∧ okL4 q := by
  obtain ⟨cs, rfl, hs, hat⟩ := open_flat (by kernel_rfl) hv h
  obtain ⟨c0, c1, c2, c3, c4, c5, c6, c7, rfl⟩ := array8 (hs.trans (by kernel_rfl))
  obtain ⟨u0, e0, f0⟩ := hat 4 0 (.int .i64) (by kernel_rfl)
  obtain ⟨u1, e1, f1⟩ := hat 4 1 (.int .i64) (by kernel_rfl)
  obtain ⟨u2, e2, f2⟩ := hat 4 2 (.int .i64) (by kernel_rfl)
  obtain ⟨u3, e3, f3⟩ := hat 4 3 (.int .i64) (by kernel_rfl)
  obtain ⟨u4, e4, f4⟩ := hat 4 4 (.int .i64) (by kernel_rfl)
  obtain ⟨u5, e5, f5⟩ := hat 4 5 (.int .i64) (by kernel_rfl)
  obtain ⟨u6, e6, f6⟩ := hat 4 6 (.int .i64) (by kernel_rfl)
  obtain ⟨u7, e7, f7⟩ := hat 4 7 (.int .i64) (by kernel_rfl)
  obtain ⟨n0, rfl, g0⟩ := fits_i64 f0
  obtain ⟨n1, rfl, g1⟩ := fits_i64 f1
  obtain ⟨n2, rfl, g2⟩ := fits_i64 f2
  obtain ⟨n3, rfl, g3⟩ := fits_i64 f3
  obtain ⟨n4, rfl, g4⟩ := fits_i64 f4
  obtain ⟨n5, rfl, g5⟩ := fits_i64 f5
  obtain ⟨n6, rfl, g6⟩ := fits_i64 f6
  obtain ⟨n7, rfl, g7⟩ := fits_i64 f7
  simp at e0 e1 e2 e3 e4 e5 e6 e7
  subst e0 e1 e2 e3 e4 e5 e6 e7
  exact ⟨⟨⟨n0, n1⟩, ⟨n2, n3⟩, ⟨n4, n5⟩, ⟨n6, n7⟩⟩, rfl, ⟨g0, g1⟩, ⟨g2, g3⟩, ⟨g4, g5⟩, g6, g7⟩
end
end Go.Proofs.Yteplmjgohnbpbaa
