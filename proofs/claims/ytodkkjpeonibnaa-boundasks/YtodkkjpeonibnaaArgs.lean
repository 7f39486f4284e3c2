/- Arguments that came in, opened: numbers, a byte, a size, three numbers; no conditions beyond those written in each theorem. -/
import Derived.Test.YtodkkjpeonibnaaOpenA
import Derived.Test.YtodkkjpeonibnaaAsk
namespace Go.Proofs.Ytodkkjpeonibnaa
open Go.ChangeShapes Go.WideShapes Go.ChangeAt Go.RowKit Go.Joins
set_option maxRecDepth 100000
/-- A number fits int64. -/
def okN (n : Int) : Prop := -9223372036854775808 ≤ n ∧ n ≤ 9223372036854775807
/-- A number fits uint8. -/
def okE (n : Int) : Prop := 0 ≤ n ∧ n ≤ 255
section
variable {H : Type} {enc : TypeId × Value → H} {w : World} {base : Nat} {spare : Nat → Bool} {held : Bool} {r : Reach} {b0 : Nat} {v : Value} {d : DataW H} {p : List MemPlace}
theorem open_num (hv : Value.okWide Try.prog w r b0 2 v) (h : DataW.Trod enc Try.prog w base spare held 2 v d p) : ∃ n : Int, v = .int .i64 n ∧ okN n := by
  obtain ⟨n, rfl, rfl, rfl, wn⟩ := open_int Try.underlying2 hv h
  exact ⟨n, rfl, bounds_i64 wn⟩
theorem open_byte (hv : Value.okWide Try.prog w r b0 5 v) (h : DataW.Trod enc Try.prog w base spare held 5 v d p) : ∃ n : Int, v = .int .u8 n ∧ okE n := by
  obtain ⟨n, rfl, rfl, rfl, wn⟩ := open_int Try.underlying5 hv h
  refine ⟨n, rfl, ?_⟩
  simp only [Lit.wf, Bool.and_eq_true, decide_eq_true_eq] at wn
  exact wn
theorem open_size (hv : Value.okWide Try.prog w r b0 23 v) (h : DataW.Trod enc Try.prog w base spare held 23 v d p) : ∃ q : Sz, v = .agg #[.bool q.au, .int .i64 q.n] ∧ okN q.n := by
  obtain ⟨cs, rfl, hs, hat⟩ := open_flat (by kernel_rfl) hv h
  obtain ⟨c0, c1, rfl⟩ := array2 (hs.trans (by kernel_rfl))
  obtain ⟨u0, e0, f0⟩ := hat 3 0 .bool (by kernel_rfl)
  obtain ⟨u1, e1, f1⟩ := hat 3 1 (.int .i64) (by kernel_rfl)
  obtain ⟨b0, rfl⟩ := f0
  obtain ⟨n1, rfl, g1⟩ := fits_i64 f1
  simp at e0 e1
  subst e0 e1
  exact ⟨⟨b0, n1⟩, rfl, g1⟩
/-- Three numbers. -/
structure N3 where
  a : Int
  b : Int
  c : Int
def ok3 (q : N3) : Prop := okN q.a ∧ okN q.b ∧ okN q.c
theorem array3' {α : Type} {cs : Array α} (h : cs.size = 3) : ∃ c0 c1 c2, cs = #[c0, c1, c2] := by
  obtain ⟨l⟩ := cs
  match l, h with
  | [c0, c1, c2], _ => exact ⟨c0, c1, c2, rfl⟩
theorem open_three (hv : Value.okWide Try.prog w r b0 24 v) (h : DataW.Trod enc Try.prog w base spare held 24 v d p) : ∃ q : N3, v = .agg #[.int .i64 q.a, .int .i64 q.b, .int .i64 q.c] ∧ ok3 q := by
  obtain ⟨cs, rfl, hs, hat⟩ := open_flat (by kernel_rfl) hv h
  obtain ⟨c0, c1, c2, rfl⟩ := array3' (hs.trans (by kernel_rfl))
  obtain ⟨u0, e0, f0⟩ := hat 3 0 (.int .i64) (by kernel_rfl)
  obtain ⟨u1, e1, f1⟩ := hat 3 1 (.int .i64) (by kernel_rfl)
  obtain ⟨u2, e2, f2⟩ := hat 3 2 (.int .i64) (by kernel_rfl)
  obtain ⟨n0, rfl, g0⟩ := fits_i64 f0
  obtain ⟨n1, rfl, g1⟩ := fits_i64 f1
  obtain ⟨n2, rfl, g2⟩ := fits_i64 f2
  simp at e0 e1 e2
  subst e0 e1 e2
  exact ⟨⟨n0, n1, n2⟩, rfl, g0, g1, g2⟩
end
end Go.Proofs.Ytodkkjpeonibnaa
