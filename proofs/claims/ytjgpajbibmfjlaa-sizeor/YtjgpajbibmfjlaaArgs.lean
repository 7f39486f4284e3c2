/- Arguments that came in, opened: numbers, Booleans, a length, a size, four lengths; no conditions beyond those written in each theorem. -/
import Derived.Test.YtjgpajbibmfjlaaOpenA
import Derived.Test.YtjgpajbibmfjlaaSize
namespace Go.Proofs.Ytjgpajbibmfjlaa
open Go.ChangeShapes Go.WideShapes Go.ChangeAt Go.RowKit Go.Joins
set_option maxRecDepth 100000
/-- A number fits int64. -/
def okN (n : Int) : Prop := -9223372036854775808 ≤ n ∧ n ≤ 9223372036854775807
/-- A length: its kind, its number. -/
structure Ln where
  k : Int
  n : Int
/-- Its cells. -/
def lnl (q : Ln) : List Value := [.int .i64 q.k, .int .i64 q.n]
def okL (q : Ln) : Prop := okN q.k ∧ okN q.n
section
variable {H : Type} {enc : TypeId × Value → H} {w : World} {base : Nat} {spare : Nat → Bool} {held : Bool} {r : Reach} {b0 : Nat} {v : Value} {d : DataW H} {p : List MemPlace}
theorem open_num (hv : Value.okWide Try.prog w r b0 2 v) (h : DataW.Trod enc Try.prog w base spare held 2 v d p) : ∃ n : Int, v = .int .i64 n ∧ okN n := by
  obtain ⟨n, rfl, rfl, rfl, wn⟩ := open_int Try.underlying2 hv h
  exact ⟨n, rfl, bounds_i64 wn⟩
theorem open_boo (hv : Value.okWide Try.prog w r b0 4 v) (h : DataW.Trod enc Try.prog w base spare held 4 v d p) : ∃ b : Bool, v = .bool b ∧ True := by
  obtain ⟨b, rfl, _, _⟩ := open_bool Try.underlying4 hv h
  exact ⟨b, rfl, trivial⟩
theorem open_len (hv : Value.okWide Try.prog w r b0 23 v) (h : DataW.Trod enc Try.prog w base spare held 23 v d p) : ∃ q : Ln, v = .agg #[.int .i64 q.k, .int .i64 q.n] ∧ okL q := by
  obtain ⟨cs, rfl, hs, hat⟩ := open_flat (by kernel_rfl) hv h
  obtain ⟨c0, c1, rfl⟩ := array2 (hs.trans (by kernel_rfl))
  obtain ⟨u0, e0, f0⟩ := hat 3 0 (.int .i64) (by kernel_rfl)
  obtain ⟨u1, e1, f1⟩ := hat 3 1 (.int .i64) (by kernel_rfl)
  obtain ⟨n0, rfl, g0⟩ := fits_i64 f0
  obtain ⟨n1, rfl, g1⟩ := fits_i64 f1
  simp at e0 e1
  subst e0 e1
  exact ⟨⟨n0, n1⟩, rfl, g0, g1⟩
theorem open_size (hv : Value.okWide Try.prog w r b0 26 v) (h : DataW.Trod enc Try.prog w base spare held 26 v d p) : ∃ q : Sz, v = .agg #[.bool q.au, .int .i64 q.n] ∧ okN q.n := by
  obtain ⟨cs, rfl, hs, hat⟩ := open_flat (by kernel_rfl) hv h
  obtain ⟨c0, c1, rfl⟩ := array2 (hs.trans (by kernel_rfl))
  obtain ⟨u0, e0, f0⟩ := hat 3 0 .bool (by kernel_rfl)
  obtain ⟨u1, e1, f1⟩ := hat 3 1 (.int .i64) (by kernel_rfl)
  obtain ⟨b0, rfl⟩ := f0
  obtain ⟨n1, rfl, g1⟩ := fits_i64 f1
  simp at e0 e1
  subst e0 e1
  exact ⟨⟨b0, n1⟩, rfl, g1⟩
/-- Four lengths. -/
structure Ln4 where
  a : Ln
  b : Ln
  c : Ln
  d : Ln
def ln4l (q : Ln4) : List Value := lnl q.a ++ lnl q.b ++ lnl q.c ++ lnl q.d
def okL4 (q : Ln4) : Prop := okL q.a ∧ okL q.b ∧ okL q.c ∧ okL q.d
theorem array8 {α : Type} {cs : Array α} (h : cs.size = 8) : ∃ c0 c1 c2 c3 c4 c5 c6 c7, cs = #[c0, c1, c2, c3, c4, c5, c6, c7] := by
  obtain ⟨l⟩ := cs
  match l, h with
  | [c0, c1, c2, c3, c4, c5, c6, c7], _ => exact ⟨c0, c1, c2, c3, c4, c5, c6, c7, rfl⟩
theorem open_lens (hv : Value.okWide Try.prog w r b0 36 v) (h : DataW.Trod enc Try.prog w base spare held 36 v d p) : ∃ q : Ln4, v = .agg #[.int .i64 q.a.k, .int .i64 q.a.n, .int .i64 q.b.k, .int .i64 q.b.n, .int .i64 q.c.k, .int .i64 q.c.n, .int .i64 q.d.k, .int .i64 q.d.n] ∧ okL4 q := by
  obtain ⟨cs, rfl, hs, hat⟩ := open_flat (by kernel_rfl) hv h
  obtain ⟨c0, c1, c2, c3, c4, c5, c6, c7, rfl⟩ := array8 (hs.trans (by kernel_rfl))
  obtain ⟨u0, e0, f0⟩ := hat 4 0 (.int .i64) (by kernel_rfl)
  obtain ⟨u1, e1, f1⟩ := hat 4 1 (.int .i64) (by kernel_rfl)
  obtain ⟨u2, e2, f2⟩ := hat 4 2 (.int .i64) (by kernel_rfl)
  obtain ⟨u3, e3, f3⟩ := hat 4 3 (.int .i64) (by kernel_rfl)
  obtain ⟨u4, e4, f4⟩ := hat 4 4 (.int .i64) (by kernel_rfl)
  obtain ⟨u5, e5, f5⟩ := hat 4 5 (.int .i64) (by kernel_rfl)
  obtain ⟨u6, e6, f6⟩ := hat 4 6 (.int .i64) (by kernel_rfl)
  obtain ⟨u7, e7, f7⟩ := hat 4 7 (.int .i64) (by kernel_rfl)
  obtain ⟨n0, rfl, g0⟩ := fits_i64 f0
  obtain ⟨n1, rfl, g1⟩ := fits_i64 f1
  obtain ⟨n2, rfl, g2⟩ := fits_i64 f2
  obtain ⟨n3, rfl, g3⟩ := fits_i64 f3
  obtain ⟨n4, rfl, g4⟩ := fits_i64 f4
  obtain ⟨n5, rfl, g5⟩ := fits_i64 f5
  obtain ⟨n6, rfl, g6⟩ := fits_i64 f6
  obtain ⟨n7, rfl, g7⟩ := fits_i64 f7
  simp at e0 e1 e2 e3 e4 e5 e6 e7
  subst e0 e1 e2 e3 e4 e5 e6 e7
  exact ⟨⟨⟨n0, n1⟩, ⟨n2, n3⟩, ⟨n4, n5⟩, ⟨n6, n7⟩⟩, rfl, ⟨g0, g1⟩, ⟨g2, g3⟩, ⟨g4, g5⟩, g6, g7⟩
end
end Go.Proofs.Ytjgpajbibmfjlaa
