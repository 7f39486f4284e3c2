/- A box that came in, opened; no conditions beyond those written in each theorem. -/
import Derived.Test.YtimnhognjkgohaaOpenA
import Derived.Test.YtimnhognjkgohaaBox
namespace Go.Proofs.Ytimnhognjkgohaa
open Go.ChangeShapes Go.WideShapes Go.ChangeAt Go.RowKit Go.Joins
set_option maxRecDepth 100000
/-- A number fits int64. -/
def okN (n : Int) : Prop := -9223372036854775808 ≤ n ∧ n ≤ 9223372036854775807
/-- The numbers of a box fit int64. -/
def okX (b : Bx) : Prop := okN b.base ∧ okN b.lf.n ∧ okN b.wd.n ∧ okN b.rt.n ∧ okN b.ar ∧ okN b.lo ∧ okN b.hi
theorem array11 {α : Type} {cs : Array α} (h : cs.size = 11) : ∃ c0 c1 c2 c3 c4 c5 c6 c7 c8 c9 c10, cs = #[c0, c1, c2, c3, c4, c5, c6, c7, c8, c9, c10] := by
  obtain ⟨l⟩ := cs
  match l, h with
  | [c0, c1, c2, c3, c4, c5, c6, c7, c8, c9, c10], _ => exact ⟨c0, c1, c2, c3, c4, c5, c6, c7, c8, c9, c10, rfl⟩
section
variable {H : Type} {enc : TypeId × Value → H} {w : World} {base : Nat} {spare : Nat → Bool} {held : Bool} {r : Reach} {b0 : Nat} {v : Value} {d : DataW H} {p : List MemPlace}
theorem open_box (hv : Value.okWide Try.prog w r b0 25 v) (h : DataW.Trod enc Try.prog w base spare held 25 v d p) : ∃ b : Bx, v = bxv b ∧ okX b := by
  obtain ⟨cs, rfl, hs, hat⟩ := open_flat (by kernel_rfl) hv h
  obtain ⟨c0, c1, c2, c3, c4, c5, c6, c7, c8, c9, c10, rfl⟩ := array11 (hs.trans (by kernel_rfl))
  obtain ⟨u0, e0, f0⟩ := hat 5 0 (.int .i64) (by kernel_rfl)
  obtain ⟨u1, e1, f1⟩ := hat 5 1 .bool (by kernel_rfl)
  obtain ⟨u2, e2, f2⟩ := hat 5 2 (.int .i64) (by kernel_rfl)
  obtain ⟨u3, e3, f3⟩ := hat 5 3 .bool (by kernel_rfl)
  obtain ⟨u4, e4, f4⟩ := hat 5 4 (.int .i64) (by kernel_rfl)
  obtain ⟨u5, e5, f5⟩ := hat 5 5 .bool (by kernel_rfl)
  obtain ⟨u6, e6, f6⟩ := hat 5 6 (.int .i64) (by kernel_rfl)
  obtain ⟨u7, e7, f7⟩ := hat 5 7 (.int .i64) (by kernel_rfl)
  obtain ⟨u8, e8, f8⟩ := hat 5 8 .bool (by kernel_rfl)
  obtain ⟨u9, e9, f9⟩ := hat 5 9 (.int .i64) (by kernel_rfl)
  obtain ⟨u10, e10, f10⟩ := hat 5 10 (.int .i64) (by kernel_rfl)
  obtain ⟨n0, rfl, g0⟩ := fits_i64 f0
  obtain ⟨n1, rfl⟩ := f1
  obtain ⟨n2, rfl, g2⟩ := fits_i64 f2
  obtain ⟨n3, rfl⟩ := f3
  obtain ⟨n4, rfl, g4⟩ := fits_i64 f4
  obtain ⟨n5, rfl⟩ := f5
  obtain ⟨n6, rfl, g6⟩ := fits_i64 f6
  obtain ⟨n7, rfl, g7⟩ := fits_i64 f7
  obtain ⟨n8, rfl⟩ := f8
  obtain ⟨n9, rfl, g9⟩ := fits_i64 f9
  obtain ⟨n10, rfl, g10⟩ := fits_i64 f10
  simp at e0 e1 e2 e3 e4 e5 e6 e7 e8 e9 e10
  subst e0 e1 e2 e3 e4 e5 e6 e7 e8 e9 e10
  exact ⟨⟨n0, ⟨n1, n2⟩, ⟨n3, n4⟩, ⟨n5, n6⟩, n7, n8, n9, n10⟩, rfl, g0, g2, g4, g6, g7, g9, g10⟩
end
end Go.Proofs.Ytimnhognjkgohaa
