/- Arguments that came in, opened: a rectangle, a number. -/
import Derived.Test.YtckfdlolmenigaaBase
import Derived.Lib.SmallJoins
namespace Go.Proofs.Ytckfdlolmenigaa
open Go.ChangeShapes Go.WideShapes Go.ChangeAt Go.RowKit Go.Joins
/-- A number fits int64. -/
def okN (n : Int) : Prop := -9223372036854775808 ≤ n ∧ n ≤ 9223372036854775807
/-- A rectangle's numbers fit int64. -/
def okR (r : R4) : Prop := okN r.x0 ∧ okN r.y0 ∧ okN r.x1 ∧ okN r.y1
theorem cells23 : Try.prog.cellsOf 23 = 4 := by kernel_rfl
theorem open_num {H : Type} {enc : TypeId × Value → H} {w : World} {base : Nat} {spare : Nat → Bool} {held : Bool} {r : Reach} {b0 : Nat} {v : Value} {d : DataW H} {p : List MemPlace}
    (hv : Value.okWide Try.prog w r b0 2 v) (h : DataW.Trod enc Try.prog w base spare held 2 v d p) : ∃ n : Int, v = .int .i64 n ∧ okN n := by
  obtain ⟨n, rfl, rfl, rfl, wn⟩ := open_int Try.underlying2 hv h
  exact ⟨n, rfl, bounds_i64 wn⟩
theorem open_rect {H : Type} {enc : TypeId × Value → H} {w : World} {base : Nat} {spare : Nat → Bool} {held : Bool} {r : Reach} {b0 : Nat} {v : Value} {d : DataW H} {p : List MemPlace}
    (hv : Value.okWide Try.prog w r b0 23 v) (h : DataW.Trod enc Try.prog w base spare held 23 v d p) :
    ∃ q : R4, v = .agg #[.int .i64 q.x0, .int .i64 q.y0, .int .i64 q.x1, .int .i64 q.y1] ∧ okR q := by
  obtain ⟨c0, c1, c2, c3, y0, y1, y2, y3, m, rfl, rfl, rfl, hy0, hy1, hy2, hy3⟩ := open_agg4 Try.underlying23 (by kernel_rfl) cells23 hv h
  obtain ⟨n0, e0, rfl, w0⟩ := DataW.trod_int Try.underlying2 hy0
  obtain ⟨n1, e1, rfl, w1⟩ := DataW.trod_int Try.underlying2 hy1
  obtain ⟨n2, e2, rfl, w2⟩ := DataW.trod_int Try.underlying2 hy2
  obtain ⟨n3, e3, rfl, w3⟩ := DataW.trod_int Try.underlying2 hy3
  simp only [List.cons.injEq, and_true] at e0 e1 e2 e3
  subst e0 e1 e2 e3
  exact ⟨⟨n0, n1, n2, n3⟩, rfl, bounds_i64 w0, bounds_i64 w1, bounds_i64 w2, bounds_i64 w3⟩
end Go.Proofs.Ytckfdlolmenigaa
