/- Arguments that came in, opened: a slice of children, a slice of uint16, a Boolean; no conditions beyond those written in each theorem. -/
import Derived.Test.YtmcjabbfhhdmmaaOpenI
import Derived.Test.YtmcjabbfhhdmmaaPMem
namespace Go.Proofs.Ytmcjabbfhhdmmaa
open Go.ChangeShapes Go.WideShapes Go.ChangeAt Go.RowKit Go.Joins
set_option maxRecDepth 100000
theorem ZS_seen {w w' : World} {a : Option Addr} {n : Nat} {zs : List Int} (h : ZS w a n zs) (hs : Seen w w') : ZS w' a n zs := by
  refine ⟨h.1, fun h0 => ?_⟩
  obtain ⟨b, off, e, hc⟩ := h.2 h0
  exact ⟨b, off, e, fun i hi => hs.cell (hc i hi)⟩
section
variable {H : Type} {enc : TypeId × Value → H} {w : World} {base : Nat} {spare : Nat → Bool} {held : Bool} {r : Reach} {b0 : Nat} {v : Value} {d : DataW H} {p : List MemPlace}
theorem open_boo (hv : Value.okWide Try.prog w r b0 4 v) (h : DataW.Trod enc Try.prog w base spare held 4 v d p) : ∃ b : Bool, v = .bool b ∧ True := by
  obtain ⟨b, rfl, _, _⟩ := open_bool Try.underlying4 hv h
  exact ⟨b, rfl, trivial⟩
theorem c32 : Try.prog.cellsOf 32 = 8 := by kernel_rfl
theorem list8 {α : Type} {l : List α} (h : l.length = 8) : ∃ c0 c1 c2 c3 c4 c5 c6 c7, l = [c0, c1, c2, c3, c4, c5, c6, c7] := by
  match l, h with
  | [c0, c1, c2, c3, c4, c5, c6, c7], _ => exact ⟨c0, c1, c2, c3, c4, c5, c6, c7, rfl⟩
theorem trod_child {fuel : Nat} {x : DataW H × List MemPlace} {cs : List Value} (h : DataW.trod enc Try.prog w base spare held fuel 32 cs = some x) : ∃ q : Ch, cs = chl q ∧ True := by
  obtain ⟨xs, n, _, _, hl, hxl, hf⟩ := DataW.trod_struct Try.underlying32 h
  rw [c32] at hl
  obtain ⟨c0, c1, c2, c3, c4, c5, c6, c7, rfl⟩ := list8 hl
  obtain ⟨u0, e0, f0⟩ := trod_atom (d := 4) (i := 0) (a := .int .i64) (by kernel_rfl) h
  obtain ⟨u1, e1, f1⟩ := trod_atom (d := 4) (i := 1) (a := .int .i64) (by kernel_rfl) h
  obtain ⟨u2, e2, f2⟩ := trod_atom (d := 4) (i := 2) (a := .int .i64) (by kernel_rfl) h
  obtain ⟨u3, e3, f3⟩ := trod_atom (d := 4) (i := 3) (a := .int .i64) (by kernel_rfl) h
  obtain ⟨u4, e4, f4⟩ := trod_atom (d := 4) (i := 4) (a := .int .i64) (by kernel_rfl) h
  obtain ⟨u5, e5, f5⟩ := trod_atom (d := 4) (i := 5) (a := .int .i64) (by kernel_rfl) h
  obtain ⟨u6, e6, f6⟩ := trod_atom (d := 4) (i := 6) (a := .bool) (by kernel_rfl) h
  obtain ⟨u7, e7, f7⟩ := trod_atom (d := 4) (i := 7) (a := .int .i64) (by kernel_rfl) h
  obtain ⟨n0, rfl, _⟩ := fits_i64 f0
  obtain ⟨n1, rfl, _⟩ := fits_i64 f1
  obtain ⟨n2, rfl, _⟩ := fits_i64 f2
  obtain ⟨n3, rfl, _⟩ := fits_i64 f3
  obtain ⟨n4, rfl, _⟩ := fits_i64 f4
  obtain ⟨n5, rfl, _⟩ := fits_i64 f5
  obtain ⟨n6, rfl⟩ := f6
  obtain ⟨n7, rfl, _⟩ := fits_i64 f7
  simp at e0 e1 e2 e3 e4 e5 e6 e7
  subst e0 e1 e2 e3 e4 e5 e6 e7
  exact ⟨⟨⟨n0, n1⟩, ⟨n2, n3⟩, ⟨n4, n5⟩, n6, n7⟩, rfl, trivial⟩
/-- A slice of children that came in. -/
structure Kids where
  a : Option Addr
  n : Nat
  c : Nat
  l : List Ch
def okK (w : World) (q : Kids) : Prop := CS w q.a q.n q.l ∧ (q.a = none → q.c = 0)
theorem open_kids (hv : Value.okWide Try.prog w r b0 22 v) (h : DataW.Trod enc Try.prog w base spare held 22 v d p) : ∃ q : Kids, v = .slice q.a q.n q.c ∧ okK w q := by
  obtain ⟨a, n, c, l, rfl, h1, _, _, h2⟩ := open_list chl (fun _ => True) zeroC Try.underlying22 c32 (by omega) chl_length (fun _ _ _ hx => trod_child hx) hv h
  exact ⟨⟨a, n, c, l⟩, rfl, h1, h2⟩
/-- A slice of uint16 that came in. -/
structure Us where
  a : Option Addr
  n : Nat
  c : Nat
  l : List Int
def okU (w : World) (q : Us) : Prop := KS .u16 w q.a q.n q.l ∧ ∀ z ∈ q.l, 0 ≤ z ∧ z ≤ 65535
theorem open_us (hv : Value.okWide Try.prog w r b0 45 v) (h : DataW.Trod enc Try.prog w base spare held 45 v d p) : ∃ q : Us, v = .slice q.a q.n q.c ∧ okU w q := by
  obtain ⟨a, n, c, l, rfl, h1, h2⟩ := open_ks Try.underlying45 Try.underlying46 (by kernel_rfl) hv h
  refine ⟨⟨a, n, c, l⟩, rfl, h1, fun z hz => ?_⟩
  have := h2 z hz
  simp only [Lit.wf, Bool.and_eq_true, decide_eq_true_eq] at this
  exact this
end
end Go.Proofs.Ytmcjabbfhhdmmaa
