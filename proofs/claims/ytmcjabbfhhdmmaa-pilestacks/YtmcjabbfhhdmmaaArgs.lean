/- Arguments that came in, opened: a byte, a strut, a slice of numbers; no conditions beyond those written in each theorem. -/
import Derived.Test.YtmcjabbfhhdmmaaOpenA
import Derived.Test.YtmcjabbfhhdmmaaStrut
import Derived.ShutString
import Derived.ChangeOld
namespace Go.Proofs.Ytmcjabbfhhdmmaa
open Go.ChangeShapes Go.WideShapes Go.ChangeAt Go.RowKit Go.Joins
set_option maxRecDepth 100000
/-- A number fits int64. -/
def okN (n : Int) : Prop := -9223372036854775808 ≤ n ∧ n ≤ 9223372036854775807
/-- A number fits uint8. -/
def okE (n : Int) : Prop := 0 ≤ n ∧ n ≤ 255
def okS (s : St) : Prop := okN s.p ∧ okN s.n
/-- A slice of numbers that came in. -/
structure Row where
  a : Option Addr
  n : Nat
  c : Nat
  zs : List Int
/-- It reads as its list, and lies in memory that was there. -/
def okR (w : World) (q : Row) : Prop := ZS w q.a q.n q.zs ∧ ∀ b off, q.a = some ⟨b, off, none⟩ → 0 < q.n → b < w.heap.size
theorem array2' {α : Type} {cs : Array α} (h : cs.size = 2) : ∃ c0 c1, cs = #[c0, c1] := by
  obtain ⟨l⟩ := cs
  match l, h with
  | [c0, c1], _ => exact ⟨c0, c1, rfl⟩
section
variable {H : Type} {enc : TypeId × Value → H} {w : World} {base : Nat} {spare : Nat → Bool} {held : Bool} {r : Reach} {b0 : Nat} {v : Value} {d : DataW H} {p : List MemPlace}
theorem open_byte (hv : Value.okWide Try.prog w r b0 5 v) (h : DataW.Trod enc Try.prog w base spare held 5 v d p) : ∃ n : Int, v = .int .u8 n ∧ okE n := by
  obtain ⟨n, rfl, rfl, rfl, wn⟩ := open_int Try.underlying5 hv h
  refine ⟨n, rfl, ?_⟩
  simp only [Lit.wf, Bool.and_eq_true, decide_eq_true_eq] at wn
  exact wn
theorem open_strut (hv : Value.okWide Try.prog w r b0 30 v) (h : DataW.Trod enc Try.prog w base spare held 30 v d p) : ∃ q : St, v = .agg #[.int .i64 q.p, .int .i64 q.n] ∧ okS q := by
  obtain ⟨cs, rfl, hs, hat⟩ := open_flat (by kernel_rfl) hv h
  obtain ⟨c0, c1, rfl⟩ := array2' (hs.trans (by kernel_rfl))
  obtain ⟨u0, e0, f0⟩ := hat 3 0 (.int .i64) (by kernel_rfl)
  obtain ⟨u1, e1, f1⟩ := hat 3 1 (.int .i64) (by kernel_rfl)
  obtain ⟨n0, rfl, g0⟩ := fits_i64 f0
  obtain ⟨n1, rfl, g1⟩ := fits_i64 f1
  simp at e0 e1
  subst e0 e1
  exact ⟨⟨n0, n1⟩, rfl, g0, g1⟩
theorem cell_lt {w : World} {a : Addr} {v : Value} (h : w.cell? a = some v) : a.block < w.heap.size := by
  rcases Nat.lt_or_ge a.block w.heap.size with h1 | h1
  · exact h1
  · simp [World.cell?, Array.getElem?_eq_none h1] at h
theorem open_row (hv : Value.okWide Try.prog w r b0 33 v) (h : DataW.Trod enc Try.prog w base spare held 33 v d p) : ∃ q : Row, v = .slice q.a q.n q.c ∧ okR w q := by
  obtain ⟨a0, len0, cap0, rfl⟩ := okWide_slice Try.underlying33 hv
  obtain ⟨fuel, hf⟩ := h
  rcases open_ints Try.underlying33 Try.underlying2 (by kernel_rfl) hf with ⟨hcs, _⟩ | ⟨x, l, c, z, hcs, _, hl, hm, hz, _, hcell, hwz⟩
  · simp [Value.cells] at hcs
    obtain ⟨rfl, rfl, rfl⟩ := hcs
    exact ⟨⟨none, 0, 0, []⟩, rfl, ⟨rfl, fun h => absurd h (by decide)⟩, fun b off h => by cases h⟩
  · simp [Value.cells] at hcs
    obtain ⟨rfl, rfl, rfl⟩ := hcs
    have hz' : len0 ≤ z.length := by
      rw [hz]
      split <;> omega
    refine ⟨⟨some x, len0, cap0, z.take len0⟩, rfl, ⟨by simp only [List.length_take]; omega, fun h0 => ?_⟩, fun b off he h0 => ?_⟩
    · obtain ⟨b, off, spot⟩ := x
      have hc := hcell 0 (by simp only at h0; omega)
      have hspot : spot = none := by simpa [Addr.add] using World.cell?_spot hc
      subst hspot
      refine ⟨b, off, rfl, fun i hi => ?_⟩
      simp only at hi
      have h1 := hcell i (by omega)
      have e1 : zat (z.take len0) i = z.getD i 0 := by
        unfold zat
        simp [hi]
      simp only [e1]
      rw [← h1]
      congr 1
      unfold Addr.add
      split <;> simp_all
    · simp only at he h0
      cases he
      have hc := hcell 0 (by omega)
      have hc' : w.cell? ⟨b, off, none⟩ = some (.int .i64 (z.getD 0 0)) := by simpa [Addr.add] using hc
      exact cell_lt hc'
end
end Go.Proofs.Ytmcjabbfhhdmmaa
