/- A slice of rectangles that came in, opened: its elements as a list; it is no longer than its capacity. -/
import Derived.Test.YtckfdlolmenigaaArgRow
namespace Go.Proofs.Ytckfdlolmenigaa
open Go.ChangeShapes Go.WideShapes Go.ChangeAt Go.RowKit Go.Joins Go.Deep
theorem open_rowc {H : Type} {enc : TypeId × Value → H} {w : World} {base : Nat} {spare : Nat → Bool} {held : Bool} {r : Reach} {b0 : Nat} {v : Value} {d : DataW H} {p : List MemPlace}
    (hv : Value.okWide Try.prog w r b0 24 v) (h : DataW.Trod enc Try.prog w base spare held 24 v d p) :
    ∃ (a : Option Addr) (len cap : Nat) (rs : List R4), v = .slice a len cap ∧ RS w a len rs ∧ len ≤ cap := by
  obtain ⟨a, len, cap, rs, rfl, hr⟩ := open_rects hv h
  refine ⟨a, len, cap, rs, rfl, hr, ?_⟩
  obtain ⟨fuel, hf⟩ := h
  rcases open_slice Try.underlying24 hf with ⟨hcs, _⟩ | ⟨x, l, c, m, n, D, Pl, hcs, _, hl, _⟩
  · simp [Value.cells] at hcs; omega
  · simp [Value.cells] at hcs
    obtain ⟨rfl, rfl, rfl⟩ := hcs
    exact hl
end Go.Proofs.Ytckfdlolmenigaa
