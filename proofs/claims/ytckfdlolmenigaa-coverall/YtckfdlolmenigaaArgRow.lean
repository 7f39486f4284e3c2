/- A slice of rectangles that came in, opened: its elements as a list. -/
import Derived.Test.YtckfdlolmenigaaArgs
import Derived.Test.YtckfdlolmenigaaLists
import Derived.Deep.Slices
namespace Go.Proofs.Ytckfdlolmenigaa
open Go.ChangeShapes Go.WideShapes Go.ChangeAt Go.RowKit Go.Joins Go.Deep
theorem rect_of_cells {H : Type} {enc : TypeId × Value → H} {w : World} {base : Nat} {spare : Nat → Bool} {held : Bool} {fuel : Nat} {cs : List Value} {x : DataW H × List MemPlace}
    (h : DataW.trod enc Try.prog w base spare held fuel 23 cs = some x) : ∃ q : R4, cs = flat [q] := by
  obtain ⟨xs, n, _, _, hl, hx, hf⟩ := DataW.trod_struct Try.underlying23 h
  rw [cells23] at hl
  have hc2 : Try.prog.cellsOf 2 = 1 := by kernel_rfl
  match cs, hl, xs, hx with
  | [c0, c1, c2, c3], _, [y0, y1, y2, y3], _ =>
    have e0 : DataW.trod enc Try.prog w base spare held n 2 [c0] = some y0 := by
      have h := hf 0 _ rfl
      simpa [hc2] using h
    have e1 : DataW.trod enc Try.prog w base spare held n 2 [c1] = some y1 := by
      have h := hf 1 _ rfl
      simpa [hc2] using h
    have e2 : DataW.trod enc Try.prog w base spare held n 2 [c2] = some y2 := by
      have h := hf 2 _ rfl
      simpa [hc2] using h
    have e3 : DataW.trod enc Try.prog w base spare held n 2 [c3] = some y3 := by
      have h := hf 3 _ rfl
      simpa [hc2] using h
    obtain ⟨n0, q0, _⟩ := DataW.trod_int Try.underlying2 e0
    obtain ⟨n1, q1, _⟩ := DataW.trod_int Try.underlying2 e1
    obtain ⟨n2, q2, _⟩ := DataW.trod_int Try.underlying2 e2
    obtain ⟨n3, q3, _⟩ := DataW.trod_int Try.underlying2 e3
    simp only [List.cons.injEq, and_true] at q0 q1 q2 q3
    subst q0 q1 q2 q3
    exact ⟨⟨n0, n1, n2, n3⟩, rfl⟩
theorem add_plain (b o n : Nat) : (⟨b, o, none⟩ : Addr).add n = ⟨b, o + n, none⟩ := by
  unfold Addr.add
  split <;> simp_all
theorem open_rects {H : Type} {enc : TypeId × Value → H} {w : World} {base : Nat} {spare : Nat → Bool} {held : Bool} {r : Reach} {b0 : Nat} {v : Value} {d : DataW H} {p : List MemPlace}
    (hv : Value.okWide Try.prog w r b0 24 v) (h : DataW.Trod enc Try.prog w base spare held 24 v d p) :
    ∃ (a : Option Addr) (len cap : Nat) (rs : List R4), v = .slice a len cap ∧ RS w a len rs := by
  obtain ⟨a, len, cap, rfl⟩ := okWide_slice Try.underlying24 hv
  refine ⟨a, len, cap, ?_⟩
  obtain ⟨fuel, hf⟩ := h
  rcases open_slice Try.underlying24 hf with ⟨hcs, _⟩ | ⟨x, l, c, m, n, D, Pl, hcs, _, hl, _, hm, _, hi⟩
  · simp [Value.cells] at hcs
    obtain ⟨rfl, rfl, rfl⟩ := hcs
    exact ⟨[], rfl, rfl, fun h => absurd h (by omega)⟩
  · simp [Value.cells] at hcs
    obtain ⟨rfl, rfl, rfl⟩ := hcs
    have hlm : len ≤ m := by rw [hm]; split <;> omega
    rw [cells23] at hi
    have key : ∀ i, i < len → ∃ q : R4, ∀ j, j < 4 → w.cell? ((x.add (i * 4)).add j) = (flat [q])[j]? := by
      intro i hil
      obtain ⟨cs', hc, ht⟩ := hi i (by omega)
      obtain ⟨q, rfl⟩ := rect_of_cells ht
      exact ⟨q, (World.cells?_some hc).2.2⟩
    obtain ⟨f, hfd⟩ : ∃ f : Nat → R4, ∀ i, i < len → ∀ j, j < 4 → w.cell? ((x.add (i * 4)).add j) = (flat [f i])[j]? := by
      refine ⟨fun i => if h : i < len then Classical.choose (key i h) else ⟨0, 0, 0, 0⟩, fun i hil => ?_⟩
      simp only [hil, dite_true]
      exact Classical.choose_spec (key i hil)
    refine ⟨(List.range len).map f, rfl, by simp, fun h0 => ?_⟩
    obtain ⟨b, off, spot⟩ := x
    have hsp : spot = none := by
      have h1 := hfd 0 h0 0 (by omega)
      have h2 : w.cell? ⟨b, off, spot⟩ = some (.int .i64 (f 0).x0) := by simpa [Addr.add, flat] using h1
      exact World.cell?_spot h2
    subst hsp
    refine ⟨b, off, rfl, fun i hil => ?_⟩
    have e : rat ((List.range len).map f) i = f i := by
      rw [rat_eq (by simpa using hil)]; simp
    rw [e]
    have h1 := hfd i hil 0 (by omega)
    have h2 := hfd i hil 1 (by omega)
    have h3 := hfd i hil 2 (by omega)
    have h4 := hfd i hil 3 (by omega)
    simp only [add_plain, Nat.add_zero] at h1 h2 h3 h4
    exact ⟨h1, h2, h3, h4⟩
end Go.Proofs.Ytckfdlolmenigaa
