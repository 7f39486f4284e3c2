/- An argument that is a slice, opened: it reads as a list of elements, each of so many cells. No number of a seat in it; no conditions beyond those written in each theorem. -/
import Derived.Test.YtlnnaegmcopiiaaGen
import Derived.Deep.Slices
namespace Go.Proofs.Ytlnnaegmcopiiaa
open Go.ChangeShapes Go.WideShapes Go.ChangeAt Go.RowKit Go.Joins Go.Deep
set_option maxRecDepth 100000
/-- A slice of n elements, each of so many cells, reads as this list; z: an element for places beyond it. -/
def SL {α : Type} (flat : α → List Value) (size : Nat) (z : α) (w : World) (ad : Option Addr) (n : Nat) (l : List α) : Prop :=
  l.length = n ∧ (0 < n → ∃ b off, ad = some ⟨b, off, none⟩ ∧ ∀ i, i < n → ∀ j, j < size → w.cell? ⟨b, off + i * size + j, none⟩ = (flat (l.getD i z))[j]?)
theorem SL.seen {α : Type} {flat : α → List Value} {size : Nat} {z : α} {w w' : World} {ad : Option Addr} {n : Nat} {l : List α} (hf : ∀ q, (flat q).length = size) (h : SL flat size z w ad n l) (hs : Seen w w') : SL flat size z w' ad n l := by
  refine ⟨h.1, fun h0 => ?_⟩
  obtain ⟨b, off, e, hc⟩ := h.2 h0
  refine ⟨b, off, e, fun i hi j hj => ?_⟩
  have h1 := hc i hi j hj
  rw [List.getElem?_eq_getElem (by rw [hf]; exact hj)] at h1 ⊢
  exact hs.cell h1
theorem open_list {α : Type} {P : Program} {H : Type} {enc : TypeId × Value → H} {w : World} {base : Nat} {spare : Nat → Bool} {held : Bool} {r : Reach} {b0 : Nat} {v : Value} {d : DataW H} {p : List MemPlace}
    (flat : α → List Value) (ok : α → Prop) (z : α) {t e : TypeId} {size : Nat} (ht : P.underlying t = some (.slice e)) (hs : P.cellsOf e = size) (hpos : 0 < size) (hflat : ∀ q, (flat q).length = size)
    (helem : ∀ fuel cs x, DataW.trod enc P w base spare held fuel e cs = some x → ∃ q, cs = flat q ∧ ok q)
    (hv : Value.okWide P w r b0 t v) (h : DataW.Trod enc P w base spare held t v d p) :
    ∃ (a : Option Addr) (len cap : Nat) (l : List α), v = .slice a len cap ∧ SL flat size z w a len l ∧ (∀ q ∈ l, ok q) ∧ len ≤ cap ∧ (a = none → cap = 0) := by
  obtain ⟨a, len, cap, rfl⟩ := okWide_slice ht hv
  refine ⟨a, len, cap, ?_⟩
  obtain ⟨fuel, hf⟩ := h
  rcases open_slice ht hf with ⟨hcs, _⟩ | ⟨x, l, c, m, n, D, Pl, hcs, _, hl, _, hm, _, hi⟩
  · simp [Value.cells] at hcs
    obtain ⟨rfl, rfl, rfl⟩ := hcs
    exact ⟨[], rfl, ⟨rfl, fun h => absurd h (by omega)⟩, (fun q hq => by cases hq), by omega, fun _ => rfl⟩
  · simp [Value.cells] at hcs
    obtain ⟨rfl, rfl, rfl⟩ := hcs
    have hlm : len ≤ m := by rw [hm]; split <;> omega
    rw [hs] at hi
    have key : ∀ i, i < len → ∃ q : α, ok q ∧ ∀ j, j < size → w.cell? ((x.add (i * size)).add j) = (flat q)[j]? := by
      intro i hil
      obtain ⟨cs', hc, ht'⟩ := hi i (by omega)
      obtain ⟨q, rfl, hok⟩ := helem _ _ _ ht'
      exact ⟨q, hok, (World.cells?_some hc).2.2⟩
    obtain ⟨f, hfd⟩ : ∃ f : Nat → α, ∀ i, i < len → ok (f i) ∧ ∀ j, j < size → w.cell? ((x.add (i * size)).add j) = (flat (f i))[j]? := by
      refine ⟨fun i => if h : i < len then Classical.choose (key i h) else z, fun i hil => ?_⟩
      simp only [hil, dite_true]
      exact Classical.choose_spec (key i hil)
    refine ⟨(List.range len).map f, rfl, ⟨by simp, fun h0 => ?_⟩, fun q hq => ?_, hl, fun e => by cases e⟩
    · obtain ⟨b, off, spot⟩ := x
      have hsp : spot = none := by
        have h1 := (hfd 0 h0).2 0 hpos
        have hp0 : 0 < (flat (f 0)).length := by rw [hflat]; exact hpos
        rw [List.getElem?_eq_getElem hp0] at h1
        have h2 : w.cell? ⟨b, off, spot⟩ = some ((flat (f 0))[0]'hp0) := by simpa [Addr.add] using h1
        exact World.cell?_spot h2
      subst hsp
      refine ⟨b, off, rfl, fun i hil j hj => ?_⟩
      have e : ((List.range len).map f).getD i z = f i := by
        rw [List.getD_eq_getElem?_getD, List.getElem?_map, List.getElem?_range hil]; rfl
      rw [e]
      have h1 := (hfd i hil).2 j hj
      simp only [add_plain] at h1
      exact h1
    · rw [List.mem_map] at hq
      obtain ⟨i, hi', rfl⟩ := hq
      exact (hfd i (List.mem_range.1 hi')).1
end Go.Proofs.Ytlnnaegmcopiiaa
