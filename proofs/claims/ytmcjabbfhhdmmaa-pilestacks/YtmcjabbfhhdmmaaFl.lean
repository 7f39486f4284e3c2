/- Rows of elements laid flat: cells of a list of elements; no number of a seat in it, no conditions beyond those written in each theorem. -/
import Derived.Test.YtmcjabbfhhdmmaaOpenL
import Derived.Laws.MakeOwn
namespace Go.Proofs.Ytmcjabbfhhdmmaa
open Go.ChangeShapes Go.WideShapes Go.ChangeAt Go.RowKit
set_option maxRecDepth 100000
theorem fl_split {α : Type} {enc : α → List Value} (l : List α) {i : Nat} (hi : i < l.length) : l.flatMap enc = (l.take i).flatMap enc ++ (enc l[i] ++ (l.drop (i + 1)).flatMap enc) := by
  rw [← List.flatMap_cons, ← List.drop_eq_getElem_cons hi, ← List.flatMap_append, List.take_append_drop]
section
variable {α : Type} {enc : α → List Value} {size : Nat} (hf : ∀ q, (enc q).length = size)
include hf
theorem fl_len (l : List α) : (l.flatMap enc).length = l.length * size := by
  induction l with
  | nil => simp
  | cons a l ih => rw [List.flatMap_cons, List.length_append, hf, ih, List.length_cons, Nat.add_mul]; omega
theorem fl_at (l : List α) (z : α) {i : Nat} (hi : i < l.length) {j : Nat} (hj : j < size) : (l.flatMap enc)[i * size + j]? = (enc (l.getD i z))[j]? := by
  induction l generalizing i with
  | nil => simp at hi
  | cons a l ih =>
    rw [List.flatMap_cons]
    cases i with
    | zero => rw [List.getElem?_append_left (by rw [hf]; omega), Nat.zero_mul, Nat.zero_add]; rfl
    | succ i =>
      have e2 : (a :: l).getD (i + 1) z = l.getD i z := rfl
      rw [e2, List.getElem?_append_right (by rw [hf, Nat.add_mul]; omega), hf, show (i + 1) * size + j - size = i * size + j by rw [Nat.add_mul]; omega]
      exact ih (by simpa using hi)
theorem made_flat (hpos : 0 < size) (z : α) (n : Nat) : madeCells (enc z).toArray (n * size) = ((List.replicate n z).flatMap enc).toArray := by
  have hs : (enc z).toArray.size = size := by simp [hf]
  apply Array.ext
  · rw [size_madeCells]; simp [fl_len hf]
  · intro i h1 h2
    rw [size_madeCells] at h1
    have hq : i / size < n := Nat.div_lt_of_lt_mul (by rw [Nat.mul_comm]; exact h1)
    have hm : i % size < size := Nat.mod_lt _ hpos
    have e : i = i / size * size + i % size := by rw [Nat.mul_comm]; exact (Nat.div_add_mod i size).symm
    have h3 := fl_at hf (List.replicate n z) z (i := i / size) (by simpa using hq) hm
    rw [← e] at h3
    have e2 : (List.replicate n z).getD (i / size) z = z := by rw [List.getD_eq_getElem?_getD, List.getElem?_replicate, if_pos hq]; rfl
    rw [e2] at h3
    have h4 : (enc z)[i % size]? = some ((enc z)[i % size]'(by rw [hf]; exact hm)) := List.getElem?_eq_getElem _
    rw [h4] at h3
    have h5 : ((List.replicate n z).flatMap enc).toArray[i] = (enc z)[i % size]'(by rw [hf]; exact hm) := by
      rw [List.getElem_toArray]
      rw [List.getElem?_eq_getElem (by simpa using h2)] at h3
      exact Option.some.inj h3
    rw [h5]
    simp [madeCells, hs]
    rw [h4]; rfl
theorem sl_of_block {w : World} {G : Nat} {t : TypeId} (z : α) {l : List α} (h : w.heap[G]? = some (.cells (l.flatMap enc).toArray t)) : SL enc size z w (some ⟨G, 0, none⟩) l.length l := by
  refine ⟨rfl, fun _ => ⟨G, 0, rfl, fun i hi j hj => ?_⟩⟩
  rw [Go.Joins.cell_of_block h, List.getElem?_toArray, Nat.zero_add]
  exact fl_at hf l z hi hj
end
end Go.Proofs.Ytmcjabbfhhdmmaa
