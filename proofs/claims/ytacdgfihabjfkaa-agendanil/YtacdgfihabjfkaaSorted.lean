/- Contract of agenda.Sorted: a new row with the entries in ascending order. -/
import Derived.Test.YtacdgfihabjfkaaLay
import Derived.Test.YtacdgfihabjfkaaWithout
import Derived.Test.YtacdgfihabjfkaaPP
namespace Go.Proofs.Ytacdgfihabjfkaa
open Go.ChangeShapes Go.WideShapes Go.ChangeAt Go.RowKit Go.Sort Go.Shelf Go.Lib
/-- The list in ascending order. -/
def srt (l : List E3) : List E3 := l.mergeSort fun x y => !ltE y x
theorem srt_perm (l : List E3) : (srt l).Perm l := List.mergeSort_perm l _
theorem leB_iff (x y : E3) : (!ltE y x) = true ↔ leE x y := by unfold leE; simp
theorem leE_total (x y : E3) : leE x y ∨ leE y x := by rw [leE_iff, leE_iff]; omega
theorem srt_pairwise (l : List E3) : (srt l).Pairwise leE := by
  have h := List.pairwise_mergeSort (le := fun x y : E3 => !ltE y x) (fun a b c h1 h2 => by
    rw [leB_iff] at *; exact leE_trans h1 h2) (fun a b => by
    have := leE_total a b
    rw [← leB_iff, ← leB_iff] at this
    simpa using this) l
  exact h.imp fun h => (leB_iff _ _).1 h
theorem sorted_unique : ∀ {l m : List E3}, l.Perm m → l.Pairwise leE → m.Pairwise leE → l = m
  | [], m, h, _, _ => (List.Perm.nil_eq h)
  | a :: l, [], h, _, _ => absurd h.length_eq (by simp)
  | a :: l, b :: m, h, h1, h2 => by
    have hab : a = b := by
      rcases List.mem_cons.1 (h.mem_iff.1 (List.mem_cons_self ..)) with e | e
      · exact e
      · rcases List.mem_cons.1 (h.mem_iff.2 (List.mem_cons_self ..)) with e2 | e2
        · exact e2.symm
        · exact leE_antisymm ((List.pairwise_cons.1 h1).1 b e2) ((List.pairwise_cons.1 h2).1 a e)
    subst hab
    rw [sorted_unique (List.Perm.cons_inv h) (List.pairwise_cons.1 h1).2 (List.pairwise_cons.1 h2).2]
theorem srt_unique {l m : List E3} (h : m.Perm l) (hp : m.Pairwise leE) : m = srt l := sorted_unique (h.trans (srt_perm l).symm) hp (srt_pairwise l)
theorem srt_length (l : List E3) : (srt l).length = l.length := (srt_perm l).length_eq
theorem inOrder_pairwise {l : List E3} (h : InOrder l) : l.Pairwise leE := by
  have key : ∀ d i, i + d < l.length → leE (eat l i) (eat l (i + d)) := by
    intro d
    induction d with
    | zero => intro i _; exact leE_refl _
    | succ d ih => intro i hi; exact leE_trans (ih i (by omega)) (h (i + d) (by omega))
  rw [List.pairwise_iff_getElem]
  intro i j hi hj hij
  have := key (j - i) i (by omega)
  rw [show i + (j - i) = j by omega, eat_eq hi, eat_eq hj] at this
  exact this
theorem eat_arr (d : Array E3) (i : Nat) (h : i < d.size) : d[i]! = eat d.toList i := by
  rw [eat_eq (by simpa using h)]
  simp [h]
theorem flatK_eq (d : Array E3) : (flatK encE 3 d).toList = flatE d.toList := by
  apply List.ext_getElem?
  intro t
  by_cases ht : t < d.size * 3
  · have h1 : t < (flatK encE 3 d).size := by rw [size_flatK]; exact ht
    obtain ⟨i, r, hir, hr⟩ : ∃ i r, t = i * 3 + r ∧ r < 3 := ⟨t / 3, t % 3, by omega, by omega⟩
    have hi : i < d.size := by omega
    obtain ⟨f0, f1, f2⟩ := flatE_at (l := d.toList) (i := i) (by simpa using hi)
    have e1 : (flatK encE 3 d).toList[t]? = some (flatK encE 3 d)[t]! := by
      rw [Array.getElem?_toList, Array.getElem?_eq_getElem h1, getElem!_pos (flatK encE 3 d) t h1]
    rw [e1, get_flatK encE 3 d t ht, show t / 3 = i by omega, show t % 3 = r by omega, eat_arr d i hi, hir]
    match r, hr with
    | 0, _ => rw [Nat.add_zero, f0]; rfl
    | 1, _ => rw [f1]; rfl
    | 2, _ => rw [f2]; rfl
  · rw [List.getElem?_eq_none (by simpa using Nat.le_of_not_lt ht), List.getElem?_eq_none (by rw [flatE_length]; simpa using Nat.le_of_not_lt ht)]
theorem holds_of_row {w : World} {base : Nat} {e : TypeId} {g n cap : Nat} {l : List E3} (h : w.ownsRow base e 3 (.slice (some ⟨g, 0, none⟩) n cap) n (flatE l)) (hl : l.length = n) : HoldsK encE 3 w g 0 l.toArray := by
  intro j hj
  rw [size_flatK] at hj
  have hj' : j < n * 3 := by rw [← hl]; simpa using hj
  refine ⟨?_, by rw [Nat.zero_add]; exact row_frozen h j⟩
  rw [Nat.zero_add, h.cellAt j (by omega)]
  have e1 : (flatK encE 3 l.toArray).toList[j]? = some (flatK encE 3 l.toArray)[j]! := by
    have h1 : j < (flatK encE 3 l.toArray).size := by rw [size_flatK]; exact hj
    rw [Array.getElem?_toList, Array.getElem?_eq_getElem h1, getElem!_pos (flatK encE 3 l.toArray) j h1]
  rw [flatK_eq] at e1
  exact e1
theorem row_of_sort {w : World} {base : Nat} {e : TypeId} {g n cap : Nat} {l m : List E3} (h : w.ownsRow base e 3 (.slice (some ⟨g, 0, none⟩) n cap) n (flatE l)) (hm : m.length = n) (q : Nat) (os : Array Obj) :
    (sortWorldK encE 3 w g 0 q m.toArray os).ownsRow base e 3 (.slice (some ⟨g, 0, none⟩) n cap) n (flatE m) := by
  refine ⟨by rw [flatE_length, hm], ?_⟩
  rcases h.2 with ⟨h1, _⟩ | ⟨g', cap', cur, h1, hb, hh, h2, h3, h4, h5⟩
  · cases h1
  · cases h1
    have hg : g < w.heap.size := (Array.getElem?_eq_some_iff.1 hh).1
    refine .inr ⟨g, cap, putCells id 0 (flatK encE 3 m.toArray) cur, rfl, hb, ?_, h2, h3, by simpa [putCells] using h4, ?_⟩
    · unfold sortWorldK putRowK putRow
      rw [heap_grow_old _ _ (by simpa [mapBlock] using hg)]
      show (w.heap.modify g (onCells (putCells id 0 (flatK encE 3 m.toArray))))[g]? = _
      rw [Array.getElem?_modify, if_pos rfl, hh]
      rfl
    · rw [← flatK_eq m.toArray]
      apply List.ext_getElem?
      intro t
      rw [List.getElem?_take]
      by_cases ht : t < n * 3
      · have hs : t < cur.size := by have := Nat.mul_le_mul_right 3 h2; omega
        have hF : t < (flatK encE 3 m.toArray).size := by rw [size_flatK]; simpa [hm] using ht
        rw [if_pos ht, Array.getElem?_toList, Array.getElem?_toList, Array.getElem?_eq_getElem hF]
        simp only [putCells, Array.getElem?_mapIdx, Array.getElem?_eq_getElem hs, Option.map_some, Nat.zero_le, true_and, Nat.zero_add, Nat.sub_zero, id]
        rw [if_pos hF, getElem!_pos (flatK encE 3 m.toArray) t hF]
      · rw [if_neg ht, List.getElem?_eq_none (by simpa [hm] using Nat.le_of_not_lt ht)]
theorem sort_below {w : World} {g q : Nat} {m : List E3} {os : Array Obj} {B : Nat} (hB : B ≤ g) (hBw : B ≤ w.heap.size) : Below B w (sortWorldK encE 3 w g 0 q m.toArray os) := by
  refine ⟨rfl, rfl, rfl, ?_, fun k hk => ?_⟩
  · unfold sortWorldK putRowK
    rw [size_grow, size_putRow]
    exact Nat.le_add_right _ _
  · unfold sortWorldK putRowK putRow
    have hz : k < (mapBlock (Sort.ahead w q) g (putCells id 0 (flatK encE 3 m.toArray))).heap.size := by
      have e : (mapBlock (Sort.ahead w q) g (putCells id 0 (flatK encE 3 m.toArray))).heap.size = w.heap.size := by
        unfold mapBlock; rw [Array.size_modify]; rfl
      omega
    rw [heap_grow_old _ _ hz]
    unfold mapBlock
    show (w.heap.modify g _)[k]? = _
    rw [Array.getElem?_modify, if_neg (by omega)]
end Go.Proofs.Ytacdgfihabjfkaa
