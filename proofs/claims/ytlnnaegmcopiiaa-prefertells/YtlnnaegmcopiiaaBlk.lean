/- A block whose cells are all known, while it is stored into and others are laid. No number of a seat in it; no conditions beyond those written in each theorem. -/
import Derived.Test.YtlnnaegmcopiiaaGen
namespace Go.Proofs.Ytlnnaegmcopiiaa
open Go.ChangeShapes Go.WideShapes Go.ChangeAt Go.RowKit
set_option maxRecDepth 100000
/-- The block B holds just these cells. -/
def Blk (w : World) (B : Nat) (l : List Value) (t : TypeId) : Prop := w.heap[B]? = some (.cells l.toArray t)
section
variable {w w' : World} {B : Nat} {l : List Value} {t : TypeId}
theorem Blk.lt (h : Blk w B l t) : B < w.heap.size := by
  rcases Nat.lt_or_ge B w.heap.size with h1 | h1
  · exact h1
  · have h2 : w.heap[B]? = none := Array.getElem?_eq_none h1
    rw [show w.heap[B]? = _ from h] at h2; cases h2
theorem Blk.new (w : World) (l : List Value) (t : TypeId) : Blk (w.alloc (.cells l.toArray t)) w.heap.size l t := World.alloc_heap_new w _
theorem Blk.seen (h : Blk w B l t) (hs : Seen w w') : Blk w' B l t := (hs.block B h.lt).trans h
theorem Blk.alloc (h : Blk w B l t) (o : Obj) : Blk (w.alloc o) B l t := h.seen ((Seen.refl w).alloc o)
theorem Blk.drew (h : Blk w B l t) : Blk w.drew B l t := h
theorem Blk.cell (h : Blk w B l t) (o : Nat) : w.cell? ⟨B, o, none⟩ = l[o]? := by
  rw [Go.Joins.cell_of_block h]; simp
theorem Blk.free (h : Blk w B l t) (o : Nat) : w.frozen? ⟨B, o, none⟩ = false := by
  simp [World.frozen?, show w.heap[B]? = _ from h]
theorem Blk.other (h : Blk w B l t) {p : Addr} (hp : p.block ≠ B) (v : Value) : Blk (w.setCell p v) B l t := (Below.heap_setCell w p v B (Ne.symm hp)).trans h
theorem Blk.set (h : Blk w B l t) (o : Nat) (v : Value) : Blk (w.setCell ⟨B, o, none⟩ v) B (l.set o v) t := by
  have hb : w.heap[B]? = some (.cells l.toArray t) := h
  unfold Blk World.setCell
  simp [Array.getElem?_modify, hb]
theorem Blk.rules2 {x y : Value} (h : Blk w B [x, y] t) : ∀ w', Seen w w' → w'.cell? ⟨B, 0, none⟩ = some x ∧ w'.cell? ⟨B, 1, none⟩ = some y ∧ (∀ o, w'.frozen? ⟨B, o, none⟩ = false) :=
  fun _ hs => ⟨(h.seen hs).cell 0, (h.seen hs).cell 1, (h.seen hs).free⟩
end
end Go.Proofs.Ytlnnaegmcopiiaa
