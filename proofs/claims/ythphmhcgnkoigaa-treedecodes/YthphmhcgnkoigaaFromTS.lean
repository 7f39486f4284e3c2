/- While the reference's From of trees runs; no conditions beyond those written in each theorem. -/
import Derived.Test.YthphmhcgnkoigaaFrom
import Derived.Test.YthphmhcgnkoigaaDecode
namespace Go.Proofs.Ythphmhcgnkoigaa
open Go.ChangeShapes Go.WideShapes Go.ChangeAt Go.RowKit
set_option maxRecDepth 100000
/-- The boxed In at X, the row of what was read. -/
structure FS (w : World) (a0 : Option Addr) (n0 c0 : Nat) (l : List Int) (X : Nat) (v : Value) (k : Nat) (nl : List Nd) (t : St) (a : Option Addr) (N c : Nat) (wr : World) : Prop where
  seen : Seen w wr
  rvf : ∀ V, RV V a0 n0 c0 ⟨l, false⟩ → RV V a N c t
  blk : wr.heap[X]? = some (.cells #[.slice a N c, .bool t.bad] 67)
  row : wr.ownsRow w.heap.size 51 49 v k (flatN nl)
  high : w.heap.size ≤ X
section
variable {w wr w' : World} {a0 a a2 : Option Addr} {n0 c0 N c N2 c2 : Nat} {l : List Int} {X Y : Nat} {v v' : Value} {k : Nat} {nl nl' : List Nd} {t t2 : St}
theorem FS.next (h : FS w a0 n0 c0 l X v k nl t a N c wr) (hs : Seen wr w') : FS w a0 n0 c0 l X v k nl t a N c w' :=
  ⟨h.seen.trans hs, h.rvf, (hs.block _ (heap_lt h.blk)).trans h.blk, row_seen h.row hs, h.high⟩
theorem FS.ne (h : FS w a0 n0 c0 l X v k nl t a N c wr) : ∀ g, v.ownBlock = some g → g ≠ X := by
  intro g hg e
  subst e
  rcases h.row.2 with ⟨rfl, _⟩ | ⟨g', cap, cur, rfl, _, hh, _⟩
  · cases hg
  · simp [Value.ownBlock] at hg
    subst hg
    have := hh.symm.trans h.blk
    simp at this
theorem FS.at (h : FS w a0 n0 c0 l X v k nl t a N c wr) (h0 : RV w a0 n0 c0 ⟨l, false⟩) : RV wr a N c t := h.rvf wr (h0.seen h.seen)
theorem FS.put (h : FS w a0 n0 c0 l X v k nl t a N c wr) (hr : ∀ V, RV V a N c t → RV V a2 N2 c2 t2) : FS w a0 n0 c0 l X v k nl t2 a2 N2 c2 ((wr.setCell ⟨X, 0, none⟩ (.slice a2 N2 c2)).setCell ⟨X, 1, none⟩ (.bool t2.bad)) :=
  ⟨(h.seen.set h.high _ _).set h.high _ _, fun V hV => hr V (h.rvf V hV), set2 h.blk,
   ownsRow_keeps h.row fun g hg => by
     have := h.ne g hg
     rw [Below.heap_setCell _ ⟨X, 1, none⟩ _ _ (by show g ≠ X; exact this), Below.heap_setCell _ ⟨X, 0, none⟩ _ _ (by show g ≠ X; exact this)], h.high⟩
/-- Another block of the function's own turns. -/
theorem FS.other (h : FS w a0 n0 c0 l X v k nl t a N c wr) (ht : Turns Y wr w') (hY : w.heap.size ≤ Y) (hX : X ≠ Y) (hv : ∀ g, v.ownBlock = some g → g ≠ Y) : FS w a0 n0 c0 l X v k nl t a N c w' :=
  ⟨h.seen.turns ht hY, h.rvf, (ht.block _ (heap_lt h.blk) hX).trans h.blk, ownsRow_keeps h.row fun g hg => ht.block g (h.row.lt g hg).2 (hv g hg), h.high⟩
theorem FS.fresh (h : FS w a0 n0 c0 l X v k nl t a N c wr) {o : Obj} (ht : Turns wr.heap.size (wr.alloc o) w') : FS w a0 n0 c0 l X v k nl t a N c w' := h.next ((Seen.refl wr).fresh ht)
/-- The row has grown. -/
theorem FS.grow (h : FS w a0 n0 c0 l X v k nl t a N c wr) {tmp : Obj} (hown : w'.ownsRow w.heap.size 51 49 v' (k + 1) (flatN nl')) (hg : (wr.alloc tmp).grownBy w' v.ownBlock) : FS w a0 n0 c0 l X v' (k + 1) nl' t a N c w' := by
  have hX := heap_lt h.blk
  refine ⟨Below.grown (h.seen.alloc _) hg (h.seen.alloc _).size (fun j hj => (h.row.lt j hj).1), h.rvf, ?_, hown, h.high⟩
  rw [hg.block X (by simp; omega) (fun e => h.ne X e.symm rfl), Below.heap_alloc wr tmp X hX]
  exact h.blk
end
/-- The reference's answer: nothing was missing, nothing is left, and there is a node. -/
def fromOk (l : List Int) : Bool := decOk l && decide (0 < decC l)
theorem from_no {l : List Int} (h : (decA l).1.bad = true) : fromOk l = false := by
  unfold fromOk decOk; rw [h]; rfl
theorem getOk_bad : getOk ⟨[], true⟩ = false := by
  cases h : getOk ⟨[], true⟩ with
  | false => rfl
  | true => have := (get_eats (s := ⟨[], true⟩) Bytes8.nil h).1; cases this
theorem getE_bad : (getE ⟨[], true⟩).bad = true := by rw [getE, if_neg (by rw [getOk_bad]; simp)]
end Go.Proofs.Ythphmhcgnkoigaa
