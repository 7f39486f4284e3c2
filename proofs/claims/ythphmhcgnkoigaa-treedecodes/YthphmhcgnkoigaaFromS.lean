/- While the reference's From runs; no conditions beyond those written in each theorem. -/
import Derived.Test.YthphmhcgnkoigaaRefFour
import Derived.Test.YthphmhcgnkoigaaGetS
import Derived.Test.YthphmhcgnkoigaaRefFormed
import Derived.Test.YthphmhcgnkoigaaHandS
import Derived.Deep.DeepCutAuto
namespace Go.Proofs.Ythphmhcgnkoigaa
open Go.ChangeShapes Go.WideShapes Go.ChangeAt Go.RowKit
set_option maxRecDepth 100000
/-- While From runs: the boxed In, the two results' cells, the style Y. -/
structure FR (w : World) (a : Option Addr) (N c : Nat) (t : St) (Y : Nat) (u : St) (a' : Option Addr) (N' c' : Nat) (s : Sty) (wr : World) : Prop where
  seen : Seen w wr
  rv : ∀ V, RV V a N c t → RV V a' N' c' u
  blkA : wr.heap[w.heap.size]? = some (.cells #[.slice a' N' c', .bool u.bad] 67)
  res : Hs wr (w.heap.size + 1) zeroS
  blkC : wr.heap[w.heap.size + 1 + 1]? = some (.cells #[.slice none 0 0, .bool false] 67)
  sty : Hs wr Y s
  high : w.heap.size + 1 + 1 < Y
section
variable {w wr w' : World} {a a' a2 : Option Addr} {N c N' c' N2 c2 : Nat} {t u u2 : St} {Y : Nat} {s s' : Sty}
theorem FR.next (h : FR w a N c t Y u a' N' c' s wr) (hs : Seen wr w') : FR w a N c t Y u a' N' c' s w' :=
  ⟨h.seen.trans hs, h.rv, (hs.block _ (heap_lt h.blkA)).trans h.blkA, h.res.seen hs, (hs.block _ (heap_lt h.blkC)).trans h.blkC, h.sty.seen hs, h.high⟩
theorem FR.store (h : FR w a N c t Y u a' N' c' s wr) (hs : Hs w' Y s') (ht : Turns Y wr w') : FR w a N c t Y u a' N' c' s' w' := by
  have := h.high
  exact ⟨h.seen.turns ht (by omega), h.rv, (ht.block _ (heap_lt h.blkA) (by omega)).trans h.blkA, h.res.keeps (ht.block _ h.res.lt (by omega)), (ht.block _ (heap_lt h.blkC) (by omega)).trans h.blkC, hs, h.high⟩
theorem FR.set (h : FR w a N c t Y u a' N' c' s wr) (j : Nat) (v : Value) (e : (stl s).set j v = stl s') : FR w a N c t Y u a' N' c' s' (wr.setCell ⟨Y, j, none⟩ v) :=
  h.store (Hs.set h.sty j v e) (Turns.set wr Y j v)
theorem FR.put (h : FR w a N c t Y u a' N' c' s wr) (hr : ∀ V, RV V a' N' c' u → RV V a2 N2 c2 u2) : FR w a N c t Y u2 a2 N2 c2 s ((wr.setCell ⟨w.heap.size, 0, none⟩ (.slice a2 N2 c2)).setCell ⟨w.heap.size, 1, none⟩ (.bool u2.bad)) := by
  have := h.high
  have r1 : (wr.setCell ⟨w.heap.size, 0, none⟩ (.slice a2 N2 c2)).heap[w.heap.size + 1]? = some (.cells (stl zeroS).toArray 47) := hso h.res (by omega)
  have r2 : (wr.setCell ⟨w.heap.size, 0, none⟩ (.slice a2 N2 c2)).heap[w.heap.size + 1 + 1]? = some (.cells #[.slice none 0 0, .bool false] 67) := hso h.blkC (by omega)
  have r3 : (wr.setCell ⟨w.heap.size, 0, none⟩ (.slice a2 N2 c2)).heap[Y]? = some (.cells (stl s).toArray 47) := hso h.sty (by omega)
  exact ⟨(h.seen.set (by omega) _ _).set (by omega) _ _, fun V hV => hr V (h.rv V hV), set2 h.blkA, hso r1 (by omega), hso r2 (by omega), hso r3 (by omega), h.high⟩
theorem FR.at (h : FR w a N c t Y u a' N' c' s wr) (h0 : RV w a N c t) : RV wr a' N' c' u := h.rv wr (h0.seen h.seen)
end
/-- The beginning: three blocks. -/
theorem from_start (w : World) (a : Option Addr) (N c : Nat) (b : Bool) {W : World} (hW : W = ((w.alloc (.cells #[.slice a N c, .bool b] 67)).alloc (.cells (stl zeroS).toArray 47)).alloc (.cells #[.slice none 0 0, .bool false] 67)) :
    Seen w W ∧ W.heap[w.heap.size]? = some (.cells #[.slice a N c, .bool b] 67) ∧ Hs W (w.heap.size + 1) zeroS ∧ W.heap[w.heap.size + 1 + 1]? = some (.cells #[.slice none 0 0, .bool false] 67) := by
  subst hW
  exact ⟨(((Seen.refl w).alloc _).alloc _).alloc _, alloc3 w _ _ _⟩
/-- The style's block is laid behind the first byte. -/
theorem FR.start {w W w1 : World} {a a1 : Option Addr} {N c N1 c1 : Nat} {t u : St} (h : Seen w W ∧ W.heap[w.heap.size]? = some (.cells #[.slice a N c, .bool t.bad] 67) ∧ Hs W (w.heap.size + 1) zeroS ∧ W.heap[w.heap.size + 1 + 1]? = some (.cells #[.slice none 0 0, .bool false] 67))
    (hs : Seen W w1) (hr : ∀ V, RV V a N c t → RV V a1 N1 c1 u) :
    FR w a N c t w1.heap.size u a1 N1 c1 zeroS (((w1.setCell ⟨w.heap.size, 0, none⟩ (.slice a1 N1 c1)).setCell ⟨w.heap.size, 1, none⟩ (.bool u.bad)).alloc (.cells (stl zeroS).toArray 47)) := by
  obtain ⟨h1, h2, h3, h4⟩ := h
  have k2 := (hs.block _ (heap_lt h2)).trans h2
  have k3 : w1.heap[w.heap.size + 1]? = some (.cells (stl zeroS).toArray 47) := h3.seen hs
  have k4 := (hs.block _ (heap_lt h4)).trans h4
  have l4 := heap_lt k4
  have r3 : (w1.setCell ⟨w.heap.size, 0, none⟩ (.slice a1 N1 c1)).heap[w.heap.size + 1]? = some (.cells (stl zeroS).toArray 47) := hso k3 (by omega)
  have r4 : (w1.setCell ⟨w.heap.size, 0, none⟩ (.slice a1 N1 c1)).heap[w.heap.size + 1 + 1]? = some (.cells #[.slice none 0 0, .bool false] 67) := hso k4 (by omega)
  have hn := hs_new ((w1.setCell ⟨w.heap.size, 0, none⟩ (.slice a1 N1 c1)).setCell ⟨w.heap.size, 1, none⟩ (.bool u.bad)) zeroS
  rw [show ((w1.setCell ⟨w.heap.size, 0, none⟩ (.slice a1 N1 c1)).setCell ⟨w.heap.size, 1, none⟩ (.bool u.bad)).heap.size = w1.heap.size by simp [World.setCell]] at hn
  exact ⟨(((h1.trans hs).set (Nat.le_refl _) _ _).set (Nat.le_refl _) _ _).alloc _, hr, alloc_at (set2 k2) _, alloc_at (hso r3 (by omega)) _, alloc_at (hso r4 (by omega)) _, hn, l4⟩
end Go.Proofs.Ythphmhcgnkoigaa
