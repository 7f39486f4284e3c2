/- Contracts of the methods of In, on a nil In and on one at a block; no conditions beyond those written in each theorem. -/
import Derived.Test.YthphmhcgnkoigaaOut
namespace Go.Proofs.Ythphmhcgnkoigaa
open Go.ChangeShapes Go.WideShapes Go.ChangeAt Go.RowKit
set_option maxRecDepth 100000
/-- The In at block B has the bytes l left, and is bad or not; K: the blocks that it reads. -/
def IS (K : Nat → Prop) (B : Nat) (l : List Int) (bad : Bool) (w : World) : Prop :=
  K B ∧ (∀ k, K k → k < w.heap.size) ∧ Bytes8 l ∧ (bad = true → l = []) ∧ ∃ ad c, w.heap[B]? = some (.cells #[.slice ad l.length c, .bool bad] 85) ∧ l.length ≤ c ∧
    (0 < l.length → ∃ g off, g ≠ B ∧ K g ∧ ad = some ⟨g, off, none⟩ ∧ ∀ i, i < l.length → w.cell? ⟨g, off + i, none⟩ = some (.int .u8 (bat l i)))
section
variable {K : Nat → Prop} {B : Nat} {l : List Int} {bad : Bool} {w : World}
theorem IS.keeps (h : IS K B l bad w) {w' : World} (hk : ∀ k, K k → w'.heap[k]? = w.heap[k]?) : IS K B l bad w' := by
  obtain ⟨h1, h2, h3, h4, ad, c, h5, h6, h7⟩ := h
  refine ⟨h1, fun k hK => ?_, h3, h4, ad, c, (hk B h1).trans h5, h6, fun h0 => ?_⟩
  · have e := hk k hK
    have hlt := h2 k hK
    rcases Nat.lt_or_ge k w'.heap.size with h | h
    · exact h
    · rw [Array.getElem?_eq_none h, Array.getElem?_eq_getElem hlt] at e; cases e
  · obtain ⟨g, off, hg, hKg, e, hc⟩ := h7 h0
    exact ⟨g, off, hg, hKg, e, fun i hi => by rw [World.cell?_of_block (hk g hKg)]; exact hc i hi⟩
theorem IS.seen (h : IS K B l bad w) {w' : World} (hs : Seen w w') : IS K B l bad w' := h.keeps fun k hk => hs.block k (h.2.1 k hk)
theorem IS.bytes (h : IS K B l bad w) : Bytes8 l := h.2.2.1
theorem IS.gone (h : IS K B l bad w) : bad = true → l = [] := h.2.2.2.1
/-- The two cells of an In. -/
theorem IS.cells (h : IS K B l bad w) : ∃ ad c, w.cell? ⟨B, 0, none⟩ = some (.slice ad l.length c) ∧ w.cell? ⟨B, 1, none⟩ = some (.bool bad) ∧ l.length ≤ c ∧ (∀ o, w.frozen? ⟨B, o, none⟩ = false) ∧ BS w ad l.length l := by
  obtain ⟨h1, h2, h3, h4, ad, c, h5, h6, h7⟩ := h
  refine ⟨ad, c, by rw [Go.Joins.cell_of_block h5]; rfl, by rw [Go.Joins.cell_of_block h5]; rfl, h6, fun o => by simp [World.frozen?, h5], rfl, fun h0 => ?_⟩
  obtain ⟨g, off, hg, hKg, e, hc⟩ := h7 h0
  exact ⟨g, off, e, hc⟩
end
theorem left_nil (w : World) : Calls Try.prog 69 #[.pointer none] w fun e w' => e = .returned (.int .i64 0) ∧ w' = w := by
  go_enter Try.func69, Try.ntmps69
  go_wp2_with fail
  go_ret
  exact ⟨rfl, rfl⟩
theorem left_any {K : Nat → Prop} {B : Nat} {l : List Int} {bad : Bool} {w : World} (h : IS K B l bad w) : Calls Try.prog 69 #[.pointer (some ⟨B, 0, none⟩)] w fun e w' => e = .returned (.int .i64 l.length) ∧ w' = w := by
  obtain ⟨ad, c, h0, h1, _, _, _⟩ := h.cells
  clear h
  go_enter Try.func69, Try.ntmps69
  go_wp2_with fail
  go_ret
  exact ⟨rfl, rfl⟩
theorem bad_nil (w : World) : Calls Try.prog 51 #[.pointer none] w fun e w' => e = .returned (.bool false) ∧ w' = w := by
  go_enter Try.func51, Try.ntmps51
  go_wp2_with fail
  go_ret
  exact ⟨rfl, rfl⟩
theorem bad_any {K : Nat → Prop} {B : Nat} {l : List Int} {bad : Bool} {w : World} (h : IS K B l bad w) : Calls Try.prog 51 #[.pointer (some ⟨B, 0, none⟩)] w fun e w' => e = .returned (.bool bad) ∧ w' = w := by
  obtain ⟨ad, c, h0, h1, _, _, _⟩ := h.cells
  clear h
  go_enter Try.func51, Try.ntmps51
  go_wp2_with fail
  go_ret
  exact ⟨rfl, rfl⟩
theorem fail_nil (w : World) : Calls Try.prog 62 #[.pointer none] w fun e w' => e = .returned (.tuple #[]) ∧ w' = w := by
  go_enter Try.func62, Try.ntmps62
  go_wp2_with fail
  go_end0
  exact ⟨rfl, rfl⟩
/-- A step that turns the block B alone. -/
def Turns (B : Nat) (w w' : World) : Prop := Moves (fun k => k = B) (fun k => k = B) w w'
theorem Turns.set (w : World) (B o : Nat) (v : Value) : Turns B w (w.setCell ⟨B, o, none⟩ v) := Moves.setCell (T := fun k => k = B) w (p := ⟨B, o, none⟩) rfl v
theorem Turns.trans {B : Nat} {w w1 w2 : World} (h : Turns B w w1) (k : Turns B w1 w2) : Turns B w w2 := Moves.trans h k
theorem fail_any {K : Nat → Prop} {B : Nat} {l : List Int} {bad : Bool} {w : World} (h : IS K B l bad w) : Calls Try.prog 62 #[.pointer (some ⟨B, 0, none⟩)] w fun e w' => e = .returned (.tuple #[]) ∧ Turns B w w' ∧ IS K B [] true w' := by
  obtain ⟨ad, c, h0, h1, h2, h3, _⟩ := h.cells
  have HH := Lib.hid h
  clear h
  go_enter Try.func62, Try.ntmps62
  go_wp2_with fail
  go_end0
  obtain ⟨k1, k2, k3, k4, ad, c, k5, k6, k7⟩ := HH.out
  refine ⟨rfl, (Turns.set w B 0 _).trans (Turns.set _ B 1 _), k1, fun k hk => by simp [World.setCell]; exact k2 k hk, Bytes8.nil, fun _ => rfl, none, 0, ?_, Nat.le_refl _, fun h => absurd h (by simp)⟩
  rw [Go.Joins.block_setCell (Go.Joins.block_setCell k5 _) _]
  rfl
end Go.Proofs.Ythphmhcgnkoigaa
