/- A slice of elements laid flat that is owned: one element appended. No number of a seat in it; no conditions beyond those written in each theorem. -/
import Derived.Test.YtmcjabbfhhdmmaaFl
namespace Go.Proofs.Ytmcjabbfhhdmmaa
open Go.ChangeShapes Go.WideShapes Go.ChangeAt Go.RowKit
set_option maxRecDepth 100000
/-- The row of elements that it owns. -/
def GR {α : Type} (enc : α → List Value) (e : TypeId) (size : Nat) (w : World) (base : Nat) (v : Value) (l : List α) : Prop := w.ownsRow base e size v l.length (l.flatMap enc)
section
variable {α : Type} {enc : α → List Value} {e : TypeId} {size : Nat} {w w' : World} {base : Nat} {v : Value} {l : List α}
theorem GR.seen (h : GR enc e size w base v l) (hs : Seen w w') : GR enc e size w' base v l := row_seen h hs
theorem GR.nil (w : World) (base : Nat) : GR enc e size w base (.slice none 0 0) [] := ⟨by simp, .inl ⟨rfl, rfl⟩⟩
theorem GR.slice (h : GR enc e size w base v l) (hf : ∀ q, (enc q).length = size) (z : α) : ∃ a c, v = .slice a l.length c ∧ SL enc size z w a l.length l ∧ l.length ≤ c := by
  rcases h.2 with ⟨rfl, hn⟩ | ⟨g, cap, cur, rfl, hb, hh, h1, h2, h3, h4⟩
  · refine ⟨none, 0, by rw [hn], ⟨rfl, fun h => absurd h (by omega)⟩, by omega⟩
  · refine ⟨_, cap, rfl, ⟨rfl, fun _ => ⟨g, 0, rfl, fun i hi j hj => ?_⟩⟩, h1⟩
    have hl : i * size + j < l.length * size := by
      have : (i + 1) * size ≤ l.length * size := Nat.mul_le_mul_right size hi
      rw [Nat.add_mul] at this; omega
    have hc := World.ownsRow.cellAt h (i * size + j) hl
    rw [Nat.zero_add, hc]
    exact fl_at hf l z hi hj
theorem GR.far (h : GR enc e size w base v l) {B : Nat} (hB : B < base) (o : Nat) (u : Value) : GR enc e size (w.setCell ⟨B, o, none⟩ u) base v l :=
  ownsRow_keeps h (fun g hg => Below.heap_setCell w _ _ g (fun e => by have := (h.lt g hg).1; simp at e; omega))
end
theorem cells_at (w : World) (xs : List Value) (t : TypeId) : ∀ j v, xs[j]? = some v → (w.alloc (.cells xs.toArray t)).cell? ((⟨w.heap.size, 0, none⟩ : Addr).add j) = some v := by
  intro j v h
  rw [add_plain, Go.Joins.cell_of_block (World.alloc_heap_new w _), List.getElem?_toArray, Nat.zero_add]
  exact h
/-- x = append(x, y), y in a new block. -/
theorem wpList_pushG {P : Program} {α : Type} {enc : α → List Value} {size bytes : Nat} {z : Value} {t e : TypeId} (ht : P.underlying t = some (.slice e))
    (hinfo : (P.info? e).map (fun i => (i.zero, i.size, i.bytes)) = some (some z, size, bytes)) (hz : z.cells.size = size) (hpos : 0 < size) (hf : ∀ q, (enc q).length = size) (h1 : ∀ q, ∀ u ∈ enc q, u.oneCell' = true) (hby : bytes ≤ 10000)
    {ops : Array Oper} {rest : List Oper} {op : Oper} {a : Act} {w : World} {Q : Exit → Act → World → Prop} (hgd : op.guard = none) (s x : Operand) (ho : op.op = .call { callee := .builtin .append, args := #[s, x], argTypes := #[t, t] })
    (base : Nat) (v : Value) (l : List α) (y : α) (hs : a.eval s = v) (hx : a.eval x = .slice (some ⟨w.heap.size, 0, none⟩) 1 1) (hown : GR enc e size w base v l) (hl : l.length ≤ 1000000) (hb : base ≤ w.heap.size)
    (h : ∀ g cap w', GR enc e size w' base (.slice (some ⟨g, 0, none⟩) (l.length + 1) cap) (l ++ [y]) → (w.alloc (.cells (enc y).toArray e)).grownBy w' v.ownBlock → wpList P ops Q rest (a.put op.dst (.slice (some ⟨g, 0, none⟩) (l.length + 1) cap)) w') :
    wpList P ops Q (op :: rest) a (w.alloc (.cells (enc y).toArray e)) := by
  obtain ⟨i0, hi, hz0, hz1, hz2⟩ := info_parts hinfo
  have hm : (l.length + 1) * bytes ≤ 1000001 * 10000 := Nat.mul_le_mul (by omega) hby
  refine wpList_append_own (P := P) _ hgd s x t ho base e i0 z size bytes ht hi hz0 hz1 hz2 hz hpos v l.length (l.flatMap enc) hs (World.ownsRow.alloc hown _) ⟨w.heap.size, 0, none⟩ 1 1 (enc y) hx (by rw [hf]; omega) (cells_at _ _ _) (h1 y) (by unfold maxLen; omega) (by omega) (by simp; omega) ?_
  intro v' w' h1 h2 _
  obtain ⟨g, cap, rfl⟩ := ownsRow_succ h1
  refine h g cap w' ?_ h2
  unfold GR
  rw [List.flatMap_append, List.length_append, List.flatMap_cons, List.flatMap_nil, List.append_nil]
  exact h1
end Go.Proofs.Ytmcjabbfhhdmmaa
