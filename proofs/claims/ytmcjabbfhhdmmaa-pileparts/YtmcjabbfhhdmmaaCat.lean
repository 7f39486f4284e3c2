/- A slice of elements laid flat that is owned: another slice appended. No number of a seat in it; no conditions beyond those written in each theorem. -/
import Derived.Test.YtmcjabbfhhdmmaaPush
namespace Go.Proofs.Ytmcjabbfhhdmmaa
open Go.ChangeShapes Go.WideShapes Go.ChangeAt Go.RowKit
set_option maxRecDepth 100000
/-- A slice that reads as a list, as a source of append. -/
theorem src_sl {α : Type} {enc : α → List Value} {size : Nat} {z : α} {w : World} {a : Option Addr} {m c : Nat} {r : List α} (hf : ∀ q, (enc q).length = size) (hpos : 0 < size) (h : SL enc size z w a m r) (hc : a = none → c = 0) :
    SrcC w (.slice a m c) m size (r.flatMap enc) := by
  obtain ⟨hl, hcell⟩ := h
  rcases Nat.eq_zero_or_pos m with h0 | h0
  · subst h0
    obtain rfl : r = [] := List.eq_nil_of_length_eq_zero hl
    cases a with
    | none => exact .inl ⟨by rw [hc rfl], rfl, rfl⟩
    | some x => exact .inr ⟨x, c, rfl, by simp, fun j v h => by simp at h⟩
  · obtain ⟨b, off, rfl, hh⟩ := hcell h0
    refine .inr ⟨_, c, rfl, by rw [fl_len hf, hl], fun j v hj => ?_⟩
    have hjl : j < m * size := by
      have := (List.getElem?_eq_some_iff.1 hj).1
      rw [fl_len hf, hl] at this; exact this
    have hq : j / size < m := Nat.div_lt_of_lt_mul (by rw [Nat.mul_comm]; exact hjl)
    have hm : j % size < size := Nat.mod_lt _ hpos
    have e : j = j / size * size + j % size := by rw [Nat.mul_comm]; exact (Nat.div_add_mod j size).symm
    have h1 := hh (j / size) hq (j % size) hm
    have h2 := fl_at hf r z (i := j / size) (by rw [hl]; exact hq) hm
    rw [← e, hj] at h2
    rw [add_plain, show off + j = off + j / size * size + j % size by omega, h1, ← h2]
/-- x = append(x, r...). -/
theorem wpList_catG {P : Program} {α : Type} {enc : α → List Value} {size bytes : Nat} {z : Value} {t e : TypeId} (ht : P.underlying t = some (.slice e))
    (hinfo : (P.info? e).map (fun i => (i.zero, i.size, i.bytes)) = some (some z, size, bytes)) (hz : z.cells.size = size) (hpos : 0 < size) (h1 : ∀ q, ∀ u ∈ enc q, u.oneCell' = true) (hby : bytes ≤ 10000)
    {ops : Array Oper} {rest : List Oper} {op : Oper} {a : Act} {w : World} {Q : Exit → Act → World → Prop} (hgd : op.guard = none) (s x : Operand) (ho : op.op = .call { callee := .builtin .append, args := #[s, x], argTypes := #[t, t] })
    (base : Nat) (v : Value) (l : List α) (u : Value) (m : Nat) (r : List α) (hs : a.eval s = v) (hx : a.eval x = u) (hown : GR enc e size w base v l) (hsrc : SrcC w u m size (r.flatMap enc)) (hr : r.length = m) (hl : l.length + m ≤ 1000000) (hb : base ≤ w.heap.size)
    (h : ∀ v' w', GR enc e size w' base v' (l ++ r) → w.grownBy w' v.ownBlock → wpList P ops Q rest (a.put op.dst v') w') :
    wpList P ops Q (op :: rest) a w := by
  obtain ⟨i0, hi, hz0, hz1, hz2⟩ := info_parts hinfo
  have hm : (l.length + m) * bytes ≤ 1000001 * 10000 := Nat.mul_le_mul (by omega) hby
  refine wpList_append_src (P := P) w hgd s x t ho e i0 z size bytes ht hi hz0 hz1 hz2 hz hpos base v l.length (l.flatMap enc) hs hown u m (r.flatMap enc) hx hsrc ?_ (by unfold maxLen; omega) (by omega) hb ?_
  · intro y hy
    obtain ⟨q, _, hq⟩ := List.mem_flatMap.1 hy
    exact h1 q y hq
  · intro v' w' h1 h2 _
    refine h v' w' ?_ h2
    unfold GR
    rw [List.flatMap_append, List.length_append, hr]
    exact h1
end Go.Proofs.Ytmcjabbfhhdmmaa
