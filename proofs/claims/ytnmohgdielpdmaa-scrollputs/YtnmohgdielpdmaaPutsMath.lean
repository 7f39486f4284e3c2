/- What ScrollPuts keeps from round to round; rows of bytes made strings; a row that is turned byte by byte. -/
import Derived.Test.YtnmohgdielpdmaaRef
namespace Go.Proofs.Ytnmohgdielpdmaa
open Go.ChangeShapes Go.WideShapes Go.ChangeAt Go.RowKit
/-- The bytes of the first k pieces. -/
def putsTo (l : List Pc) (k : Nat) : List Int := (l.take k).flatMap bytesP
theorem putsTo_step {l : List Pc} {k : Nat} (h : k < l.length) : putsTo l (k + 1) = putsTo l k ++ bytesP (pat l k) := by
  unfold putsTo
  rw [List.take_succ_eq_append_getElem h, List.flatMap_append, pat_eq h]; simp
theorem bytesP_len (q : Pc) : (bytesP q).length ≤ 8 := by
  unfold bytesP
  split
  · simp
  · split <;> rw [be_length] <;> omega
theorem putsTo_len (l : List Pc) (k : Nat) : (putsTo l k).length ≤ 8 * k := by
  induction k with
  | zero => simp [putsTo]
  | succ k ih =>
    by_cases h : k < l.length
    · rw [putsTo_step h, List.length_append]
      have := bytesP_len (pat l k)
      omega
    · have e : putsTo l (k + 1) = putsTo l k := by
        unfold putsTo; rw [List.take_of_length_le (by omega), List.take_of_length_le (by omega)]
      rw [e]; omega
theorem put1 {q : Pc} (h : q.kd = 0) : be (q.n % 256 % 18446744073709551616) 1 = bytesP q := by
  unfold bytesP
  rw [if_pos h]
  simp only [be, List.nil_append, List.cons.injEq, and_true]
  omega
theorem put4 {q : Pc} (h0 : q.kd ≠ 0) (h : q.kd = 1) : be (q.n % 4294967296 % 18446744073709551616) 4 = bytesP q := by
  unfold bytesP
  rw [if_neg h0, if_pos h, Int.emod_eq_of_lt (a := q.n % 4294967296) (by omega) (by omega)]
theorem put8 {q : Pc} (h0 : q.kd ≠ 0) (h : q.kd ≠ 1) : be (q.n % 18446744073709551616) 8 = bytesP q := by
  unfold bytesP
  rw [if_neg h0, if_neg h]
/-- The Out at X holds the bytes L, and so does the row v, in memory of its own. -/
structure QI (w : World) (X : Nat) (T : Nat → Prop) (L : List Int) (v : Value) (wr : World) : Prop where
  seen : Seen w wr
  out : OS w.heap.size X T L wr
  row : wr.ownsRow w.heap.size 5 1 v L.length (bv L)
  apart : ∀ g, v.ownBlock = some g → ¬ T g
section
variable {w wr w1 : World} {X : Nat} {T T' : Nat → Prop} {L M : List Int} {v : Value}
theorem QI.high (h : QI w X T L v wr) (hX : w.heap.size ≤ X) : ∀ k, T k → w.heap.size ≤ k := h.out.high hX
/-- Behind a call that puts: the row is as it was, apart as before. -/
theorem QI.put (h : QI w X T L v wr) (hX : w.heap.size ≤ X) (hm : Moves T T' wr w1) (ho : OS w.heap.size X T' M w1) : Seen w w1 ∧ OS w.heap.size X T' M w1 ∧ w1.ownsRow w.heap.size 5 1 v L.length (bv L) ∧ ∀ g, v.ownBlock = some g → ¬ T' g :=
  ⟨h.seen.moves hm (h.high hX), ho, ownsRow_keeps h.row (fun g hg => hm.block g (h.row.lt g hg).2 (h.apart g hg)), fun g hg ht => (hm.own g ht).elim (h.apart g hg) (fun h2 => by have := (h.row.lt g hg).2; omega)⟩
end
/-- Behind the append onto the row. -/
theorem QI.grow {w w2 w3 : World} {X : Nat} {T : Nat → Prop} {L M : List Int} {v v' : Value} (hs : Seen w w2) (ho : OS w.heap.size X T (L ++ M) w2) (hr : w2.ownsRow w.heap.size 5 1 v L.length (bv L)) (hap : ∀ g, v.ownBlock = some g → ¬ T g)
    (hr3 : w3.ownsRow w.heap.size 5 1 v' (L.length + M.length) (bv L ++ bv M)) (hg : w2.grownBy w3 v.ownBlock) (hat : v'.ownBlock = v.ownBlock ∨ v'.ownBlock = some w2.heap.size) : QI w X T (L ++ M) v' w3 := by
  refine ⟨Below.grown hs hg hs.size (fun j hj => (hr.lt j hj).1), ho.keeps fun k hk => hg.block k (ho.low k hk) (fun e => hap k e.symm hk), by rw [List.length_append, bv_append]; exact hr3, fun g hgv => ?_⟩
  rcases hat with e | e
  · exact hap g (e ▸ hgv)
  · rw [e] at hgv
    cases hgv
    intro ht
    have := ho.low _ ht
    omega
theorem conv_own {w : World} {base n : Nat} {v : Value} {l : List Int} (h : w.ownsRow base 5 1 v n (bv l)) (hl : l.length = n) : ∀ w', Seen w w' → (convert 24 9 v).run Try.prog w' = .ok (.string (strOfNums l)) w' := by
  intro w' hs
  have h' := row_seen h hs
  rcases h'.2 with ⟨rfl, rfl⟩ | ⟨g, cap, cur, rfl, hb, hh, h1, h2, h3, h4⟩
  · obtain rfl : l = [] := List.eq_nil_of_length_eq_zero hl
    rw [run_convert_bytes_nil w' 24 5 Try.underlying24 Try.underlying5 0 0 9 Try.underlying9]
    rfl
  · refine run_convert_bytes_arg w' 24 5 Try.underlying24 Try.underlying5 g 0 n cap l hl (fun i hi => ?_) 9 Try.underlying9
    rw [Nat.zero_add, h'.cellAt i (by omega)]
    exact bv_at (by omega)
/-- A block of bytes, whatever they are. -/
def AnyB (g m : Nat) (w : World) : Prop := ∃ cs : Array Value, w.heap[g]? = some (.cells cs 5) ∧ ∀ j, j < m → ∃ x, cs[j]? = some (.int .u8 x)
theorem AnyB.at {g m : Nat} {w : World} (h : AnyB g m w) {j : Nat} (hj : j < m) : ∃ x, w.cell? ⟨g, j, none⟩ = some (.int .u8 x) ∧ w.frozen? ⟨g, j, none⟩ = false := by
  obtain ⟨cs, hc, hx⟩ := h
  obtain ⟨x, e⟩ := hx j hj
  exact ⟨x, by rw [Go.Joins.cell_of_block hc]; exact e, by simp [World.frozen?, hc]⟩
theorem AnyB.set {g m : Nat} {w : World} (h : AnyB g m w) (j : Nat) (y : Int) : AnyB g m (w.setCell ⟨g, j, none⟩ (.int .u8 y)) := by
  obtain ⟨cs, hc, hx⟩ := h
  refine ⟨_, Go.Joins.block_setCell hc _, fun i hi => ?_⟩
  obtain ⟨x, e⟩ := hx i hi
  rw [Array.getElem?_setIfInBounds]
  split
  · subst_vars
    split
    · exact ⟨y, rfl⟩
    · have hlt : i < cs.size := by
        rcases Nat.lt_or_ge i cs.size with h1 | h1
        · exact h1
        · rw [Array.getElem?_eq_none h1] at e; cases e
      exact absurd hlt (by assumption)
  · exact ⟨x, e⟩
theorem anyB_of_own {w : World} {base n : Nat} {v : Value} {l : List Int} (h : w.ownsRow base 5 1 v n (bv l)) (hl : l.length = n) : ∀ g, v.ownBlock = some g → AnyB g n w := by
  intro g0 hg0
  rcases h.2 with ⟨rfl, _⟩ | ⟨g, cap, cur, rfl, hb, hh, h1, h2, h3, h4⟩
  · cases hg0
  · cases hg0
    refine ⟨cur, hh, fun j hj => ⟨bat l j, ?_⟩⟩
    have := h.cellAt j (by omega)
    rw [Go.Joins.cell_of_block hh] at this
    exact this.trans (bv_at (by omega))
theorem own_some {w : World} {base n c : Nat} {a : Option Addr} {xs : List Value} (h : w.ownsRow base 5 1 (.slice a n c) n xs) (hn : 0 < n) : ∃ g, a = some ⟨g, 0, none⟩ ∧ base ≤ g := by
  rcases h.2 with ⟨_, e⟩ | ⟨g, cap, cur, e, hb, _⟩
  · omega
  · cases e; exact ⟨g, rfl, hb⟩
end Go.Proofs.Ytnmohgdielpdmaa
