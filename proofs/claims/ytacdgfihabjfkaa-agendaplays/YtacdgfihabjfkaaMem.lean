/- What a walk knows of memory: blocks that stay, blocks that an owner turns; entries in a row. No conditions beyond those written in each theorem. -/
import Derived.Test.YtacdgfihabjfkaaCmp
import Derived.Test.YtacdgfihabjfkaaHMath
import Derived.Maps.OwnIn
import Derived.Maps.AppendAt
import Derived.RangeFuncBox
import Derived.Lib.SmallJoins
namespace Go.Proofs.Ytacdgfihabjfkaa
open Go.ChangeShapes Go.WideShapes Go.ChangeAt Go.RowKit
/-- The blocks of the set T lie as they lay; no block has gone. -/
structure Keeps (T : Nat → Prop) (W W' : World) : Prop where
  size : W.heap.size ≤ W'.heap.size
  block : ∀ k, T k → W'.heap[k]? = W.heap[k]?
/-- A step of the owner of T, who owns T' behind it: of the old blocks only those of T have turned, and what is newly owned is a new block. -/
structure Moves (T T' : Nat → Prop) (W W' : World) : Prop where
  os : W'.os = W.os
  tape : W'.tape = W.tape
  output : W'.output = W.output
  size : W.heap.size ≤ W'.heap.size
  block : ∀ k, k < W.heap.size → ¬ T k → W'.heap[k]? = W.heap[k]?
  own : ∀ k, T' k → T k ∨ W.heap.size ≤ k
theorem Keeps.refl (T : Nat → Prop) (W : World) : Keeps T W W := ⟨Nat.le_refl _, fun _ _ => rfl⟩
theorem Keeps.trans {T : Nat → Prop} {A B C : World} (h : Keeps T A B) (k : Keeps T B C) : Keeps T A C := ⟨Nat.le_trans h.size k.size, fun i hi => (k.block i hi).trans (h.block i hi)⟩
theorem Keeps.cell {T : Nat → Prop} {W W' : World} (h : Keeps T W W') {p : Addr} (hp : T p.block) : W'.cell? p = W.cell? p := World.cell?_of_block (h.block p.block hp)
theorem Keeps.of_below {T : Nat → Prop} {n : Nat} {W W' : World} (h : Below n W W') (ht : ∀ k, T k → k < n) : Keeps T W W' := ⟨h.size, fun k hk => h.block k (ht k hk)⟩
theorem Keeps.of_grown {T : Nat → Prop} {W W' : World} {row : Option Nat} (h : W.grownBy W' row) (ht : ∀ k, T k → k < W.heap.size ∧ some k ≠ row) : Keeps T W W' := ⟨h.size, fun k hk => h.block k (ht k hk).1 (ht k hk).2⟩
theorem Keeps.putObj {T : Nat → Prop} (W : World) (l : Nat) (o : Obj) (h : ¬ T l) : Keeps T W (W.putObj l o) := ⟨by simp, fun k hk => World.putObj_heap_other (fun e => h (e ▸ hk))⟩
theorem Moves.refl (T : Nat → Prop) (W : World) : Moves T T W W := ⟨rfl, rfl, rfl, Nat.le_refl _, fun _ _ _ => rfl, fun _ h => .inl h⟩
theorem Moves.trans {T T' T'' : Nat → Prop} {A B C : World} (h : Moves T T' A B) (k : Moves T' T'' B C) : Moves T T'' A C :=
  ⟨k.os.trans h.os, k.tape.trans h.tape, k.output.trans h.output, Nat.le_trans h.size k.size,
   fun i hi ht => (k.block i (Nat.lt_of_lt_of_le hi h.size) (fun h' => (h.own i h').elim ht (fun h2 => absurd hi (Nat.not_lt.2 h2)))).trans (h.block i hi ht),
   fun i hi => (k.own i hi).elim (h.own i) (fun h2 => .inr (Nat.le_trans h.size h2))⟩
/-- The iterator writes blocks that are newer than the world in which it began. -/
theorem Moves.newer {T T' : Nat → Prop} {A B C : World} (h : Moves T T' A B) (k : Below A.heap.size B C) : Moves T T' A C :=
  ⟨k.os.trans h.os, k.tape.trans h.tape, k.output.trans h.output, Nat.le_trans h.size k.size, fun i hi ht => (k.block i hi).trans (h.block i hi ht), h.own⟩
theorem Moves.of_below {T : Nat → Prop} {W W' : World} (h : Below W.heap.size W W') : Moves T T W W' := (Moves.refl T W).newer h
theorem Moves.of_grown {T : Nat → Prop} {W W' : World} {row : Option Nat} (h : W.grownBy W' row) (hr : ∀ k, row = some k → T k) : Moves T T W W' :=
  ⟨h.os, h.tape, h.output, h.size, fun k hk ht => h.block k hk (fun e => ht (hr k e.symm)), fun _ h => .inl h⟩
theorem Moves.alloc (T : Nat → Prop) (W : World) (o : Obj) : Moves T (fun k => T k ∨ k = W.heap.size) W (W.alloc o) :=
  ⟨rfl, rfl, rfl, by simp, fun k hk _ => Below.heap_alloc W o k hk, fun k hk => hk.elim .inl (fun e => .inr (Nat.le_of_eq e.symm))⟩
theorem Moves.setCell {T : Nat → Prop} (W : World) {p : Addr} (hp : T p.block) (v : Value) : Moves T T W (W.setCell p v) :=
  ⟨rfl, rfl, rfl, by simp [World.setCell], fun k _ ht => Below.heap_setCell W p v k (fun e => ht (e ▸ hp)), fun _ h => .inl h⟩
theorem Moves.putObj {T : Nat → Prop} (W : World) {l : Nat} (hl : T l) (o : Obj) : Moves T T W (W.putObj l o) :=
  ⟨rfl, rfl, rfl, by simp, fun k _ ht => World.putObj_heap_other (fun e => ht (e ▸ hl)), fun _ h => .inl h⟩
theorem Moves.less {T T' T'' : Nat → Prop} {W W' : World} (h : Moves T T' W W') (hs : ∀ k, T'' k → T' k) : Moves T T'' W W' := ⟨h.os, h.tape, h.output, h.size, h.block, fun k hk => h.own k (hs k hk)⟩
theorem Moves.below {T T' : Nat → Prop} {W W' : World} {n : Nat} (h : Moves T T' W W') (hn : n ≤ W.heap.size) (ht : ∀ k, T k → n ≤ k) : Below n W W' :=
  ⟨h.os, h.tape, h.output, h.size, fun k hk => h.block k (Nat.lt_of_lt_of_le hk hn) (fun e => absurd (ht k e) (Nat.not_le.2 hk))⟩
theorem Moves.keeps {T T' K : Nat → Prop} {W W' : World} (h : Moves T T' W W') (hk : ∀ k, K k → k < W.heap.size ∧ ¬ T k) : Keeps K W W' := ⟨h.size, fun k hK => h.block k (hk k hK).1 (hk k hK).2⟩

/-- w' holds all blocks of W, as they were. -/
def Seen (W w' : World) : Prop := Below W.heap.size W w'
theorem Seen.refl (W : World) : Seen W W := Below.refl _ _
theorem Seen.drew {W w' : World} (h : Seen W w') : Seen W w'.drew := Below.drew h
theorem Seen.next {W w1 w2 : World} (h : Seen W w1) (hb : Below w1.heap.size w1 w2) : Seen W w2 := Below.trans h (hb.mono h.size)
theorem Seen.alloc {W w1 : World} (h : Seen W w1) (o : Obj) : Seen W (w1.alloc o) := Below.alloc h h.size o
theorem Seen.trans {W w1 w2 : World} (h : Seen W w1) (k : Seen w1 w2) : Seen W w2 := h.next k
theorem Seen.cell {W w' : World} (h : Seen W w') {a : Addr} {v : Value} (hc : W.cell? a = some v) : w'.cell? a = some v := by
  have hlt : a.block < W.heap.size := by
    rcases Nat.lt_or_ge a.block W.heap.size with h1 | h1
    · exact h1
    · simp [World.cell?, Array.getElem?_eq_none h1] at hc
  rw [Below.cell h hlt]; exact hc
theorem ownsRow_keeps {W W' : World} {base : Nat} {e : TypeId} {size : Nat} {v : Value} {n : Nat} {xs : List Value} (h : W.ownsRow base e size v n xs) (hk : ∀ g, v.ownBlock = some g → W'.heap[g]? = W.heap[g]?) : W'.ownsRow base e size v n xs := by
  refine ⟨h.1, ?_⟩
  rcases h.2 with hn | ⟨g, cap, cur, rfl, hb, hg, rest⟩
  · exact .inl hn
  · exact .inr ⟨g, cap, cur, rfl, hb, (hk g rfl).trans hg, rest⟩
theorem boxed_keeps {W W' : World} {B : Nat} {t : TypeId} {v : Value} (h : Boxed W B t v) (hk : W'.heap[B]? = W.heap[B]?) : Boxed W' B t v := hk.trans h
/-- Behind 'x = append(x, ..)', x in the box B: what the box holds, what it owns, what has turned. -/
theorem append_moves {W w1 : World} {B : Nat} {t e : TypeId} {size base : Nat} {v v' : Value} {k m : Nat} {xs ys : List Value} {tmp : Obj} {T : Nat → Prop}
    (hv : Boxed W B t v) (hte : t ≠ e) (hrow : W.ownsRow base e size v k xs) (hown' : w1.ownsRow base e size v' m ys) (hgrow : (W.alloc tmp).grownBy w1 v.ownBlock) (hat : v'.ownBlock = v.ownBlock ∨ v'.ownBlock = some (W.alloc tmp).heap.size)
    (hTB : T B) (hTv : ∀ g, v.ownBlock = some g → T g) :
    Boxed w1 B t v ∧ Boxed (w1.setCell ⟨B, 0, none⟩ v') B t v' ∧ (w1.setCell ⟨B, 0, none⟩ v').ownsRow base e size v' m ys ∧
    (∀ T', (∀ j, T' j → T j ∨ v'.ownBlock = some j) → Moves T T' W (w1.setCell ⟨B, 0, none⟩ v')) ∧
    (∀ j, j < W.heap.size → j ≠ B → v.ownBlock ≠ some j → (w1.setCell ⟨B, 0, none⟩ v').heap[j]? = W.heap[j]?) := by
  have hv1 : Boxed w1 B t v := (hv.alloc tmp).kept hgrow (hv.not_row hte hrow)
  have hs : ∀ j, j < W.heap.size → j ≠ B → v.ownBlock ≠ some j → (w1.setCell ⟨B, 0, none⟩ v').heap[j]? = W.heap[j]? := fun j hj hB hg =>
    (Below.heap_setCell w1 _ _ j hB).trans ((hgrow.block j (by simp; omega) (fun e => hg e.symm)).trans (Below.heap_alloc W tmp j hj))
  have hsz : W.heap.size ≤ (w1.setCell ⟨B, 0, none⟩ v').heap.size := by
    have := hgrow.size
    simp [World.setCell] at this ⊢; omega
  refine ⟨hv1, hv1.set v', hown'.kept (grownBy_setCell' w1 B v') (.inr (hv1.not_row hte hown').symm), fun T' hT' => ⟨hgrow.os, hgrow.tape, hgrow.output, hsz, fun j hj ht => hs j hj (fun e => ht (e ▸ hTB)) (fun e => ht (hTv j e)), fun j hj => ?_⟩, hs⟩
  rcases hT' j hj with h | h
  · exact .inl h
  · rcases hat with h2 | h2
    · exact .inl (hTv j (h2 ▸ h))
    · rw [h2] at h; simp at h; exact .inr (by omega)
theorem row_more {w : World} {base base' : Nat} {e : TypeId} {size : Nat} {v : Value} {n : Nat} {xs : List Value} (h : w.ownsRow base e size v n xs) (hb : base' ≤ base) : w.ownsRow base' e size v n xs := by
  rcases h with ⟨h1, h2 | ⟨g, cap, cur, h3, h4, h5⟩⟩
  · exact ⟨h1, .inl h2⟩
  · exact ⟨h1, .inr ⟨g, cap, cur, h3, Nat.le_trans hb h4, h5⟩⟩
theorem row_seen {W w' : World} {base : Nat} {e : TypeId} {size : Nat} {v : Value} {n : Nat} {xs : List Value} (h : W.ownsRow base e size v n xs) (hs : Seen W w') : w'.ownsRow base e size v n xs :=
  ownsRow_keeps h (fun g hg => hs.block g (h.lt g hg).2)
theorem quiet_call {P : Program} {f : FuncId} {args : Array Value} {v : Value} {W w1 : World} (h1 : Seen W w1) (h : Calls P f args w1 fun e w' => e = .returned v ∧ Below w1.heap.size w1 w') :
    Calls P f args w1 fun e w'' => e = .returned v ∧ Seen W w'' := h.mono fun _ _ h => ⟨h.1, h1.next h.2⟩
theorem add_plain (b o n : Nat) : (⟨b, o, none⟩ : Addr).add n = ⟨b, o + n, none⟩ := by
  unfold Addr.add
  split <;> simp_all
/-- The cells of a list of entries. -/
def flatE : List E3 → List Value
  | [] => []
  | e :: l => .int .i64 e.k :: .int .i64 e.t :: .int .i64 e.n :: flatE l
theorem flatE_length (l : List E3) : (flatE l).length = l.length * 3 := by
  induction l with
  | nil => rfl
  | cons e l ih => simp only [flatE, List.length_cons, ih]; omega
theorem flatE_append (l m : List E3) : flatE (l ++ m) = flatE l ++ flatE m := by
  induction l with
  | nil => rfl
  | cons e l ih => simp only [List.cons_append, flatE, ih]
theorem flatE_one (l : List E3) : ∀ u ∈ flatE l, u.oneCell' = true := by
  induction l with
  | nil => intro u hu; cases hu
  | cons e l ih =>
    intro u hu
    simp only [flatE, List.mem_cons] at hu
    rcases hu with rfl | rfl | rfl | h
    · rfl
    · rfl
    · rfl
    · exact ih u h
theorem flatE_at {l : List E3} {i : Nat} (h : i < l.length) :
    (flatE l)[i * 3]? = some (.int .i64 (eat l i).k) ∧ (flatE l)[i * 3 + 1]? = some (.int .i64 (eat l i).t) ∧ (flatE l)[i * 3 + 2]? = some (.int .i64 (eat l i).n) := by
  induction l generalizing i with
  | nil => simp at h
  | cons r l ih =>
    cases i with
    | zero => simp [flatE, eat]
    | succ i =>
      have h' : i < l.length := by simpa using h
      have := ih h'
      have e : eat (r :: l) (i + 1) = eat l i := by simp [eat]
      rw [e, show (i + 1) * 3 = i * 3 + 1 + 1 + 1 by omega, show i * 3 + 1 + 1 + 1 + 1 = (i * 3 + 1) + 1 + 1 + 1 by omega, show i * 3 + 1 + 1 + 1 + 2 = (i * 3 + 2) + 1 + 1 + 1 by omega]
      simpa only [flatE, List.getElem?_cons_succ] using this
theorem flatE_set {l : List E3} {i : Nat} (x : E3) : flatE (l.set i x) = (((flatE l).set (i * 3) (.int .i64 x.k)).set (i * 3 + 1) (.int .i64 x.t)).set (i * 3 + 2) (.int .i64 x.n) := by
  induction l generalizing i with
  | nil => simp [flatE]
  | cons r l ih =>
    cases i with
    | zero => simp [flatE]
    | succ i =>
      rw [show (i + 1) * 3 = i * 3 + 1 + 1 + 1 by omega, show i * 3 + 1 + 1 + 1 + 1 = (i * 3 + 1) + 1 + 1 + 1 by omega, show i * 3 + 1 + 1 + 1 + 2 = (i * 3 + 2) + 1 + 1 + 1 by omega]
      simp only [List.set_cons_succ, flatE, ih]
theorem flatE_take (l : List E3) (n : Nat) : flatE (l.take n) = (flatE l).take (n * 3) := by
  induction l generalizing n with
  | nil => simp [flatE]
  | cons r l ih =>
    cases n with
    | zero => simp [flatE]
    | succ n =>
      rw [show (n + 1) * 3 = n * 3 + 1 + 1 + 1 by omega]
      simp only [List.take_succ_cons, flatE, ih]
/-- An entry's three cells lie here. -/
def At3 (w : World) (b o : Nat) (r : E3) : Prop :=
  w.cell? ⟨b, o, none⟩ = some (.int .i64 r.k) ∧ w.cell? ⟨b, o + 1, none⟩ = some (.int .i64 r.t) ∧ w.cell? ⟨b, o + 2, none⟩ = some (.int .i64 r.n)
theorem Seen.at3 {W w' : World} (h : Seen W w') {b o : Nat} {r : E3} (hb : At3 W b o r) : At3 w' b o r := ⟨h.cell hb.1, h.cell hb.2.1, h.cell hb.2.2⟩
/-- A slice of n entries reads as this list. -/
def ES (w : World) (ad : Option Addr) (n : Nat) (l : List E3) : Prop :=
  l.length = n ∧ (0 < n → ∃ b off, ad = some ⟨b, off, none⟩ ∧ ∀ i, i < n → At3 w b (off + i * 3) (eat l i))
theorem ES.seen {w w' : World} {ad : Option Addr} {n : Nat} {l : List E3} (h : ES w ad n l) (hs : Seen w w') : ES w' ad n l :=
  ⟨h.1, fun h0 => let ⟨b, off, e, hc⟩ := h.2 h0; ⟨b, off, e, fun i hi => hs.at3 (hc i hi)⟩⟩
theorem ES.nil (w : World) (ad : Option Addr) : ES w ad 0 [] := ⟨rfl, fun h => absurd h (by omega)⟩
theorem es_of_own {w : World} {base n : Nat} {e : TypeId} {v : Value} {l : List E3} (h : w.ownsRow base e 3 v n (flatE l)) (hl : l.length = n) :
    ∃ a c, v = .slice a n c ∧ ES w a n l ∧ n ≤ c := by
  rcases h.2 with ⟨rfl, rfl⟩ | ⟨g, cap, cur, rfl, hb, hh, h1, h2, h3, h4⟩
  · exact ⟨none, 0, rfl, ⟨hl, fun h => absurd h (by omega)⟩, by omega⟩
  · refine ⟨_, cap, rfl, ⟨hl, fun _ => ⟨g, 0, rfl, fun i hi => ?_⟩⟩, h1⟩
    obtain ⟨f0, f1, f2⟩ := flatE_at (l := l) (i := i) (by omega)
    unfold At3
    rw [Nat.zero_add, h.cellAt (i * 3) (by omega), h.cellAt (i * 3 + 1) (by omega), h.cellAt (i * 3 + 2) (by omega)]
    exact ⟨f0, f1, f2⟩
end Go.Proofs.Ytacdgfihabjfkaa
