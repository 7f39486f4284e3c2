/- The smaller list while the law makes it; no conditions beyond those written in each theorem. -/
import Derived.Test.YteplmjgohnbpbaaFAm
import Derived.Test.YteplmjgohnbpbaaM26
import Derived.Test.YteplmjgohnbpbaaM25
import Derived.Test.YteplmjgohnbpbaaM27
import Derived.Test.YteplmjgohnbpbaaM23
import Derived.OwnWalk
namespace Go.Proofs.Yteplmjgohnbpbaa
open Go.ChangeShapes Go.WideShapes Go.ChangeAt Go.RowKit
set_option maxRecDepth 100000
/-- The table of numbers as it lies. -/
def tabI (t : List Int) : List Value := t.flatMap fun x => [Value.int .i64 x]
theorem tabI_map (t : List Int) : tabI t = t.map (Value.int .i64) := by
  unfold tabI
  induction t with
  | nil => rfl
  | cons a r ih => rw [List.flatMap_cons, ih]; rfl
theorem tabI_set (t : List Int) (m : Nat) (x : Int) : (tabI t).set m (.int .i64 x) = tabI (t.set m x) := by rw [tabI_map, tabI_map, List.map_set]
theorem tabI_at {t : List Int} {j : Nat} (h : j < t.length) : (tabI t)[j]? = some (.int .i64 (t.getD j 0)) := by
  rw [tabI_map, List.getElem?_map, List.getD_eq_getElem?_getD, List.getElem?_eq_getElem h]
  rfl
theorem make_tabI (n : Nat) (hn : n ≤ 65535) (w : World) : (Instr.makeSlice 32 (.int .i64 (n : Int)) (.int .i64 (n : Int))).run Try.prog w = .ok (.slice (some ⟨w.heap.size, 0, none⟩) n n) (w.alloc (.cells (tabI (List.replicate n 0)).toArray 3)) := by
  obtain ⟨i0, hi, hz0, hz1, hz2⟩ := info_parts info3z
  have := run_make (P := Try.prog) w 32 3 i0 _ Try.underlying32 hi hz0 .i64 .i64 n n (by omega) (Int.le_refl _) (by rw [hz2]; omega) (by omega)
  rw [this, hz1, Int.toNat_natCast]
  have e : madeCells (Value.int .i64 0).cells (n * 1) = ((List.replicate n (0 : Int)).flatMap fun x => [Value.int .i64 x]).toArray := made_flat (enc := fun x : Int => [Value.int .i64 x]) (fun _ => rfl) Nat.one_pos 0 n
  rw [e]
  rfl
theorem wpList_makeI {ops : Array Oper} {rest : List Oper} {op : Oper} {a : Act} {w : World} {Q : Exit → Act → World → Prop} (hg : op.guard = none) (l c : Operand) (t : TypeId) (hop : op.op = .makeSlice t l c) (x y : Value) (hl : a.eval l = x) (hc : a.eval c = y) (v : Value) (w' : World)
    (hrun : (Instr.makeSlice t x y).run Try.prog w = .ok v w') (hK : wpList Try.prog ops Q rest (a.put op.dst v) w') : wpList Try.prog ops Q (op :: rest) a w := by
  refine wpList_plain hg fun K hK' => ?_
  unfold Oper.wp
  simp [execOp, hop, hl, hc, hrun, Result.andThen]
  exact hK' _ _ hK
/-- x = append(x, y), with what else stays. -/
theorem wpList_pushJ {ops : Array Oper} {rest : List Oper} {op : Oper} {a : Act} {w : World} {Q : Exit → Act → World → Prop} (hgd : op.guard = none) (s x : Operand) (ho : op.op = .call { callee := .builtin .append, args := #[s, x], argTypes := #[32, 32] })
    (base : Nat) (v : Value) (l : List Int) (y : Int) (hs : a.eval s = v) (hx : a.eval x = .slice (some ⟨w.heap.size, 0, none⟩) 1 1) (hown : RI w base v l) (hl : l.length ≤ 1000000) (hb : base ≤ w.heap.size)
    (h : ∀ v' w', RI w' base v' (l ++ [y]) → (w.alloc (.cells #[.int .i64 y] 3)).grownBy w' v.ownBlock → wpList Try.prog ops Q rest (a.put op.dst v') w') : wpList Try.prog ops Q (op :: rest) a (w.alloc (.cells #[.int .i64 y] 3)) := by
  obtain ⟨i0, hi, hz0, hz1, hz2⟩ := info_parts info3z
  refine wpList_append_own (P := Try.prog) _ hgd s x 32 ho base 3 i0 (.int .i64 0) 1 8 Try.underlying32 hi hz0 hz1 hz2 rfl (by decide) v l.length (flatI l) hs (hown.alloc _) ⟨w.heap.size, 0, none⟩ 1 1 [.int .i64 y] hx rfl (one_at _ _ _) (by intro u hu; rw [List.mem_singleton] at hu; subst hu; rfl) (by unfold maxLen; omega) (by omega) (by simp; omega) ?_
  intro v' w' h1 h2 _
  refine h v' w' ?_ h2
  unfold RI
  rw [flatI_append, List.length_append]
  exact h1
/-- What the law knows while it makes the smaller list: the table, the list, the numbers, each in a block of its own. -/
structure AI (W wr : World) (tb : List Int) (u : Value) (L : List Nd) (q : Value) (I : List Int) : Prop where
  seen : Seen W wr
  tab : Blk wr W.heap.size (tabI tb) 3
  less : GR ndl 41 49 wr (W.heap.size + 1) u L
  nums : RI wr (W.heap.size + 1) q I
section
variable {W wr w' : World} {tb : List Int} {u q : Value} {L : List Nd} {I : List Int}
theorem AI.later (h : AI W wr tb u L q I) (hs : Seen wr w') : AI W w' tb u L q I := ⟨h.seen.trans hs, h.tab.seen hs, h.less.seen hs, h.nums.seen hs⟩
theorem AI.set (h : AI W wr tb u L q I) (k : Nat) (x : Int) : AI W (wr.setCell ⟨W.heap.size, k, none⟩ (.int .i64 x)) (tb.set k x) u L q I := by
  refine ⟨Below.setCell h.seen (Nat.le_refl _) _, ?_, h.less.far (Nat.lt_succ_self _) _ _, ?_⟩
  · have := h.tab.set k (.int .i64 x)
    rw [tabI_set] at this
    exact this
  · exact ownsRow_keeps h.nums (fun g hg => Below.heap_setCell wr _ _ g (fun e => by have := (h.nums.lt g hg).1; simp at e; omega))
/-- A row stays where another of another type grows. -/
theorem rowA_grown {w w' : World} {base base' : Nat} {e e' : TypeId} {size size' n m : Nat} {v v' : Value} {xs ys : List Value} {o : Obj} (hr : w.ownsRow base e size v n xs) (hv : w.ownsRow base' e' size' v' m ys) (hne : e ≠ e') (hg : (w.alloc o).grownBy w' v'.ownBlock) : w'.ownsRow base e size v n xs :=
  ownsRow_keeps hr fun g hgg => by
    have hlt := (hr.lt g hgg).2
    refine (hg.block g (by simp; omega) fun he => ?_).trans (Below.heap_alloc w _ _ hlt)
    obtain ⟨c1, h1⟩ := row_block hr hgg
    obtain ⟨c2, h2⟩ := row_block hv he.symm
    rw [h1] at h2
    simp at h2
    exact hne h2.2
theorem AI.grown (h : AI W wr tb u L q I) {o : Obj} {v : Value} (hv : ∀ g, v.ownBlock = some g → W.heap.size + 1 ≤ g) (hg : (wr.alloc o).grownBy w' v.ownBlock) : Seen W w' ∧ Blk w' W.heap.size (tabI tb) 3 := by
  refine ⟨(h.seen.alloc o).grown hg (by have := h.seen.size; simp; omega) (fun g hgg => by have := hv g hgg; omega), ?_⟩
  have hlt := h.tab.lt
  exact (hg.block _ (by simp; omega) fun e => by have := hv _ e.symm; omega).trans (h.tab.alloc o)
theorem AI.pushL (h : AI W wr tb u L q I) {o : Obj} {y : Nd} {u' : Value} (hr : GR ndl 41 49 w' (W.heap.size + 1) u' (L ++ [y])) (hg : (wr.alloc o).grownBy w' u.ownBlock) : AI W w' tb u' (L ++ [y]) q I := by
  obtain ⟨h1, h2⟩ := h.grown (fun g hgg => (h.less.lt g hgg).1) hg
  exact ⟨h1, h2, hr, rowA_grown h.nums h.less (by decide) hg⟩
theorem AI.pushI (h : AI W wr tb u L q I) {o : Obj} {y : Int} {q' : Value} (hr : RI w' (W.heap.size + 1) q' (I ++ [y])) (hg : (wr.alloc o).grownBy w' q.ownBlock) : AI W w' tb u L q' (I ++ [y]) := by
  obtain ⟨h1, h2⟩ := h.grown (fun g hgg => (h.nums.lt g hgg).1) hg
  exact ⟨h1, h2, rowA_grown h.less h.nums (by decide) hg, hr⟩
theorem AI.new (W : World) (tb : List Int) : AI W (W.alloc (.cells (tabI tb).toArray 3)) tb (.slice none 0 0) [] (.slice none 0 0) [] :=
  ⟨(Seen.refl W).alloc _, Blk.new W _ 3, GR.nil _ _, RI.nil _ _⟩
end
/-- The parent of a node in a block, stored. -/
theorem Hn.setP {w : World} {X : Nat} {x : Nd} (h : Hn w X x) (p : Int) : Hn (w.setCell ⟨X, 48, none⟩ (.int .i64 p)) X { x with p := p } := by
  have h1 : Blk w X (ndl x) 41 := h
  have h2 := h1.set 48 (.int .i64 p)
  have e : (ndl x).set 48 (.int .i64 p) = ndl { x with p := p } := by
    unfold ndl
    rw [List.set_append_right _ _ (by rw [x.full.len]; omega), x.full.len]
    rfl
  rw [e] at h2
  exact h2
/-! The table while the list is made. -/
def atL (l : List Nd) (k : Nat) : List Int := (List.range l.length).map fun j => if j < k ∧ keptB l (j : Int) = true then (ix l j : Int) else 0
theorem atL_length (l : List Nd) (k : Nat) : (atL l k).length = l.length := by simp [atL]
theorem atL_at {l : List Nd} {k j : Nat} (hj : j < l.length) : (atL l k).getD j 0 = if j < k ∧ keptB l (j : Int) = true then (ix l j : Int) else 0 := by
  unfold atL
  rw [List.getD_eq_getElem?_getD, List.getElem?_map, List.getElem?_range hj]
  rfl
theorem atL_zero (l : List Nd) : atL l 0 = List.replicate l.length 0 := by
  refine List.ext_getElem? fun i => ?_
  unfold atL
  rw [List.getElem?_map, List.getElem?_replicate]
  split
  · rename_i h
    rw [List.getElem?_range h]
    simp
  · rename_i h
    rw [List.getElem?_eq_none (by simpa using h)]
    rfl
theorem atL_skip {l : List Nd} {k : Nat} (h : keptB l (k : Int) = false) : atL l (k + 1) = atL l k := by
  unfold atL
  refine List.map_congr_left fun j _ => ?_
  rcases Nat.lt_trichotomy j k with h1 | h1 | h1
  · simp [h1, Nat.lt_succ_of_lt h1]
  · subst h1; simp [h]
  · rw [if_neg (by omega), if_neg (by omega)]
theorem atL_next {l : List Nd} {k : Nat} (h : keptB l (k : Int) = true) : atL l (k + 1) = (atL l k).set k (ix l k : Int) := by
  refine List.ext_getElem? fun i => ?_
  rw [List.getElem?_set]
  unfold atL
  rw [List.getElem?_map, List.getElem?_map, List.length_map, List.length_range]
  rcases Nat.lt_or_ge i l.length with h1 | h1
  · rw [List.getElem?_range h1]
    split
    · rename_i h2
      subst h2
      rw [if_pos h1]
      simp [h]
    · rename_i h2
      have e : (i < k + 1 ∧ keptB l (i : Int) = true) ↔ (i < k ∧ keptB l (i : Int) = true) := ⟨fun ⟨a, b⟩ => ⟨by omega, b⟩, fun ⟨a, b⟩ => ⟨by omega, b⟩⟩
      simp only [Option.map_some, e]
  · rw [List.getElem?_eq_none (by simpa using h1)]
    split
    · rw [if_neg (by omega)]; rfl
    · rfl
theorem atL_old {l : List Nd} {k q : Nat} (h : q < k) (hq : q < l.length) (hk : keptB l (q : Int) = true) (v : Int) : ((atL l k).set k v).getD q 0 = (ix l q : Int) := by
  rw [List.getD_eq_getElem?_getD, List.getElem?_set_ne (by omega), ← List.getD_eq_getElem?_getD, atL_at hq, if_pos ⟨h, hk⟩]
/-! What the law's inner loop finds. -/
def goneTo (l : List Nd) (k j : Nat) : Bool := !madeB l k || (List.range j).any fun i => outB l (upN l i k)
theorem gone_step (l : List Nd) (k j : Nat) : goneTo l k (j + 1) = (goneTo l k j || outB l (upN l j k)) := by
  unfold goneTo
  rw [List.range_succ, List.any_append, List.any_cons, List.any_nil, Bool.or_false, Bool.or_assoc]
theorem gone_zero (l : List Nd) (k : Nat) : goneTo l k 0 = !madeB l k := by simp [goneTo]
theorem gone_end {l : List Nd} (h : FormedT l) {k j : Nat} (hk : k < l.length) (h1 : ∀ i, i < j → 0 < upN l i k) (h2 : upN l j k ≤ 0) : goneTo l k j = !keptB l k := by
  obtain ⟨d1, d2⟩ := deep_spec (Nat.le_refl _) h.low (m := (k : Int)) (by omega) (by omega)
  unfold goneTo keptB
  rw [Bool.not_and]
  congr 1
  refine bool_iff ?_
  rw [List.any_eq_true, Bool.not_eq_true', decide_eq_false_iff_not]
  constructor
  · rintro ⟨i, hi, ho⟩ hall
    have hij := List.mem_range.1 hi
    have h3 := h1 i hij
    have h4 : i < deep l k := by
      rcases Nat.lt_or_ge i (deep l k) with h5 | h5
      · exact h5
      · have h6 := h.low.up (m := (k : Int)) (by omega) (by omega) (deep l k)
        have h7 := h.low.up (m := upN l (deep l k) k) h6.1 (by omega) (i - deep l k)
        rw [← upN_add, show deep l k + (i - deep l k) = i by omega] at h7
        omega
    have := hall i h4
    rw [ho] at this
    cases this
  · intro hn
    refine Classical.byContradiction fun hc => hn fun i hi => ?_
    cases ho : outB l (upN l i k) with
    | false => rfl
    | true =>
      exfalso
      refine hc ⟨i, List.mem_range.2 ?_, ho⟩
      have h3 : 0 < upN l i k := by
        unfold outB at ho
        rw [Bool.and_eq_true, decide_eq_true_iff] at ho
        exact ho.1
      rcases Nat.lt_or_ge i j with h5 | h5
      · exact h5
      · exfalso
        have h6 := h.low.up (m := (k : Int)) (by omega) (by omega) j
        have h7 := h.low.up (m := upN l j k) h6.1 (by omega) (i - j)
        rw [← upN_add, show j + (i - j) = i by omega] at h7
        omega
end Go.Proofs.Yteplmjgohnbpbaa
