/- Texts of the proof, merged: Nd. -/
import Derived.Test.YtlnnaegmcopiiaaM2
/- Nodes as data: their cells, steps up, depth, which lists are valid and within the limits, their bytes: plain mathematics. No conditions beyond those written in each theorem. -/
namespace Go.Proofs.Ytlnnaegmcopiiaa
open Go.ChangeShapes Go.WideShapes Go.ChangeAt Go.RowKit
set_option maxRecDepth 100000
/-- A node: its style, its parent. -/
structure Nd where
  s : Sty
  p : Int
  full : Full s
/-- The cells of a node. -/
def ndl (x : Nd) : List Value := stl x.s ++ [.int .i64 x.p]
theorem ndl_length (x : Nd) : (ndl x).length = 49 := by simp [ndl, x.full.len]
def zeroN : Nd := ⟨zeroS, 0, zero_full⟩
/-- Node i of a list. -/
def nd (l : List Nd) (i : Nat) : Nd := l.getD i zeroN
/-- The cells of nodes. -/
def flatN (l : List Nd) : List Value := l.flatMap ndl
theorem ndl_one (x : Nd) : ∀ u ∈ ndl x, u.oneCell' = true := by
  intro u hu
  rcases List.mem_append.1 hu with h | h
  · exact stl_one _ _ h
  · rw [List.mem_singleton] at h; subst h; rfl
theorem flatN_one (l : List Nd) : ∀ u ∈ flatN l, u.oneCell' = true := by
  intro u hu
  obtain ⟨x, _, hx⟩ := List.mem_flatMap.1 hu
  exact ndl_one x u hx
theorem flatN_append (l m : List Nd) : flatN (l ++ m) = flatN l ++ flatN m := by simp [flatN]
theorem flatN_length (l : List Nd) : (flatN l).length = l.length * 49 := by
  induction l with
  | nil => rfl
  | cons a l ih =>
    have e : flatN (a :: l) = ndl a ++ flatN l := rfl
    rw [e, List.length_append, ndl_length, ih, List.length_cons]; omega
theorem flatN_at (l : List Nd) {i : Nat} (h : i < l.length) {j : Nat} (hj : j < 49) : (flatN l)[i * 49 + j]? = (ndl (nd l i))[j]? := by
  induction l generalizing i with
  | nil => simp at h
  | cons a l ih =>
    have e : flatN (a :: l) = ndl a ++ flatN l := rfl
    cases i with
    | zero =>
      rw [e, List.getElem?_append_left (by rw [ndl_length]; omega), Nat.zero_mul, Nat.zero_add]; rfl
    | succ i =>
      have h' : i < l.length := by simpa using h
      have e2 : nd (a :: l) (i + 1) = nd l i := rfl
      rw [e, e2, List.getElem?_append_right (by rw [ndl_length]; omega), ndl_length, show (i + 1) * 49 + j - 49 = i * 49 + j by omega]
      exact ih h'
theorem ndl_par (x : Nd) : (ndl x)[48]? = some (.int .i64 x.p) := by
  unfold ndl
  rw [List.getElem?_append_right (by rw [x.full.len]; omega), x.full.len]; rfl
theorem nd_eq {l : List Nd} {i : Nat} (h : i < l.length) : nd l i = l[i] := by
  unfold nd; rw [List.getD_eq_getElem?_getD, List.getElem?_eq_getElem h]; rfl
theorem nd_append_left {l m : List Nd} {i : Nat} (h : i < l.length) : nd (l ++ m) i = nd l i := by
  unfold nd; rw [List.getD_eq_getElem?_getD, List.getD_eq_getElem?_getD, List.getElem?_append_left h]
theorem nd_last (l : List Nd) (x : Nd) : nd (l ++ [x]) l.length = x := by
  unfold nd; rw [List.getD_eq_getElem?_getD, List.getElem?_append_right (Nat.le_refl _)]; simp
theorem nd_take {l : List Nd} {n i : Nat} (h : i < n) : nd (l.take n) i = nd l i := by
  unfold nd; rw [List.getD_eq_getElem?_getD, List.getD_eq_getElem?_getD, List.getElem?_take_of_lt h]
/-- The parent of node n; nothing is above what is no node. -/
def par (l : List Nd) (n : Int) : Int := if n < 0 then -1 else (nd l n.toNat).p
/-- k steps up. -/
def upN (l : List Nd) : Nat → Int → Int
  | 0, n => n
  | k + 1, n => par l (upN l k n)
theorem upN_add (l : List Nd) (a b : Nat) (n : Int) : upN l (a + b) n = upN l b (upN l a n) := by
  induction b with
  | zero => rfl
  | succ b ih => show par l (upN l (a + b) n) = par l (upN l b (upN l a n)); rw [ih]
theorem par_neg {l : List Nd} {n : Int} (h : n < 0) : par l n = -1 := if_pos h
theorem par_nat (l : List Nd) (i : Nat) : par l (i : Int) = (nd l i).p := by
  unfold par; rw [if_neg (by omega)]; rfl
theorem par_at (l : List Nd) {n : Int} (h : 0 ≤ n) : par l n = (nd l n.toNat).p := if_neg (by omega)
/-- The parents of the first n nodes stand ahead of them. -/
def Low (l : List Nd) (n : Nat) : Prop := ∀ i, i < n → -1 ≤ (nd l i).p ∧ (nd l i).p < i
theorem Low.less {l : List Nd} {n m : Nat} (h : Low l n) (hm : m ≤ n) : Low l m := fun i hi => h i (by omega)
theorem Low.par {l : List Nd} {n : Nat} (h : Low l n) {m : Int} (h0 : 0 ≤ m) (hm : m < n) : -1 ≤ par l m ∧ par l m < m := by
  have := h m.toNat (by omega)
  rw [par_at l h0]
  omega
theorem Low.up {l : List Nd} {n : Nat} (h : Low l n) {m : Int} (h0 : -1 ≤ m) (hm : m < n) (k : Nat) : -1 ≤ upN l k m ∧ upN l k m ≤ m ∧ (0 ≤ upN l k m → upN l k m + k ≤ m) := by
  induction k with
  | zero => exact ⟨h0, Int.le_refl _, fun _ => by show m + ((0 : Nat) : Int) ≤ m; omega⟩
  | succ k ih =>
    obtain ⟨h1, h2, h3⟩ := ih
    show -1 ≤ Go.Proofs.Ytlnnaegmcopiiaa.par l (upN l k m) ∧ Go.Proofs.Ytlnnaegmcopiiaa.par l (upN l k m) ≤ m ∧ (0 ≤ Go.Proofs.Ytlnnaegmcopiiaa.par l (upN l k m) → Go.Proofs.Ytlnnaegmcopiiaa.par l (upN l k m) + ((k + 1 : Nat) : Int) ≤ m)
    rcases Int.lt_or_le (upN l k m) 0 with hn | hn
    · rw [par_neg hn]; omega
    · have h4 := h.par hn (by omega)
      have h5 := h3 hn
      omega
/-- The first number of which P holds, looked for below f. -/
def lst (P : Nat → Bool) : Nat → Nat
  | 0 => 0
  | f + 1 => if P 0 then 0 else lst (fun k => P (k + 1)) f + 1
theorem lst_is {P : Nat → Bool} {f k : Nat} (hk : k ≤ f) (h : P k = true) (hj : ∀ j, j < k → P j = false) : lst P f = k := by
  induction f generalizing P k with
  | zero => have : k = 0 := by omega
            subst this; rfl
  | succ f ih =>
    unfold lst
    cases k with
    | zero => rw [h]; rfl
    | succ k =>
      rw [hj 0 (by omega)]
      have := ih (P := fun k => P (k + 1)) (k := k) (by omega) h (fun j hj' => hj (j + 1) (by omega))
      rw [this]; rfl
theorem lst_spec {P : Nat → Bool} {f : Nat} (h : ∃ k, k ≤ f ∧ P k = true) : P (lst P f) = true ∧ (∀ j, j < lst P f → P j = false) ∧ lst P f ≤ f := by
  have key : ∀ n, ∀ k, k ≤ n → k ≤ f → P k = true → ∃ m, m ≤ k ∧ P m = true ∧ ∀ j, j < m → P j = false := by
    intro n
    induction n with
    | zero => intro k hk _ hp; exact ⟨k, Nat.le_refl _, hp, fun j hj => by omega⟩
    | succ n ih =>
      intro k hk hf hp
      by_cases he : ∃ j, j < k ∧ P j = true
      · obtain ⟨j, hj, hpj⟩ := he
        obtain ⟨m, h1, h2, h3⟩ := ih j (by omega) (by omega) hpj
        exact ⟨m, by omega, h2, h3⟩
      · refine ⟨k, Nat.le_refl _, hp, fun j hj => ?_⟩
        cases hc : P j with
        | false => rfl
        | true => exact absurd ⟨j, hj, hc⟩ he
  obtain ⟨k, hk, hp⟩ := h
  obtain ⟨m, h1, h2, h3⟩ := key k k (Nat.le_refl _) hk hp
  have e := lst_is (f := f) (by omega) h2 h3
  rw [e]
  exact ⟨h2, h3, by omega⟩
/-- How deep a node is. -/
def deep (l : List Nd) (n : Int) : Nat := lst (fun k => decide (upN l k n < 0)) (l.length + 1)
/-- The steps from n up to what is not behind a. -/
def stepsTo (l : List Nd) (n a : Int) : Nat := lst (fun k => decide (upN l k n ≤ a)) (l.length + 1)
section
variable {l : List Nd} {m : Int}
theorem deep_is {n : Nat} (hn : n ≤ l.length) (h : Low l n) (h0 : -1 ≤ m) (hm : m < n) {k : Nat} (hk : upN l k m < 0) (hj : ∀ j, j < k → 0 ≤ upN l j m) : deep l m = k := by
  refine lst_is ?_ (decide_eq_true hk) fun j hjk => decide_eq_false (by have := hj j hjk; omega)
  rcases Nat.eq_zero_or_pos k with e | e
  · omega
  · have h1 := (h.up h0 hm (k - 1)).2.2 (hj (k - 1) (by omega))
    have h2 := hj (k - 1) (by omega)
    omega
theorem deep_spec {n : Nat} (hn : n ≤ l.length) (h : Low l n) (h0 : -1 ≤ m) (hm : m < n) : upN l (deep l m) m < 0 ∧ ∀ j, j < deep l m → 0 ≤ upN l j m := by
  have := lst_spec (P := fun k => decide (upN l k m < 0)) (f := l.length + 1) ⟨l.length + 1, Nat.le_refl _, decide_eq_true (by
    rcases Int.lt_or_le (upN l (l.length + 1) m) 0 with h1 | h1
    · exact h1
    · have := (h.up h0 hm (l.length + 1)).2.2 h1
      omega)⟩
  refine ⟨of_decide_eq_true this.1, fun j hj => ?_⟩
  have := of_decide_eq_false (this.2.1 j hj)
  omega
theorem stepsTo_is {n : Nat} (hn : n ≤ l.length) (h : Low l n) (h0 : -1 ≤ m) (hm : m < n) {a : Int} (ha : -1 ≤ a) {k : Nat} (hk : upN l k m ≤ a) (hj : ∀ j, j < k → a < upN l j m) : stepsTo l m a = k := by
  refine lst_is ?_ (decide_eq_true hk) fun j hjk => decide_eq_false (by have := hj j hjk; omega)
  rcases Nat.eq_zero_or_pos k with e | e
  · omega
  · have h2 := hj (k - 1) (by omega)
    have h1 := (h.up h0 hm (k - 1)).2.2 (by omega)
    omega
theorem stepsTo_spec {n : Nat} (hn : n ≤ l.length) (h : Low l n) (h0 : -1 ≤ m) (hm : m < n) {a : Int} (ha : -1 ≤ a) : upN l (stepsTo l m a) m ≤ a ∧ ∀ j, j < stepsTo l m a → a < upN l j m := by
  have := lst_spec (P := fun k => decide (upN l k m ≤ a)) (f := l.length + 1) ⟨l.length + 1, Nat.le_refl _, decide_eq_true (by
    rcases Int.lt_or_le (upN l (l.length + 1) m) 0 with h1 | h1
    · omega
    · have := (h.up h0 hm (l.length + 1)).2.2 h1
      omega)⟩
  refine ⟨of_decide_eq_true this.1, fun j hj => ?_⟩
  have := of_decide_eq_false (this.2.1 j hj)
  omega
/-- Whether a is m or above it: by the steps to what is not behind it. -/
theorem above_iff {n : Nat} (hn : n ≤ l.length) (h : Low l n) (h0 : -1 ≤ m) (hm : m < n) {a : Int} (ha : 0 ≤ a) : upN l (stepsTo l m a) m = a ↔ ∃ k, upN l k m = a := by
  constructor
  · exact fun e => ⟨_, e⟩
  · rintro ⟨k, hk⟩
    have h1 := stepsTo_is hn h h0 hm (a := a) (by omega) (k := k) (by omega) (fun j hj => by
      have e : k = j + (k - j) := by omega
      have h2 := h.up h0 hm j
      rw [e, upN_add] at hk
      have h3 := (h.up h2.1 (by omega) (k - j)).2.2 (by omega)
      omega)
    rw [h1, hk]
theorem deep_up {n : Nat} (hn : n ≤ l.length) (h : Low l n) (h0 : -1 ≤ m) (hm : m < n) {k : Nat} (hj : ∀ j, j < k → 0 ≤ upN l j m) : deep l m = k + deep l (upN l k m) := by
  have h1 := h.up h0 hm k
  obtain ⟨h2, h3⟩ := deep_spec hn h h1.1 (by omega)
  refine deep_is hn h h0 hm (by rw [upN_add]; exact h2) fun j hjk => ?_
  rcases Nat.lt_or_ge j k with h4 | h4
  · exact hj j h4
  · have := h3 (j - k) (by omega)
    rw [← upN_add, show k + (j - k) = j by omega] at this
    exact this
theorem deep_le {n : Nat} (hn : n ≤ l.length) (h : Low l n) (h0 : -1 ≤ m) (hm : m < n) : (deep l m : Int) ≤ m + 1 := by
  obtain ⟨h1, h2⟩ := deep_spec hn h h0 hm
  rcases Nat.eq_zero_or_pos (deep l m) with e | e
  · omega
  · have h3 := h2 (deep l m - 1) (by omega)
    have h4 := (h.up h0 hm (deep l m - 1)).2.2 h3
    omega
end
/-- The parent of node i is that of a tree. -/
def okAt (l : List Nd) (i : Nat) : Prop := if i = 0 then (nd l 0).p = -1 else 0 ≤ (nd l i).p ∧ upN l (stepsTo l ((i : Int) - 1) (nd l i).p) ((i : Int) - 1) = (nd l i).p
instance (l : List Nd) (i : Nat) : Decidable (okAt l i) := by unfold okAt; infer_instance
theorem low_step {l : List Nd} {i : Nat} (hi : i < l.length) (hl : Low l i) (h : okAt l i) : Low l (i + 1) := by
  intro j hj
  rcases Nat.lt_or_ge j i with h1 | h1
  · exact hl j h1
  · obtain rfl : j = i := by omega
    unfold okAt at h
    split at h
    · rename_i e; subst e; rw [h]; omega
    · rename_i e
      obtain ⟨h2, h3⟩ := h
      have h4 := (hl.up (m := (j : Int) - 1) (by omega) (by omega) (stepsTo l ((j : Int) - 1) (nd l j).p))
      omega
theorem low_of {l : List Nd} {n : Nat} (hn : n ≤ l.length) (h : ∀ i, i < n → okAt l i) : Low l n := by
  induction n with
  | zero => exact fun i hi => absurd hi (by omega)
  | succ n ih => exact low_step (by omega) (ih (by omega) fun i hi => h i (by omega)) (h n (by omega))
/-- A list is valid. -/
def FormedT (l : List Nd) : Prop := 0 < l.length ∧ ∀ i, i < l.length → okAt l i ∧ formedB (nd l i).s = true
instance (l : List Nd) : Decidable (FormedT l) := by unfold FormedT; infer_instance
def formedT (l : List Nd) : Bool := decide (FormedT l)
/-- It is within the limits. -/
def WithinT (l : List Nd) : Prop := l.length ≤ 65535 ∧ ∀ i, i < l.length → (deep l i ≤ 256 ∧ withinB (nd l i).s = true)
instance (l : List Nd) : Decidable (WithinT l) := by unfold WithinT; infer_instance
def withinT (l : List Nd) : Bool := decide (WithinT l)
/-- What is wrong with it. -/
def checkT (l : List Nd) : Int := if formedT l then (if withinT l then 0 else 3) else 2
theorem FormedT.low {l : List Nd} (h : FormedT l) : Low l l.length := low_of (Nat.le_refl _) fun i hi => (h.2 i hi).1
/-- The steps that are written ahead of node i. -/
def stepsAt (l : List Nd) (i : Nat) : Nat := stepsTo l ((i : Int) - 1) (nd l i).p
theorem ok_pos {l : List Nd} {i : Nat} (hi : 0 < i) (h : okAt l i) : 0 ≤ (nd l i).p ∧ upN l (stepsAt l i) ((i : Int) - 1) = (nd l i).p := by
  unfold okAt at h
  rw [if_neg (by omega)] at h
  exact h
theorem deep_next {l : List Nd} {i : Nat} (h0 : 0 < i) (hi : i < l.length) (hl : Low l (i + 1)) (h : okAt l i) : deep l ((i : Int) - 1) + 1 = deep l i + stepsAt l i ∧ stepsAt l i ≤ i - 1 := by
  obtain ⟨h1, h2⟩ := ok_pos h0 h
  have hs := (stepsTo_spec (m := (i : Int) - 1) (n := i + 1) (by omega) hl (by omega) (by omega) (a := (nd l i).p) (by omega)).2
  have h3 := deep_up (m := (i : Int) - 1) (n := i + 1) (by omega) hl (by omega) (by omega) (k := stepsAt l i) (fun j hj => by have := hs j hj; omega)
  rw [h2] at h3
  have h4 := deep_up (m := (i : Int)) (n := i + 1) (by omega) hl (by omega) (by omega) (k := 1) (fun j hj => by
    obtain rfl : j = 0 := by omega
    show (0 : Int) ≤ i; omega)
  have e : upN l 1 (i : Int) = (nd l i).p := par_nat l i
  rw [e] at h4
  have h5 := (hl.up (m := (i : Int) - 1) (by omega) (by omega) (stepsAt l i)).2.2 (by omega)
  omega
theorem deep_zero {l : List Nd} (h0 : 0 < l.length) (h : okAt l 0) : deep l (0 : Nat) = 1 := by
  have hp : (nd l 0).p = -1 := by unfold okAt at h; rwa [if_pos rfl] at h
  have hl : Low l 1 := low_step (l := l) (i := 0) h0 (fun i hi => absurd hi (by omega)) h
  refine deep_is (n := 1) (by omega) hl (by omega) (by omega) (k := 1) ?_ fun j hj => ?_
  · show par l ((0 : Nat) : Int) < 0
    rw [par_nat, hp]; omega
  · obtain rfl : j = 0 := by omega
    show (0 : Int) ≤ ((0 : Nat) : Int); omega
/-- The bytes of node i. -/
def nodeB (l : List Nd) (i : Nat) : List Int := (if i = 0 then [] else be (stepsAt l i) 4) ++ encS (nd l i).s
/-- The bytes of the first k nodes, behind the number of all. -/
def outT (l : List Nd) (k : Nat) : List Int := be l.length 4 ++ (List.range k).flatMap (nodeB l)
def encT (l : List Nd) : List Int := outT l l.length
theorem outT_step (l : List Nd) (k : Nat) : outT l (k + 1) = outT l k ++ nodeB l k := by
  unfold outT
  rw [List.range_succ, List.flatMap_append, List.append_assoc]
  simp
theorem nodeB_ok (l : List Nd) (i : Nat) : Bytes8 (nodeB l i) := by
  unfold nodeB
  refine Bytes8.append ?_ (encS_ok _)
  split
  · exact Bytes8.nil
  · exact be_ok _ 4
theorem nodeB_len (l : List Nd) (i : Nat) : (nodeB l i).length ≤ 223 := by
  unfold nodeB
  have := encS_len (nd l i).full
  rw [List.length_append]
  split
  · simp; omega
  · rw [be_length]; omega
theorem outT_ok (l : List Nd) (k : Nat) : Bytes8 (outT l k) := (be_ok _ 4).append (flat_ok (nodeB_ok l) _)
theorem outT_len (l : List Nd) (k : Nat) : (outT l k).length ≤ 4 + 223 * k := by
  unfold outT
  have := flat_len (f := nodeB l) (m := 223) (nodeB_len l) (List.range k)
  rw [List.length_range] at this
  rw [List.length_append, be_length]; omega
end Go.Proofs.Ytlnnaegmcopiiaa
