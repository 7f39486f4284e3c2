/- Plain mathematics of entries: their order; a list in which no entry is ahead of its parent; what one step of a heap's two loops does to it. No program in it. -/
import Derived.Test.YtacdgfihabjfkaaBase
namespace Go.Proofs.Ytacdgfihabjfkaa
/-- Element i of a list of entries. -/
def eat (l : List E3) (i : Nat) : E3 := l.getD i ⟨0, 0, 0⟩
theorem eat_eq {l : List E3} {i : Nat} (h : i < l.length) : eat l i = l[i] := by
  unfold eat; rw [List.getD_eq_getElem?_getD, List.getElem?_eq_getElem h]; rfl
theorem eat_mem {l : List E3} {i : Nat} (h : i < l.length) : eat l i ∈ l := by rw [eat_eq h]; exact List.getElem_mem h
theorem mem_eat {l : List E3} {x : E3} (h : x ∈ l) : ∃ i, i < l.length ∧ eat l i = x := by
  obtain ⟨i, hi, e⟩ := List.getElem_of_mem h
  exact ⟨i, hi, by rw [eat_eq hi]; exact e⟩
theorem eat_append {l m : List E3} {i : Nat} (h : i < l.length) : eat (l ++ m) i = eat l i := by
  unfold eat; rw [List.getD_eq_getElem?_getD, List.getD_eq_getElem?_getD, List.getElem?_append_left h]
theorem eat_last (l : List E3) (x : E3) : eat (l ++ [x]) l.length = x := by
  unfold eat; simp
theorem eat_take {l : List E3} {n i : Nat} (h : i < n) : eat (l.take n) i = eat l i := by
  unfold eat; rw [List.getD_eq_getElem?_getD, List.getD_eq_getElem?_getD, List.getElem?_take, if_pos h]
theorem eat_drop (l : List E3) (q k : Nat) : eat (l.drop q) k = eat l (q + k) := by
  unfold eat; rw [List.getD_eq_getElem?_getD, List.getD_eq_getElem?_getD, List.getElem?_drop]
/-- The first is not behind the second. -/
def leE (a b : E3) : Prop := ltE b a = false
theorem ltE_iff (a b : E3) : ltE a b = true ↔ (a.k < b.k ∨ a.k = b.k ∧ (a.t < b.t ∨ a.t = b.t ∧ a.n < b.n)) := by unfold ltE; rw [decide_eq_true_eq]
theorem leE_iff (a b : E3) : leE a b ↔ ¬ (b.k < a.k ∨ b.k = a.k ∧ (b.t < a.t ∨ b.t = a.t ∧ b.n < a.n)) := by
  unfold leE ltE; rw [decide_eq_false_iff_not]
theorem leE_refl (a : E3) : leE a a := by rw [leE_iff]; omega
theorem leE_trans {a b c : E3} (h : leE a b) (k : leE b c) : leE a c := by rw [leE_iff] at *; omega
theorem leE_of_lt {a b : E3} (h : ltE a b = true) : leE a b := by rw [leE_iff]; rw [ltE_iff] at h; omega
theorem leE_antisymm {a b : E3} (h : leE a b) (k : leE b a) : a = b := by
  rw [leE_iff] at h k
  obtain ⟨a1, a2, a3⟩ := a
  obtain ⟨b1, b2, b3⟩ := b
  simp only [E3.mk.injEq] at *
  omega
theorem cI_cases (a b : Int) : (a < b ∧ cI a b = -1) ∨ (a = b ∧ cI a b = 0) ∨ (b < a ∧ cI a b = 1) := by
  unfold cI
  split
  · exact .inl ⟨by omega, rfl⟩
  · split
    · exact .inr (.inr ⟨by omega, rfl⟩)
    · exact .inr (.inl ⟨by omega, rfl⟩)
theorem cmpE_neg (a b : E3) : cmpE a b < 0 ↔ ltE a b = true := by
  rw [ltE_iff]; unfold cmpE orI
  rcases cI_cases a.k b.k with ⟨h1, e1⟩ | ⟨h1, e1⟩ | ⟨h1, e1⟩ <;> rcases cI_cases a.t b.t with ⟨h2, e2⟩ | ⟨h2, e2⟩ | ⟨h2, e2⟩ <;> rcases cI_cases a.n b.n with ⟨h3, e3⟩ | ⟨h3, e3⟩ | ⟨h3, e3⟩ <;> simp only [e1, e2, e3] <;> simp <;> omega
theorem cmpE_pos (a b : E3) : 0 < cmpE a b ↔ ltE b a = true := by
  rw [ltE_iff]; unfold cmpE orI
  rcases cI_cases a.k b.k with ⟨h1, e1⟩ | ⟨h1, e1⟩ | ⟨h1, e1⟩ <;> rcases cI_cases a.t b.t with ⟨h2, e2⟩ | ⟨h2, e2⟩ | ⟨h2, e2⟩ <;> rcases cI_cases a.n b.n with ⟨h3, e3⟩ | ⟨h3, e3⟩ | ⟨h3, e3⟩ <;> simp only [e1, e2, e3] <;> simp <;> omega
theorem cmpE_range (a b : E3) : cmpE a b = -1 ∨ cmpE a b = 0 ∨ cmpE a b = 1 := by
  unfold cmpE orI
  rcases cI_cases a.k b.k with ⟨h1, e1⟩ | ⟨h1, e1⟩ | ⟨h1, e1⟩ <;> rcases cI_cases a.t b.t with ⟨h2, e2⟩ | ⟨h2, e2⟩ | ⟨h2, e2⟩ <;> rcases cI_cases a.n b.n with ⟨h3, e3⟩ | ⟨h3, e3⟩ | ⟨h3, e3⟩ <;> simp only [e1, e2, e3] <;> simp
theorem lt_decide (a b : E3) : decide (cmpE a b < 0) = ltE a b := by
  cases h : ltE a b
  · rw [decide_eq_false_iff_not, cmpE_neg, h]; simp
  · rw [decide_eq_true_eq, cmpE_neg, h]

/-- Two places exchanged. -/
def swapE (l : List E3) (i j : Nat) : List E3 := (l.set i (eat l j)).set j (eat l i)
theorem swapE_length (l : List E3) (i j : Nat) : (swapE l i j).length = l.length := by simp [swapE]
theorem eat_set {l : List E3} {i : Nat} (h : i < l.length) (x : E3) (k : Nat) : eat (l.set i x) k = if k = i then x else eat l k := by
  unfold eat
  rw [List.getD_eq_getElem?_getD, List.getD_eq_getElem?_getD, List.getElem?_set]
  by_cases hk : k = i
  · subst hk; simp [h]
  · rw [if_neg (fun e => hk e.symm), if_neg hk]
theorem eat_swap {l : List E3} {i j : Nat} (hi : i < l.length) (hj : j < l.length) (k : Nat) : eat (swapE l i j) k = if k = j then eat l i else if k = i then eat l j else eat l k := by
  unfold swapE
  rw [eat_set (by simpa using hj), eat_set hi]
theorem swapE_perm {l : List E3} {i j : Nat} (hi : i < l.length) (hj : j < l.length) : (swapE l i j).Perm l := by
  have h := Array.swap_perm (xs := l.toArray) (i := i) (j := j) (by simpa using hi) (by simpa using hj)
  have h2 := Array.perm_iff_toList_perm.1 h
  rw [Array.swap_def] at h2
  simpa [swapE, eat_eq hi, eat_eq hj] using h2

/-- A place's parent. -/
def par (i : Nat) : Nat := (i - 1) / 2
/-- Among the first n no entry is ahead of its parent. -/
def HeapP (l : List E3) (n : Nat) : Prop := ∀ i, 0 < i → i < n → leE (eat l (par i)) (eat l i)
/-- .. but for the one at j, which may be ahead of its parent. -/
def UpInv (l : List E3) (j : Nat) : Prop :=
  j < l.length ∧ (∀ i, 0 < i → i < l.length → i ≠ j → leE (eat l (par i)) (eat l i)) ∧ (∀ i, 0 < i → i < l.length → par i = j → 0 < j → leE (eat l (par j)) (eat l i))
theorem up_start {l : List E3} (h : HeapP l l.length) (x : E3) : UpInv (l ++ [x]) l.length := by
  refine ⟨by simp, fun i h0 hi hne => ?_, fun i h0 hi hp _ => ?_⟩
  · have hi' : i < l.length := by simp at hi; omega
    have hp : par i < l.length := by unfold par; omega
    rw [eat_append hi', eat_append hp]
    exact h i h0 hi'
  · simp at hi; unfold par at hp; omega
theorem up_end {l : List E3} {j : Nat} (h : UpInv l j) (he : j = 0 ∨ ltE (eat l j) (eat l (par j)) = false) : HeapP l l.length := by
  intro i h0 hi
  by_cases hij : i = j
  · subst hij
    rcases he with h1 | h1
    · omega
    · exact h1
  · exact h.2.1 i h0 hi hij
theorem up_step {l : List E3} {j : Nat} (h : UpInv l j) (h0 : 0 < j) (hl : ltE (eat l j) (eat l (par j)) = true) : UpInv (swapE l (par j) j) (par j) := by
  obtain ⟨hj, h1, h2⟩ := h
  have hp : par j < j := by unfold par; omega
  have hpl : par j < l.length := by omega
  have S := eat_swap hpl hj
  have hle := leE_of_lt hl
  refine ⟨by rw [swapE_length]; exact hpl, fun k k0 hk hne => ?_, fun k k0 hk hpk q0 => ?_⟩
  · rw [swapE_length] at hk
    rw [S, S]
    have hpk : par k < k := by unfold par; omega
    by_cases e1 : k = j
    · subst e1
      rw [if_neg (by omega), if_pos rfl, if_pos rfl]; exact hle
    · rw [if_neg e1, if_neg hne]
      have hk1 := h1 k k0 hk e1
      by_cases e2 : par k = j
      · rw [if_pos e2]; exact h2 k k0 hk e2 h0
      · rw [if_neg e2]
        by_cases e3 : par k = par j
        · rw [if_pos e3]; rw [e3] at hk1; exact leE_trans hle hk1
        · rw [if_neg e3]; exact hk1
  · rw [swapE_length] at hk
    rw [S, S]
    have hpp : par (par j) < par j := by unfold par at *; omega
    have hpk' : par k < k := by unfold par; omega
    rw [if_neg (by omega), if_neg (by omega)]
    have g := h1 (par j) q0 hpl (by omega)
    by_cases e1 : k = j
    · rw [if_pos e1]; exact g
    · rw [if_neg e1, if_neg (by omega)]
      have hk1 := h1 k k0 hk e1
      rw [hpk] at hk1
      exact leE_trans g hk1
/-- Among the first n no entry is ahead of its parent, but for the children of i. -/
def DownInv (l : List E3) (n i : Nat) : Prop :=
  (∀ k, 0 < k → k < n → par k ≠ i → leE (eat l (par k)) (eat l k)) ∧ (∀ k, 0 < k → k < n → par k = i → 0 < i → leE (eat l (par i)) (eat l k))
theorem down_start {l : List E3} {n : Nat} (h : ∀ k, 0 < k → k < n → par k ≠ 0 → leE (eat l (par k)) (eat l k)) : DownInv l n 0 := ⟨h, fun _ _ _ _ h => absurd h (by omega)⟩
theorem down_none {l : List E3} {n i : Nat} (h : DownInv l n i) (he : n ≤ 2 * i + 1) : HeapP l n := by
  intro k k0 hk
  exact h.1 k k0 hk (by unfold par; omega)
/-- j is the lesser child of i. -/
def Lesser (l : List E3) (n i j : Nat) : Prop := j < n ∧ par j = i ∧ 0 < j ∧ ∀ k, 0 < k → k < n → par k = i → leE (eat l j) (eat l k)
theorem lesser_one {l : List E3} {n i : Nat} (h : 2 * i + 1 < n) (h2 : ¬ 2 * i + 2 < n) : Lesser l n i (2 * i + 1) := by
  refine ⟨h, by unfold par; omega, by omega, fun k k0 hk hp => ?_⟩
  have : k = 2 * i + 1 := by unfold par at hp; omega
  rw [this]; exact leE_refl _
theorem lesser_left {l : List E3} {n i : Nat} (h : 2 * i + 1 < n) (h2 : ltE (eat l (2 * i + 2)) (eat l (2 * i + 1)) = false) : Lesser l n i (2 * i + 1) := by
  refine ⟨h, by unfold par; omega, by omega, fun k k0 hk hp => ?_⟩
  have : k = 2 * i + 1 ∨ k = 2 * i + 2 := by unfold par at hp; omega
  rcases this with e | e
  · rw [e]; exact leE_refl _
  · rw [e]; exact h2
theorem lesser_right {l : List E3} {n i : Nat} (h : 2 * i + 2 < n) (h2 : ltE (eat l (2 * i + 2)) (eat l (2 * i + 1)) = true) : Lesser l n i (2 * i + 2) := by
  refine ⟨h, by unfold par; omega, by omega, fun k k0 hk hp => ?_⟩
  have : k = 2 * i + 1 ∨ k = 2 * i + 2 := by unfold par at hp; omega
  rcases this with e | e
  · rw [e]; exact leE_of_lt h2
  · rw [e]; exact leE_refl _
theorem down_end {l : List E3} {n i j : Nat} (h : DownInv l n i) (hj : Lesser l n i j) (hl : ltE (eat l j) (eat l i) = false) : HeapP l n := by
  intro k k0 hk
  by_cases e : par k = i
  · rw [e]; exact leE_trans (show leE (eat l i) (eat l j) from hl) (hj.2.2.2 k k0 hk e)
  · exact h.1 k k0 hk e
theorem down_step {l : List E3} {n i j : Nat} (hn : n ≤ l.length) (h : DownInv l n i) (hj : Lesser l n i j) (hl : ltE (eat l j) (eat l i) = true) : DownInv (swapE l i j) n j := by
  obtain ⟨hjn, hpj, j0, hmin⟩ := hj
  have hij : i < j := by unfold par at hpj; omega
  have S := eat_swap (l := l) (i := i) (j := j) (by omega) (by omega)
  have hle := leE_of_lt hl
  refine ⟨fun k k0 hk hne => ?_, fun k k0 hk hp _ => ?_⟩
  · rw [S, S]
    have hpk : par k < k := by unfold par; omega
    rw [if_neg hne]
    by_cases e1 : par k = i
    · rw [if_pos e1]
      by_cases e2 : k = j
      · rw [if_pos e2]; exact hle
      · rw [if_neg e2, if_neg (by omega)]; exact hmin k k0 hk e1
    · rw [if_neg e1]
      have e2 : k ≠ j := fun e => e1 (by rw [e]; exact hpj)
      rw [if_neg e2]
      by_cases e3 : k = i
      · rw [if_pos e3]; rw [e3]; exact h.2 j j0 hjn hpj (by omega)
      · rw [if_neg e3]; exact h.1 k k0 hk e1
  · rw [S, S]
    have hpk : par k < k := by unfold par; omega
    rw [hpj, if_neg (by omega), if_pos rfl, if_neg (by omega), if_neg (by omega)]
    have := h.1 k k0 hk (by omega)
    rw [hp] at this; exact this
theorem heap_least {l : List E3} (h : HeapP l l.length) : ∀ i, i < l.length → leE (eat l 0) (eat l i) := by
  intro i
  induction i using Nat.strongRecOn with
  | _ i ih =>
    intro hi
    by_cases h0 : i = 0
    · rw [h0]; exact leE_refl _
    · exact leE_trans (ih (par i) (by unfold par; omega) (by unfold par; omega)) (h i (by omega) hi)
theorem heap_least_mem {l : List E3} (h : HeapP l l.length) : ∀ x ∈ l, leE (eat l 0) x := by
  intro x hx
  obtain ⟨i, hi, rfl⟩ := mem_eat hx
  exact heap_least h i hi
/-- The first exchanged with the last: what a heap's Pop begins with. -/
theorem pop_start {l : List E3} {n : Nat} (hl : l.length = n + 1) (h : HeapP l l.length) : DownInv (swapE l 0 n) n 0 := by
  refine down_start fun k k0 hk hp => ?_
  have S := eat_swap (l := l) (i := 0) (j := n) (by omega) (by omega)
  have hpk : par k < k := by unfold par; omega
  rw [S, S, if_neg (by omega), if_neg hp, if_neg (by omega), if_neg (by omega)]
  exact h k k0 (by omega)
theorem pop_last {l : List E3} {n : Nat} (hl : l.length = n + 1) : eat (swapE l 0 n) n = eat l 0 := by
  rw [eat_swap (by omega) (by omega), if_pos rfl]
theorem heap_take {l : List E3} {n : Nat} (hn : n ≤ l.length) (h : HeapP l n) : HeapP (l.take n) (l.take n).length := by
  intro i h0 hi
  rw [List.length_take, Nat.min_eq_left hn] at hi
  rw [eat_take (by unfold par; omega), eat_take hi]
  exact h i h0 hi
theorem take_last {l : List E3} {n : Nat} (hl : l.length = n + 1) : l.take n ++ [eat l n] = l := by
  rw [eat_eq (by omega)]
  have h := List.take_append_getElem (l := l) (i := n) (by omega)
  rw [h, List.take_of_length_le (by omega)]
/-- What is left when the least one is taken. -/
theorem pop_perm {l l2 : List E3} {n : Nat} (hl : l.length = n + 1) (hp : l2.Perm (swapE l 0 n)) (hlast : eat l2 n = eat l 0) : l.Perm (eat l 0 :: l2.take n) := by
  have h2 : l2.length = n + 1 := by rw [hp.length_eq, swapE_length, hl]
  have h3 := take_last h2
  rw [hlast] at h3
  exact ((hp.trans (swapE_perm (by omega) (by omega))).symm.trans (by rw [← h3, List.take_append_of_le_length (by rw [List.length_take]; omega), List.take_take, Nat.min_self]; exact List.perm_append_comm))
end Go.Proofs.Ytacdgfihabjfkaa
