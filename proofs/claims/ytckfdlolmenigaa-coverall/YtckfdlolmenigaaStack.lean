/- Plain mathematics: pieces on a stack, each with the number of the elements that have been subtracted from it. -/
import Derived.Test.YtckfdlolmenigaaRest
namespace Go.Proofs.Ytckfdlolmenigaa
/-- They have a point in common. -/
def meetsB (a b : R4) : Bool := !emptyB (meetR a b)
/-- The first of l that meets r, or l's length. -/
def fmN (r : R4) (l : List R4) : Nat := l.findIdx (meetsB r)
theorem fmN_le (r : R4) (l : List R4) : fmN r l ≤ l.length := List.findIdx_le_length
theorem fmN_at {r : R4} {l : List R4} {k : Nat} (hk : k < l.length) (hm : meetsB r (rat l k) = true) (hb : ∀ i, i < k → meetsB r (rat l i) = false) : fmN r l = k := by
  unfold fmN
  rw [List.findIdx_eq hk]
  refine ⟨by rw [← rat_eq hk]; exact hm, fun j hj => by rw [← rat_eq]; exact hb j hj⟩
theorem fmN_end {r : R4} {l : List R4} (hb : ∀ i, i < l.length → meetsB r (rat l i) = false) : fmN r l = l.length := by
  unfold fmN
  rw [List.findIdx_eq_length]
  intro x hx
  obtain ⟨i, hi, rfl⟩ := List.getElem_of_mem hx
  rw [← rat_eq hi]; exact hb i hi
theorem fmN_none {r : R4} {l : List R4} {k : Nat} (hk : k < fmN r l) : meetsB r (rat l k) = false := by
  have hl : k < l.length := Nat.lt_of_lt_of_le hk (fmN_le r l)
  rw [rat_eq hl]
  have := List.not_of_lt_findIdx hk
  simpa using this
theorem fmN_hit {r : R4} {l : List R4} (hk : fmN r l < l.length) : meetsB r (rat l (fmN r l)) = true := by
  rw [rat_eq hk]
  exact List.findIdx_getElem
theorem cut_apart {a b : R4} (h : emptyB a = false) (hm : meetsB a b = false) : cutL a b = [a] := by
  unfold cutL
  have : emptyB (meetR a b) = true := by unfold meetsB at hm; simpa using hm
  rw [h, this]; rfl
theorem rest_skip {r : R4} (h : emptyB r = false) : ∀ l, restL r l = if fmN r l < l.length then (cutL r (rat l (fmN r l))).flatMap (fun p => restL p (l.drop (fmN r l + 1))) else [r]
  | [] => by simp [restL]
  | b :: l => by
    cases hm : meetsB r b with
    | true =>
      have e : fmN r (b :: l) = 0 := by unfold fmN; rw [List.findIdx_cons, hm]; rfl
      rw [e]; simp [restL, rat]
    | false =>
      have e : fmN r (b :: l) = fmN r l + 1 := by unfold fmN; rw [List.findIdx_cons, hm]; rfl
      rw [e, restL, cut_apart h hm, List.flatMap_cons, List.flatMap_nil, List.append_nil, rest_skip h l]
      have e2 : rat (b :: l) (fmN r l + 1) = rat l (fmN r l) := by simp [rat]
      simp only [List.length_cons, Nat.add_lt_add_iff_right, e2, List.drop_succ_cons]
theorem rat_drop (l : List R4) (q k : Nat) : rat (l.drop q) k = rat l (q + k) := by
  unfold rat; simp [List.getD_eq_getElem?_getD, List.getElem?_drop]
/-- A piece's answer: it is done, or it is cut by the next that meets it. -/
theorem piece_done {r : R4} {l : List R4} {q : Nat} (h : emptyB r = false) (hq : q ≤ l.length) (hd : l.length ≤ q + fmN r (l.drop q)) : restL r (l.drop q) = [r] := by
  rw [rest_skip h, if_neg (by rw [List.length_drop]; omega)]
theorem piece_cut {r : R4} {l : List R4} {q k : Nat} (h : emptyB r = false) (hk : k = q + fmN r (l.drop q)) (hd : k < l.length) : restL r (l.drop q) = (cutL r (rat l k)).flatMap (fun p => restL p (l.drop (k + 1))) := by
  rw [rest_skip h, if_pos (by rw [List.length_drop]; omega), rat_drop, ← hk, List.drop_drop]
  have : q + (fmN r (l.drop q) + 1) = k + 1 := by omega
  rw [this]
/-- What a stack, bottom first, will still give. -/
def outS (l : List R4) (s : List (R4 × Nat)) : List R4 := s.reverse.flatMap fun p => restL p.1 (l.drop p.2)
theorem out_top (l : List R4) (s : List (R4 × Nat)) (r : R4) (q : Nat) : outS l (s ++ [(r, q)]) = restL r (l.drop q) ++ outS l s := by
  unfold outS; rw [List.reverse_append]; simp
theorem out_push (l : List R4) (s : List (R4 × Nat)) (ps : List R4) (k : Nat) : outS l (s ++ ps.reverse.map fun r => (r, k)) = ps.flatMap (fun r => restL r (l.drop k)) ++ outS l s := by
  unfold outS; rw [List.reverse_append, List.flatMap_append, ← List.map_reverse, List.reverse_reverse, List.flatMap_map]
def wgt (n : Nat) (s : List (R4 × Nat)) : Nat := (s.map fun p => 5 ^ (n - p.2)).sum
theorem wgt_append (n : Nat) (s t : List (R4 × Nat)) : wgt n (s ++ t) = wgt n s + wgt n t := by unfold wgt; rw [List.map_append, List.sum_append]
theorem wgt_pop (n : Nat) (s : List (R4 × Nat)) (p : R4 × Nat) : wgt n s < wgt n (s ++ [p]) := by
  rw [wgt_append]
  have : 0 < 5 ^ (n - p.2) := Nat.pow_pos (by decide)
  simp [wgt]; exact Nat.pow_pos (by decide)
theorem wgt_parts (n k : Nat) (ps : List R4) : wgt n (ps.reverse.map fun r => (r, k)) = ps.length * 5 ^ (n - k) := by
  unfold wgt
  rw [List.map_map]
  have : (((fun p : R4 × Nat => 5 ^ (n - p.2)) ∘ fun r => (r, k)) : R4 → Nat) = fun _ => 5 ^ (n - k) := rfl
  rw [this, List.map_const', List.sum_replicate_nat, List.length_reverse]
theorem wgt_push {n q k : Nat} {s : List (R4 × Nat)} {r : R4} {ps : List R4} (hq : q ≤ k) (hk : k < n) (hp : ps.length ≤ 4) : wgt n (s ++ ps.reverse.map fun r => (r, k + 1)) < wgt n (s ++ [(r, q)]) := by
  rw [wgt_append, wgt_append, wgt_parts]
  have h1 : wgt n [(r, q)] = 5 ^ (n - q) := by simp [wgt]
  rw [h1]
  have h2 : 5 ^ (n - q) = 5 ^ (k - q) * 5 ^ (n - (k + 1)) * 5 := by
    rw [← Nat.pow_add, ← Nat.pow_succ]; congr 1; omega
  have h3 : 1 ≤ 5 ^ (k - q) := Nat.pow_pos (by decide)
  have h4 : 1 ≤ 5 ^ (n - (k + 1)) := Nat.pow_pos (by decide)
  have h5 : ps.length * 5 ^ (n - (k + 1)) ≤ 4 * 5 ^ (n - (k + 1)) := Nat.mul_le_mul_right _ hp
  have h6 : 1 * 5 ^ (n - (k + 1)) ≤ 5 ^ (k - q) * 5 ^ (n - (k + 1)) := Nat.mul_le_mul_right _ h3
  rw [h2]; omega
/-- A stack as the loop keeps it: no piece is empty; a piece lies at most three times its number above the bottom. -/
def StkOk (n : Nat) (s : List (R4 × Nat)) : Prop := (∀ p ∈ s, emptyB p.1 = false ∧ p.2 ≤ n) ∧ ∀ i p, s[i]? = some p → i ≤ 3 * p.2
theorem stk_start {n : Nat} {r : R4} (h : emptyB r = false) : StkOk n [(r, 0)] := by
  refine ⟨fun p hp => ?_, fun i p hp => ?_⟩
  · simp at hp; subst hp; exact ⟨h, Nat.zero_le _⟩
  · cases i with
    | zero => omega
    | succ i => simp at hp
theorem stk_pop {n : Nat} {s : List (R4 × Nat)} {r : R4} {q : Nat} (h : StkOk n (s ++ [(r, q)])) : StkOk n s ∧ emptyB r = false ∧ q ≤ n ∧ s.length ≤ 3 * q := by
  refine ⟨⟨fun p hp => h.1 p (List.mem_append_left _ hp), fun i p hp => h.2 i p ?_⟩, ?_, ?_, ?_⟩
  · rw [List.getElem?_append_left (List.getElem?_eq_some_iff.1 hp).1]; exact hp
  · exact (h.1 (r, q) (by simp)).1
  · exact (h.1 (r, q) (by simp)).2
  · exact h.2 s.length (r, q) (by simp)
theorem stk_push {n q k : Nat} {s : List (R4 × Nat)} {ps : List R4} (h : StkOk n s) (hs : s.length ≤ 3 * q) (hq : q ≤ k) (hk : k < n) (hp : ∀ r ∈ ps, emptyB r = false) (h4 : ps.length ≤ 4) : StkOk n (s ++ ps.reverse.map fun r => (r, k + 1)) := by
  refine ⟨fun p hm => ?_, fun i p hi => ?_⟩
  · rcases List.mem_append.1 hm with hm | hm
    · exact h.1 p hm
    · obtain ⟨r, hr, rfl⟩ := List.mem_map.1 hm
      exact ⟨hp r (by simpa using hr), hk⟩
  · by_cases hl : i < s.length
    · rw [List.getElem?_append_left hl] at hi; exact h.2 i p hi
    · rw [List.getElem?_append_right (by omega)] at hi
      have h1 := (List.getElem?_eq_some_iff.1 hi).1
      rw [List.length_map, List.length_reverse] at h1
      have h2 := List.mem_of_getElem? hi
      obtain ⟨r, hr, rfl⟩ := List.mem_map.1 h2
      show i ≤ 3 * (k + 1)
      omega
theorem stk_len {n : Nat} {s : List (R4 × Nat)} (h : StkOk n s) : s.length ≤ 3 * n + 1 := by
  rcases Nat.eq_zero_or_pos s.length with h0 | h0
  · omega
  · have hi : s.length - 1 < s.length := by omega
    have h1 := h.2 (s.length - 1) s[s.length - 1] (List.getElem?_eq_getElem hi)
    have h2 := (h.1 s[s.length - 1] (List.getElem_mem hi)).2
    omega
/-- The cells of a stack, in a row. -/
def flatP : List (R4 × Nat) → List Value
  | [] => []
  | p :: l => .int .i64 p.1.x0 :: .int .i64 p.1.y0 :: .int .i64 p.1.x1 :: .int .i64 p.1.y1 :: .int .i64 (p.2 : Int) :: flatP l
theorem flatP_length (l : List (R4 × Nat)) : (flatP l).length = l.length * 5 := by
  induction l with
  | nil => rfl
  | cons r l ih => simp [flatP, ih]; omega
theorem flatP_append (l m : List (R4 × Nat)) : flatP (l ++ m) = flatP l ++ flatP m := by
  induction l with
  | nil => rfl
  | cons r l ih => simp [flatP, ih]
theorem flatP_one (l : List (R4 × Nat)) : ∀ u ∈ flatP l, u.oneCell' = true := by
  induction l with
  | nil => intro u hu; simp [flatP] at hu
  | cons r l ih =>
    intro u hu
    simp only [flatP, List.mem_cons] at hu
    rcases hu with rfl | rfl | rfl | rfl | rfl | hu
    · rfl
    · rfl
    · rfl
    · rfl
    · rfl
    · exact ih u hu
end Go.Proofs.Ytckfdlolmenigaa
