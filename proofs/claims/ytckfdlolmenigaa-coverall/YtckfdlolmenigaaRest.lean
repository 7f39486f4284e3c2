/- Plain mathematics: what is left of a rectangle without a list of others, and all of a list joined: points, corners, sizes. -/
import Derived.Test.YtckfdlolmenigaaCutMath
namespace Go.Proofs.Ytckfdlolmenigaa
/-- What is left of r without the elements of l, one behind the other. -/
def restL : R4 → List R4 → List R4
  | r, [] => [r]
  | r, b :: l => (cutL r b).flatMap fun p => restL p l
def restOf (r : R4) (l : List R4) : List R4 := if emptyB r then [] else restL r l
/-- The point is in one of l. -/
def inB (l : List R4) (x y : Int) : Bool := l.any fun r => holdsB r x y
def cnt (l : List R4) (x y : Int) : Nat := l.countP fun r => holdsB r x y
theorem inB_cnt (l : List R4) (x y : Int) : inB l x y = decide (0 < cnt l x y) := by
  refine bool_iff ?_
  unfold inB cnt
  rw [decide_eq_true_eq, List.countP_pos_iff, List.any_eq_true]
theorem cnt_append (l m : List R4) (x y : Int) : cnt (l ++ m) x y = cnt l x y + cnt m x y := List.countP_append
theorem restL_snoc (l : List R4) (b : R4) : ∀ r, restL r (l ++ [b]) = (restL r l).flatMap fun p => cutL p b := by
  induction l with
  | nil => intro r; simp [restL]
  | cons c l ih => intro r; simp only [List.cons_append, restL, ih, List.flatMap_assoc]
theorem restOf_nil {r : R4} (h : emptyB r = false) : restOf r [] = [r] := by unfold restOf; rw [h]; rfl
theorem restOf_empty {r : R4} (h : emptyB r = true) (l : List R4) : restOf r l = [] := by unfold restOf; rw [h]; rfl
theorem restOf_solid {r : R4} (h : emptyB r = false) (l : List R4) : restOf r l = restL r l := by unfold restOf; rw [h]; rfl
theorem restOf_snoc {r : R4} (l : List R4) (b : R4) : restOf r (l ++ [b]) = (restOf r l).flatMap fun p => cutL p b := by
  unfold restOf; split
  · rfl
  · exact restL_snoc l b r
/-! ### points -/
theorem cnt_flat {f : R4 → List R4} {x y : Int} {c : Bool} (h : ∀ p, cnt (f p) x y = if holdsB p x y && c then 1 else 0) (l : List R4) : cnt (l.flatMap f) x y = if c then cnt l x y else 0 := by
  induction l with
  | nil => cases c <;> rfl
  | cons a l ih =>
    rw [List.flatMap_cons, cnt_append, ih, h a]
    unfold cnt
    rw [countP_one]
    cases c <;> cases holdsB a x y <;> simp <;> omega
theorem cnt_rest (x y : Int) (l : List R4) : ∀ r, cnt (restL r l) x y = if holdsB r x y && !inB l x y then 1 else 0 := by
  induction l with
  | nil => intro r; unfold restL cnt; rw [countP_one]; simp [inB]
  | cons b l ih =>
    intro r
    unfold restL
    rw [cnt_flat ih]
    have hc : cnt (cutL r b) x y = _ := cnt_cut r b x y
    have hb : inB (b :: l) x y = (holdsB b x y || inB l x y) := rfl
    rw [hc, hb]
    cases inB l x y <;> cases holdsB b x y <;> cases holdsB r x y <;> rfl
theorem cnt_restOf (r : R4) (l : List R4) (x y : Int) : cnt (restOf r l) x y = if holdsB r x y && !inB l x y then 1 else 0 := by
  unfold restOf; split
  · rename_i h
    have : holdsB r x y = false := by simp only [emptyB, holdsB, decide_eq_true_eq, decide_eq_false_iff_not] at *; omega
    rw [this]; rfl
  · exact cnt_rest x y l r
theorem rest_no (l : List R4) : ∀ r, emptyB r = false → ∀ p ∈ restL r l, emptyB p = false := by
  induction l with
  | nil => intro r h p hp; simp [restL] at hp; rw [hp]; exact h
  | cons b l ih =>
    intro r h p hp
    simp only [restL, List.mem_flatMap] at hp
    obtain ⟨q, hq, hp⟩ := hp
    exact ih q (cut_no r b q hq) p hp
theorem restOf_no (r : R4) (l : List R4) : ∀ p ∈ restOf r l, emptyB p = false := by
  unfold restOf; split
  · intro p hp; simp at hp
  · rename_i h; exact rest_no l r (by simpa using h)
theorem holds_corner {p : R4} (h : emptyB p = false) : holdsB p p.x0 p.y0 = true := by
  simp only [emptyB, holdsB, decide_eq_true_eq, decide_eq_false_iff_not] at *; omega
/-! ### the grid -/
def OnGrid (X Y : Int → Prop) (p : R4) : Prop := X p.x0 ∧ X p.x1 ∧ Y p.y0 ∧ Y p.y1
theorem max_in {X : Int → Prop} {a b : Int} (ha : X a) (hb : X b) : X (max a b) := by
  by_cases h : a ≤ b
  · rw [Int.max_eq_right h]; exact hb
  · rw [Int.max_eq_left (by omega)]; exact ha
theorem min_in {X : Int → Prop} {a b : Int} (ha : X a) (hb : X b) : X (min a b) := by
  by_cases h : a ≤ b
  · rw [Int.min_eq_left h]; exact ha
  · rw [Int.min_eq_right (by omega)]; exact hb
theorem cut_grid {X Y : Int → Prop} {a b : R4} (ha : OnGrid X Y a) (hb : OnGrid X Y b) : ∀ p ∈ cutL a b, OnGrid X Y p := by
  intro p hp
  unfold cutL at hp
  split at hp
  · simp at hp
  · split at hp
    · simp at hp; rw [hp]; exact ha
    · rename_i hm
      have hm' : OnGrid X Y (meetR a b) := by
        by_cases h : max a.x0 b.x0 < min a.x1 b.x1 ∧ max a.y0 b.y0 < min a.y1 b.y1
        · rw [meetR_t h]; exact ⟨max_in ha.1 hb.1, min_in ha.2.1 hb.2.1, max_in ha.2.2.1 hb.2.2.1, min_in ha.2.2.2 hb.2.2.2⟩
        · rw [meetR_f h] at hm; exact absurd rfl hm
      have hq := (List.mem_filter.1 hp).1
      simp only [partsL, List.mem_cons, List.not_mem_nil, or_false] at hq
      rcases hq with rfl | rfl | rfl | rfl
      · exact ⟨ha.1, ha.2.1, ha.2.2.1, hm'.2.2.1⟩
      · exact ⟨ha.1, ha.2.1, hm'.2.2.2, ha.2.2.2⟩
      · exact ⟨ha.1, hm'.1, hm'.2.2.1, hm'.2.2.2⟩
      · exact ⟨hm'.2.1, ha.2.1, hm'.2.2.1, hm'.2.2.2⟩
theorem rest_grid {X Y : Int → Prop} (l : List R4) (hl : ∀ b ∈ l, OnGrid X Y b) : ∀ r, OnGrid X Y r → ∀ p ∈ restL r l, OnGrid X Y p := by
  induction l with
  | nil => intro r h p hp; simp [restL] at hp; rw [hp]; exact h
  | cons b l ih =>
    intro r h p hp
    simp only [restL, List.mem_flatMap] at hp
    obtain ⟨q, hq, hp⟩ := hp
    exact ih (fun b hb => hl b (List.mem_cons_of_mem _ hb)) q (cut_grid h (hl b List.mem_cons_self) q hq) p hp
theorem restOf_grid {X Y : Int → Prop} {l : List R4} {r : R4} (hl : ∀ b ∈ l, OnGrid X Y b) (hr : OnGrid X Y r) : ∀ p ∈ restOf r l, OnGrid X Y p := by
  unfold restOf; split
  · intro p hp; simp at hp
  · exact rest_grid l hl r hr
/-! ### how many -/
theorem length_le_of_sub {α : Type} [DecidableEq α] : ∀ (l m : List α), l.Nodup → (∀ a ∈ l, a ∈ m) → l.length ≤ m.length
  | [], _, _, _ => Nat.zero_le _
  | a :: l, m, hn, hs => by
    have ha : a ∈ m := hs a List.mem_cons_self
    obtain ⟨hna, hnl⟩ := List.nodup_cons.1 hn
    have := length_le_of_sub l (m.erase a) hnl (fun b hb => by
      have hne : b ≠ a := fun e => hna (e ▸ hb)
      exact (List.mem_erase_of_ne hne).2 (hs b (List.mem_cons_of_mem _ hb)))
    rw [List.length_erase_of_mem ha] at this
    have := List.length_pos_of_mem ha
    simp only [List.length_cons]; omega
theorem corners_nodup : ∀ (l : List R4), (∀ p ∈ l, emptyB p = false) → (∀ x y, cnt l x y ≤ 1) → (l.map fun p => (p.x0, p.y0)).Nodup
  | [], _, _ => List.nodup_nil
  | a :: l, hn, hc => by
    rw [List.map_cons, List.nodup_cons]
    refine ⟨fun h => ?_, corners_nodup l (fun p hp => hn p (List.mem_cons_of_mem _ hp)) (fun x y => ?_)⟩
    · obtain ⟨b, hb, e⟩ := List.mem_map.1 h
      have h1 := holds_corner (hn a List.mem_cons_self)
      have h2 := holds_corner (hn b (List.mem_cons_of_mem _ hb))
      simp only [Prod.mk.injEq] at e
      rw [e.1, e.2] at h2
      have h3 := hc a.x0 a.y0
      have h4 : 0 < l.countP (fun r => holdsB r a.x0 a.y0) := List.countP_pos_iff.2 ⟨b, hb, h2⟩
      unfold cnt at h3
      rw [countP_one, h1] at h3
      simp at h3
      have h5 := List.countP_pos_iff.1 h4
      obtain ⟨c, hc1, hc2⟩ := h5
      rw [h3 c hc1] at hc2; cases hc2
    · have := hc x y
      unfold cnt at this ⊢
      rw [countP_one] at this; omega
theorem pairs_length (Xs Ys : List Int) : (Xs.flatMap fun x => Ys.map fun y => (x, y)).length = Xs.length * Ys.length := by
  induction Xs with
  | nil => simp
  | cons x l ih => rw [List.flatMap_cons, List.length_append, ih, List.length_map, List.length_cons, Nat.add_mul, Nat.one_mul, Nat.add_comm]
theorem grid_length (l : List R4) (Xs Ys : List Int) (hn : ∀ p ∈ l, emptyB p = false) (hc : ∀ x y, cnt l x y ≤ 1) (hg : ∀ p ∈ l, p.x0 ∈ Xs ∧ p.y0 ∈ Ys) : l.length ≤ Xs.length * Ys.length := by
  have := length_le_of_sub (l.map fun p => (p.x0, p.y0)) (Xs.flatMap fun x => Ys.map fun y => (x, y)) (corners_nodup l hn hc) (fun a ha => by
    obtain ⟨p, hp, rfl⟩ := List.mem_map.1 ha
    obtain ⟨h1, h2⟩ := hg p hp
    exact List.mem_flatMap.2 ⟨p.x0, h1, List.mem_map.2 ⟨p.y0, h2, rfl⟩⟩)
  rwa [List.length_map, pairs_length] at this
def xsL (l : List R4) : List Int := l.flatMap fun b => [b.x0, b.x1]
def ysL (l : List R4) : List Int := l.flatMap fun b => [b.y0, b.y1]
theorem xsL_length (l : List R4) : (xsL l).length = 2 * l.length := by
  induction l with
  | nil => rfl
  | cons a l ih => unfold xsL at *; rw [List.flatMap_cons, List.length_append, ih]; simp; omega
theorem ysL_length (l : List R4) : (ysL l).length = 2 * l.length := by
  induction l with
  | nil => rfl
  | cons a l ih => unfold ysL at *; rw [List.flatMap_cons, List.length_append, ih]; simp; omega
theorem on_own_grid (l : List R4) : ∀ b ∈ l, OnGrid (· ∈ xsL l) (· ∈ ysL l) b := fun b hb =>
  ⟨List.mem_flatMap.2 ⟨b, hb, by simp⟩, List.mem_flatMap.2 ⟨b, hb, by simp⟩, List.mem_flatMap.2 ⟨b, hb, by simp⟩, List.mem_flatMap.2 ⟨b, hb, by simp⟩⟩
theorem cnt_restOf_le (r : R4) (l : List R4) (x y : Int) : cnt (restOf r l) x y ≤ 1 := by
  rw [cnt_restOf]; split <;> omega
theorem restOf_length (r : R4) (l : List R4) : (restOf r l).length ≤ (2 * l.length + 2) * (2 * l.length + 2) := by
  have h := grid_length (restOf r l) (xsL (r :: l)) (ysL (r :: l)) (restOf_no r l) (cnt_restOf_le r l) (fun p hp => by
    have := restOf_grid (X := (· ∈ xsL (r :: l))) (Y := (· ∈ ysL (r :: l))) (fun b hb => on_own_grid (r :: l) b (List.mem_cons_of_mem _ hb)) (on_own_grid (r :: l) r List.mem_cons_self) p hp
    exact ⟨this.1, this.2.2.1⟩)
  rw [xsL_length, ysL_length] at h
  exact h
/-! ### all joined -/
def joinTo (l : List R4) : Nat → List R4
  | 0 => []
  | k + 1 => joinTo l k ++ restOf (rat l k) (joinTo l k)
theorem inB_take {l : List R4} {k : Nat} (h : k < l.length) (x y : Int) : inB (l.take (k + 1)) x y = (inB (l.take k) x y || holdsB (rat l k) x y) := by
  rw [List.take_succ_eq_append_getElem h, ← rat_eq h]; simp [inB]
theorem cnt_join (l : List R4) (x y : Int) : ∀ k, k ≤ l.length → cnt (joinTo l k) x y = if inB (l.take k) x y then 1 else 0
  | 0, _ => by simp [joinTo, cnt, inB]
  | k + 1, h => by
    have ih := cnt_join l x y k (by omega)
    have hi : inB (joinTo l k) x y = inB (l.take k) x y := by
      rw [inB_cnt, ih]; cases inB (l.take k) x y <;> rfl
    unfold joinTo
    rw [cnt_append, cnt_restOf, ih, hi, inB_take h]
    cases inB (l.take k) x y <;> cases holdsB (rat l k) x y <;> rfl
theorem join_no (l : List R4) : ∀ k, ∀ p ∈ joinTo l k, emptyB p = false
  | 0 => fun p hp => by simp [joinTo] at hp
  | k + 1 => fun p hp => by
    unfold joinTo at hp
    rcases List.mem_append.1 hp with h | h
    · exact join_no l k p h
    · exact restOf_no _ _ p h
theorem join_grid (l : List R4) : ∀ k, k ≤ l.length → ∀ p ∈ joinTo l k, OnGrid (· ∈ xsL l) (· ∈ ysL l) p
  | 0, _ => fun p hp => by simp [joinTo] at hp
  | k + 1, h => fun p hp => by
    unfold joinTo at hp
    rcases List.mem_append.1 hp with h1 | h1
    · exact join_grid l k (by omega) p h1
    · refine restOf_grid (join_grid l k (by omega)) ?_ p h1
      rw [rat_eq h]; exact on_own_grid l _ (List.getElem_mem h)
theorem cnt_join_le (l : List R4) (k : Nat) (h : k ≤ l.length) (x y : Int) : cnt (joinTo l k) x y ≤ 1 := by
  rw [cnt_join l x y k h]; split <;> omega
theorem join_length (l : List R4) (k : Nat) (h : k ≤ l.length) : (joinTo l k).length ≤ (2 * l.length) * (2 * l.length) := by
  have := grid_length (joinTo l k) (xsL l) (ysL l) (join_no l k) (cnt_join_le l k h) (fun p hp => ⟨(join_grid l k h p hp).1, (join_grid l k h p hp).2.2.1⟩)
  rwa [xsL_length, ysL_length] at this
/-! ### apart -/
def apartB (l : List R4) : Bool := (List.range l.length).all fun k => (List.range k).all fun i => emptyB (meetR (rat l k) (rat l i))
theorem apartB_iff (l : List R4) : apartB l = true ↔ ∀ k, k < l.length → ∀ i, i < k → emptyB (meetR (rat l k) (rat l i)) = true := by
  unfold apartB
  simp only [List.all_eq_true, List.mem_range]
theorem meet_empty_comm (a b : R4) : emptyB (meetR a b) = emptyB (meetR b a) := by
  by_cases h : max a.x0 b.x0 < min a.x1 b.x1 ∧ max a.y0 b.y0 < min a.y1 b.y1
  · rw [meetR_t h, meetR_t (by omega)]; exact bool_iff (by simp only [emptyB, decide_eq_true_eq]; omega)
  · rw [meetR_f h, meetR_f (by omega)]
theorem two_le_countP {p : R4 → Bool} : ∀ (l : List R4) (i k : Nat) (hi : i < k) (hk : k < l.length), p l[i] = true → p l[k] = true → 2 ≤ l.countP p
  | a :: l, 0, k + 1, _, hk, h1, h2 => by
    have hk' : k < l.length := by simpa using hk
    have : 0 < l.countP p := List.countP_pos_iff.2 ⟨l[k], List.getElem_mem hk', by simpa using h2⟩
    rw [countP_one, if_pos (show p a = true from h1)]; omega
  | a :: l, i + 1, k + 1, hi, hk, h1, h2 => by
    have hk' : k < l.length := by simpa using hk
    have := two_le_countP l i k (by omega) hk' (by simpa using h1) (by simpa using h2)
    rw [countP_one]; omega
theorem meet_point {a b : R4} (h : emptyB (meetR a b) = false) : ∃ x y, holdsB a x y = true ∧ holdsB b x y = true := by
  by_cases hm : max a.x0 b.x0 < min a.x1 b.x1 ∧ max a.y0 b.y0 < min a.y1 b.y1
  · refine ⟨max a.x0 b.x0, max a.y0 b.y0, ?_, ?_⟩ <;> (simp only [holdsB, decide_eq_true_eq]; omega)
  · rw [meetR_f hm] at h; cases h
theorem apart_of_cnt {l : List R4} (h : ∀ x y, cnt l x y ≤ 1) : apartB l = true := by
  rw [apartB_iff]
  intro k hk i hi
  cases he : emptyB (meetR (rat l k) (rat l i)) with
  | true => rfl
  | false =>
    obtain ⟨x, y, h1, h2⟩ := meet_point he
    rw [rat_eq hk] at h1
    rw [rat_eq (show i < l.length by omega)] at h2
    have := two_le_countP (p := fun r => holdsB r x y) l i k hi hk h2 h1
    have := h x y
    unfold cnt at this; omega
theorem apart_rest (r : R4) (l : List R4) : apartB (restOf r l) = true := apart_of_cnt (cnt_restOf_le r l)
theorem apart_join (l : List R4) : apartB (joinTo l l.length) = true := apart_of_cnt (cnt_join_le l _ (Nat.le_refl _))
theorem in_join (l : List R4) (x y : Int) : inB (joinTo l l.length) x y = inB l x y := by
  rw [inB_cnt, cnt_join l x y _ (Nat.le_refl _), List.take_length]; cases inB l x y <;> rfl
/-! ### covered -/
def placesL (a b : Int) (l : List Int) : List Int := a :: l.filter fun v => decide (a < v ∧ v < b)
def coveredB (r : R4) (l : List R4) : Bool := (restOf r l).isEmpty
def gridB (r : R4) (l : List R4) : Bool := emptyB r || (placesL r.x0 r.x1 (xsL l)).all fun x => (placesL r.y0 r.y1 (ysL l)).all fun y => inB l x y
theorem mem_places {a b : Int} {l : List Int} {v : Int} : v ∈ placesL a b l ↔ v = a ∨ (v ∈ l ∧ a < v ∧ v < b) := by
  unfold placesL; simp [List.mem_filter]
theorem covered_grid (r : R4) (l : List R4) : coveredB r l = gridB r l := by
  unfold coveredB gridB
  cases he : emptyB r with
  | true => rw [restOf_empty he]; rfl
  | false =>
    rw [Bool.false_or]
    refine bool_iff ?_
    simp only [List.isEmpty_iff, List.all_eq_true]
    constructor
    · intro h x hx y hy
      have h1 := cnt_restOf r l x y
      rw [h] at h1
      have h2 : holdsB r x y = true := by
        rw [mem_places] at hx hy
        simp only [emptyB, holdsB, decide_eq_true_eq, decide_eq_false_iff_not] at *; omega
      rw [h2] at h1
      cases hi : inB l x y with
      | true => rfl
      | false => rw [hi] at h1; simp [cnt] at h1
    · intro h
      rw [restOf_solid he]
      cases hr : restL r l with
      | nil => rfl
      | cons p t =>
        exfalso
        have hp : p ∈ restL r l := by rw [hr]; exact List.mem_cons_self
        have hpe := rest_no l r he p hp
        have hg := rest_grid (X := fun v => v = r.x0 ∨ v = r.x1 ∨ v ∈ xsL l) (Y := fun v => v = r.y0 ∨ v = r.y1 ∨ v ∈ ysL l) l (fun b hb => by
          have := on_own_grid l b hb
          exact ⟨.inr (.inr this.1), .inr (.inr this.2.1), .inr (.inr this.2.2.1), .inr (.inr this.2.2.2)⟩) r ⟨.inl rfl, .inr (.inl rfl), .inl rfl, .inr (.inl rfl)⟩ p hp
        have hc := cnt_rest p.x0 p.y0 l r
        have hpos : 0 < cnt (restL r l) p.x0 p.y0 := List.countP_pos_iff.2 ⟨p, hp, holds_corner hpe⟩
        cases h1 : holdsB r p.x0 p.y0 with
        | false => rw [h1] at hc; simp at hc; omega
        | true =>
          cases h2 : inB l p.x0 p.y0 with
          | true => rw [h2] at hc; simp at hc; omega
          | false =>
            have hin : r.x0 ≤ p.x0 ∧ p.x0 < r.x1 ∧ r.y0 ≤ p.y0 ∧ p.y0 < r.y1 := by simpa only [holdsB, decide_eq_true_eq] using h1
            have hx : p.x0 ∈ placesL r.x0 r.x1 (xsL l) := by
              rw [mem_places]
              rcases hg.1 with e | e | e
              · exact .inl e
              · omega
              · by_cases e2 : p.x0 = r.x0
                · exact .inl e2
                · exact .inr ⟨e, by omega, by omega⟩
            have hy : p.y0 ∈ placesL r.y0 r.y1 (ysL l) := by
              rw [mem_places]
              rcases hg.2.2.1 with e | e | e
              · exact .inl e
              · omega
              · by_cases e2 : p.y0 = r.y0
                · exact .inl e2
                · exact .inr ⟨e, by omega, by omega⟩
            rw [h p.x0 hx p.y0 hy] at h2; cases h2
end Go.Proofs.Ytckfdlolmenigaa
