/- Texts of the proof, merged: KinM. -/
import Derived.Test.YtlnnaegmcopiiaaM4
/- The structure of a tree as plain mathematics: what is below a node, where it ends, its children, what is above it, what is made, what is out; no conditions beyond those written in each theorem. -/
namespace Go.Proofs.Ytlnnaegmcopiiaa
open Go.ChangeShapes Go.WideShapes Go.ChangeAt Go.RowKit
set_option maxRecDepth 100000
/-- m is a, or below it. -/
def Bel (l : List Nd) (a m : Int) : Prop := ∃ k, upN l k m = a
/-- The index behind a and all below it. -/
def endN (l : List Nd) (a : Nat) : Nat := a + 1 + lst (fun k => decide (l.length ≤ a + 1 + k ∨ (nd l (a + 1 + k)).p < a)) l.length
theorem end_spec {l : List Nd} {a : Nat} (ha : a < l.length) : a < endN l a ∧ endN l a ≤ l.length ∧ (∀ m, a < m → m < endN l a → (a : Int) ≤ (nd l m).p) ∧ (endN l a < l.length → (nd l (endN l a)).p < a) := by
  have h := lst_spec (P := fun k => decide (l.length ≤ a + 1 + k ∨ (nd l (a + 1 + k)).p < a)) (f := l.length) ⟨l.length - a - 1, by omega, decide_eq_true (.inl (by omega))⟩
  obtain ⟨h1, h2, h3⟩ := h
  have h1' := of_decide_eq_true h1
  have hle : endN l a ≤ l.length := by
    rcases Nat.lt_or_ge l.length (endN l a) with hc | hc
    · exfalso
      unfold endN at hc
      have := of_decide_eq_false (h2 (l.length - a - 1) (by omega))
      exact this (.inl (by omega))
    · exact hc
  refine ⟨by unfold endN; omega, hle, fun m h4 h5 => ?_, fun h4 => ?_⟩
  · have h6 : m - a - 1 < lst (fun k => decide (l.length ≤ a + 1 + k ∨ (nd l (a + 1 + k)).p < a)) l.length := by unfold endN at h5; omega
    have h7 := of_decide_eq_false (h2 _ h6)
    rw [show a + 1 + (m - a - 1) = m by omega] at h7
    omega
  · rcases h1' with h5 | h5
    · unfold endN at h4; omega
    · exact h5
theorem end_low {l : List Nd} {a : Nat} (ha : a < l.length) : a < endN l a := (end_spec ha).1
theorem end_le {l : List Nd} {a : Nat} (ha : a < l.length) : endN l a ≤ l.length := (end_spec ha).2.1
theorem bel_self {l : List Nd} (m : Int) : Bel l m m := ⟨0, rfl⟩
theorem bel_trans {l : List Nd} {a b c : Int} (h1 : Bel l a b) (h2 : Bel l b c) : Bel l a c := by
  obtain ⟨k, hk⟩ := h1
  obtain ⟨j, hj⟩ := h2
  exact ⟨j + k, by rw [upN_add, hj, hk]⟩
theorem bel_step {l : List Nd} (m : Nat) : Bel l (nd l m).p m := ⟨1, par_nat l m⟩
/-- What is below and not the node itself, its parent is below. -/
theorem bel_up {l : List Nd} {a : Int} {m : Nat} (hb : Bel l a m) (hne : a ≠ m) : Bel l a (nd l m).p := by
  obtain ⟨k, hk⟩ := hb
  cases k with
  | zero => exact absurd hk.symm hne
  | succ k =>
    refine ⟨k, ?_⟩
    rw [Nat.add_comm, upN_add] at hk
    have e : upN l 1 (m : Int) = (nd l m).p := par_nat l m
    rw [e] at hk
    exact hk
section
variable {l : List Nd} (h : FormedT l)
include h
/-- The parent is what stands ahead, or above that. -/
theorem par_bel {i : Nat} (h0 : 0 < i) (hi : i < l.length) : 0 ≤ (nd l i).p ∧ ∃ s, upN l s ((i : Int) - 1) = (nd l i).p := by
  obtain ⟨h1, h2⟩ := ok_pos h0 (h.2 i hi).1
  exact ⟨h1, _, h2⟩
theorem par_lt {i : Nat} (hi : i < l.length) : -1 ≤ (nd l i).p ∧ (nd l i).p < i := h.low i hi
theorem root_par : (nd l 0).p = -1 := (okAt0 l).1 (h.2 0 h.1).1
theorem bel_le {a m : Int} (h0 : -1 ≤ m) (hm : m < l.length) (hb : Bel l a m) : a ≤ m := by
  obtain ⟨k, hk⟩ := hb
  have := (h.low.up h0 hm k).2.1
  omega
theorem bel_prev {a : Int} {m : Nat} (hm : m < l.length) (h0 : 0 < m) (hb : Bel l a m) (hne : a ≠ m) : Bel l a ((m : Int) - 1) := by
  obtain ⟨_, s, hs⟩ := par_bel h h0 hm
  exact bel_trans (bel_up hb hne) ⟨s, hs⟩
theorem bel_between {a n : Nat} (hn : n < l.length) (hb : Bel l a n) {m : Nat} (h1 : a ≤ m) (h2 : m ≤ n) : Bel l a m := by
  obtain ⟨d, hd⟩ : ∃ d, n = m + d := ⟨n - m, by omega⟩
  induction d generalizing n with
  | zero => obtain rfl : n = m := by omega
            exact hb
  | succ d ih =>
    have h3 := bel_prev h hn (by omega) hb (by omega)
    rw [show ((n : Int) - 1) = ((n - 1 : Nat) : Int) by omega] at h3
    exact ih (n := n - 1) (by omega) h3 (by omega) (by omega)
/-- All that is below a node stands right behind it. -/
theorem bel_end {a n : Nat} (ha : a < l.length) (hn : n < l.length) : Bel l a n ↔ a ≤ n ∧ n < endN l a := by
  obtain ⟨e1, e2, e3, e4⟩ := end_spec ha
  constructor
  · intro hb
    have h1 := bel_le h (by omega) (by omega) hb
    refine ⟨by omega, ?_⟩
    rcases Nat.lt_or_ge n (endN l a) with hc | hc
    · exact hc
    · exfalso
      have h2 := bel_between h hn hb (m := endN l a) (by omega) hc
      have h3 := bel_up h2 (by omega)
      have h4 := (par_lt h (i := endN l a) (by omega)).1
      have h6 := (par_lt h (i := endN l a) (by omega)).2
      have h5 := bel_le h h4 (by omega) h3
      have := e4 (by omega)
      omega
  · rintro ⟨h1, h2⟩
    induction n using Nat.strongRecOn with
    | ind n ih =>
      rcases Nat.eq_or_lt_of_le h1 with he | hl
      · rw [he]; exact bel_self _
      · have h3 := e3 n hl h2
        have h4 := (par_lt h hn).2
        obtain ⟨q, hq⟩ := Int.eq_ofNat_of_zero_le (a := (nd l n).p) (by omega)
        have h5 := ih q (by omega) (by omega) (by omega) (by omega)
        have h6 := bel_step (l := l) n
        rw [hq] at h6
        exact bel_trans h5 h6
theorem end_kid_le {c m : Nat} (hc : c < l.length) (hm : m < l.length) (hp : (nd l c).p = m) : endN l c ≤ endN l m := by
  have h1 := end_low hc
  have h2 := end_le hc
  have h3 := (bel_end h hc (n := endN l c - 1) (by omega)).2 ⟨by omega, by omega⟩
  have h4 := bel_step (l := l) c
  rw [hp] at h4
  have h5 := ((bel_end h hm (n := endN l c - 1) (by omega)).1 (bel_trans h4 h3)).2
  omega
/-- A node ends where the last of its children ends, or right behind itself. -/
theorem end_of_kids {m e : Nat} (hm : m < l.length) (h1 : m + 1 ≤ e) (h2 : ∀ c, m < c → c < l.length → (nd l c).p = m → endN l c ≤ e) : endN l m ≤ e := by
  rcases Nat.lt_or_ge e (endN l m) with hc | hc
  · exfalso
    have he : e < l.length := Nat.lt_of_lt_of_le hc (end_le hm)
    obtain ⟨k, hk⟩ := (bel_end h hm he).2 ⟨by omega, hc⟩
    cases k with
    | zero => have : (e : Int) = m := hk
              omega
    | succ k =>
      have hk' : par l (upN l k e) = m := hk
      have h0 : 0 ≤ upN l k e := by
        rcases Int.lt_or_le (upN l k e) 0 with h3 | h3
        · rw [par_neg h3] at hk'; omega
        · exact h3
      obtain ⟨c, hcx⟩ := Int.eq_ofNat_of_zero_le h0
      have h3 := h.low.up (m := (e : Int)) (by omega) (by omega) k
      rw [hcx] at hk' h3
      rw [par_nat] at hk'
      have h4 := (par_lt h (i := c) (by omega)).2
      have h5 := h2 c (by omega) (by omega) hk'
      have h6 := ((bel_end h (a := c) (by omega) he).1 ⟨k, hcx⟩).2
      omega
  · exact hc
theorem kid_first {m : Nat} (hm : m < l.length) (h1 : m + 1 < endN l m) : (nd l (m + 1)).p = m := by
  have h2 := (end_spec hm).2.2.1 (m + 1) (by omega) h1
  have h3 := end_le hm
  have h4 := (par_lt h (i := m + 1) (by omega)).2
  omega
/-- What stands behind a child and all below it is the next child. -/
theorem kid_next {c m : Nat} (hc : c < l.length) (hm : m < l.length) (hp : (nd l c).p = m) (h1 : endN l c < endN l m) : (nd l (endN l c)).p = m := by
  obtain ⟨e1, e2, e3, e4⟩ := end_spec hc
  have h2 := end_le hm
  have h3 := e4 (by omega)
  have hcm := (par_lt h hc).2
  have h4 := (end_spec hm).2.2.1 (endN l c) (by omega) h1
  obtain ⟨_, s, hs⟩ := par_bel h (i := endN l c) (by omega) (by omega)
  obtain ⟨k, hk⟩ := (bel_end h hc (n := endN l c - 1) (by omega)).2 ⟨by omega, by omega⟩
  rw [show ((endN l c - 1 : Nat) : Int) = (endN l c : Int) - 1 by omega] at hk
  rcases Nat.lt_or_ge k s with hks | hks
  · have e5 : s = k + (1 + (s - k - 1)) := by omega
    rw [e5, upN_add, hk, upN_add] at hs
    have e6 : upN l 1 (c : Int) = (nd l c).p := par_nat l c
    rw [e6, hp] at hs
    have h5 := (h.low.up (m := (m : Int)) (by omega) (by omega) (s - k - 1)).2.1
    omega
  · have e5 : k = s + (k - s) := by omega
    rw [e5, upN_add, hs] at hk
    have h5 := (par_lt h (i := endN l c) (by omega))
    have h6 := (h.low.up (m := (nd l (endN l c)).p) h5.1 (by omega) (k - s)).2.1
    omega
end
/-- Whether n is a node. -/
def inB (l : List Nd) (n : Int) : Bool := decide (0 ≤ n) && decide (n < l.length)
theorem inB_nat {l : List Nd} {n : Nat} (h : n < l.length) : inB l n = true := by unfold inB; simp; omega
theorem inB_iff {l : List Nd} {n : Int} : inB l n = true ↔ ∃ k : Nat, k < l.length ∧ n = k := by
  unfold inB
  rw [Bool.and_eq_true, decide_eq_true_iff, decide_eq_true_iff]
  constructor
  · rintro ⟨h1, h2⟩
    exact ⟨n.toNat, by omega, by omega⟩
  · rintro ⟨k, h1, rfl⟩
    omega
/-- Whether k is a child of n. -/
def kidB (l : List Nd) (n : Int) (k : Nat) : Bool := decide (0 < k) && ((nd l k).p == n)
/-- The children of n ahead of m. -/
def kidsTo (l : List Nd) (n : Int) (m : Nat) : List Int := ((List.range m).filter (kidB l n)).map fun (k : Nat) => (k : Int)
theorem kids_step (l : List Nd) (n : Int) (m : Nat) : kidsTo l n (m + 1) = kidsTo l n m ++ (if kidB l n m then [(m : Int)] else []) := by
  unfold kidsTo
  rw [List.range_succ, List.filter_append, List.map_append]
  cases hb : kidB l n m <;> simp [hb]
theorem kids_skip {l : List Nd} {n : Int} {a b : Nat} (hab : a ≤ b) (hk : ∀ k, a ≤ k → k < b → kidB l n k = false) : kidsTo l n b = kidsTo l n a := by
  obtain ⟨d, rfl⟩ : ∃ d, b = a + d := ⟨b - a, by omega⟩
  induction d with
  | zero => rfl
  | succ d ih =>
    rw [show a + (d + 1) = a + d + 1 by omega, kids_step, hk (a + d) (by omega) (by omega), ih (by omega) fun k h1 h2 => hk k h1 (by omega)]
    simp
theorem kids_length (l : List Nd) (n : Int) (m : Nat) : (kidsTo l n m).length ≤ m := by
  unfold kidsTo
  rw [List.length_map]
  have := List.length_filter_le (kidB l n) (List.range m)
  rw [List.length_range] at this
  exact this
theorem kids_mem {l : List Nd} {n : Int} {m : Nat} {x : Int} (hx : x ∈ kidsTo l n m) : ∃ k : Nat, k < m ∧ x = k := by
  unfold kidsTo at hx
  obtain ⟨k, hk, rfl⟩ := List.mem_map.1 hx
  exact ⟨k, List.mem_range.1 (List.mem_filter.1 hk).1, rfl⟩
theorem kids_on {l : List Nd} (h : FormedT l) {n c : Nat} (hc : c < l.length) (hp : (nd l c).p = n) : kidsTo l n (endN l c) = kidsTo l n c ++ [(c : Int)] := by
  obtain ⟨e1, e2, e3, e4⟩ := end_spec hc
  have h1 := (par_lt h hc).2
  have e : kidsTo l n (endN l c) = kidsTo l n (c + 1) := kids_skip (by omega) fun k h2 h3 => by
    have h4 := e3 k (by omega) h3
    unfold kidB
    have : ((nd l k).p == (n : Int)) = false := by simp; omega
    rw [this, Bool.and_false]
  rw [e, kids_step]
  have : kidB l n c = true := by unfold kidB; rw [hp]; simp; omega
  rw [this]; rfl
section
variable {l : List Nd} (h : FormedT l) {n : Nat} (hn : n < l.length)
include h hn
theorem kids_begin : kidsTo l n (n + 1) = [] := by
  have e : kidsTo l n (n + 1) = kidsTo l n 0 := kids_skip (by omega) fun k _ h2 => by
    have h3 := (par_lt h (i := k) (by omega)).2
    unfold kidB
    have : ((nd l k).p == (n : Int)) = false := by simp; omega
    rw [this, Bool.and_false]
  rw [e]; rfl
theorem kids_end : kidsTo l n l.length = kidsTo l n (endN l n) := kids_skip (end_le hn) fun k h2 h3 => by
  unfold kidB
  cases hq : ((nd l k).p == (n : Int))
  · rw [Bool.and_false]
  · exfalso
    have hq' : (nd l k).p = n := by simpa using hq
    have h4 := bel_step (l := l) k
    rw [hq'] at h4
    have := ((bel_end h hn h3).1 h4).2
    omega
end
/-- Whether node n is shown. -/
def shownB (l : List Nd) (n : Int) : Bool := (nd l n.toNat).s.shown
/-- Whether node n is made. -/
def madeB (l : List Nd) (n : Int) : Bool := decide (∀ k, k < deep l n → shownB l (upN l k n) = true)
/-- Whether node n is out. -/
def outB (l : List Nd) (n : Int) : Bool := decide (0 < n) && (madeB l n && decide (2 ≤ (nd l n.toNat).s.pos))
theorem out_root (l : List Nd) : outB l (0 : Nat) = false := by unfold outB; simp
section
variable {l : List Nd} (h : FormedT l)
include h
theorem deep_root : deep l (0 : Nat) = 1 := deep_zero h.1 (h.2 0 h.1).1
theorem deep_par {i : Nat} (h0 : 0 < i) (hi : i < l.length) : deep l i = 1 + deep l (nd l i).p := by
  have h4 := deep_up (m := (i : Int)) (n := l.length) (Nat.le_refl _) h.low (by omega) (by omega) (k := 1) (fun j hj => by
    obtain rfl : j = 0 := by omega
    show (0 : Int) ≤ i; omega)
  have e : upN l 1 (i : Int) = (nd l i).p := par_nat l i
  rw [e] at h4
  exact h4
theorem deep_pos {i : Nat} (hi : i < l.length) : 1 ≤ deep l i := by
  rcases Nat.eq_zero_or_pos i with rfl | h0
  · rw [deep_root h]; omega
  · rw [deep_par h h0 hi]; omega
theorem deep_len {i : Nat} (hi : i < l.length) : deep l i ≤ i + 1 := by
  have := deep_le (m := (i : Int)) (n := l.length) (Nat.le_refl _) h.low (by omega) (by omega)
  omega
theorem made_root : madeB l (0 : Nat) = (nd l 0).s.shown := by
  unfold madeB
  rw [deep_root h]
  refine dec_eq ⟨fun hk => hk 0 (by omega), fun hs k hk => ?_⟩
  obtain rfl : k = 0 := by omega
  exact hs
theorem made_par {i : Nat} (h0 : 0 < i) (hi : i < l.length) : madeB l i = ((nd l i).s.shown && madeB l (nd l i).p) := by
  unfold madeB
  rw [deep_par h h0 hi]
  refine dec_eq ?_
  have e : upN l 1 (i : Int) = (nd l i).p := par_nat l i
  rw [Bool.and_eq_true, decide_eq_true_iff]
  constructor
  · intro hk
    refine ⟨hk 0 (by omega), fun k h1 => ?_⟩
    have := hk (1 + k) (by omega)
    rw [upN_add, e] at this
    exact this
  · rintro ⟨h1, h2⟩ k hk
    cases k with
    | zero => exact h1
    | succ k =>
      rw [Nat.add_comm, upN_add, e]
      exact h2 k (by omega)
theorem out_pos {i : Nat} (h0 : 0 < i) (hi : i < l.length) : outB l i = (madeB l i && ((nd l i).s.pos == 2 || (nd l i).s.pos == 3)) := by
  have hf := (of_decide_eq_true (h.2 i hi).2 : FormedP (nd l i).s).2.2.2.2
  unfold outB
  have e1 : decide ((0 : Int) < (i : Int)) = true := decide_eq_true (by omega)
  have e2 : ((i : Int)).toNat = i := by omega
  have e3 : decide (2 ≤ (nd l i).s.pos) = ((nd l i).s.pos == 2 || (nd l i).s.pos == 3) := dec_eq (by rw [Bool.or_eq_true, beq_iff_eq, beq_iff_eq]; omega)
  rw [e1, e2, e3, Bool.true_and]
end
/-- The children of n ahead of m that are in the flow. -/
def flowF (l : List Nd) (x : Int) : Bool := madeB l x && !outB l x
def flowTo (l : List Nd) (n : Int) (m : Nat) : List Int := (kidsTo l n m).filter (flowF l)
theorem flow_step (l : List Nd) (n : Int) (m : Nat) : flowTo l n (m + 1) = flowTo l n m ++ (if kidB l n m && flowF l m then [(m : Int)] else []) := by
  unfold flowTo
  rw [kids_step, List.filter_append]
  cases hb : kidB l n m
  · simp
  · cases hf : flowF l m <;> simp [hf]
theorem flow_length (l : List Nd) (n : Int) (m : Nat) : (flowTo l n m).length ≤ m := Nat.le_trans (List.length_filter_le _ _) (kids_length l n m)
/-- The first k above n. -/
def upTo (l : List Nd) (n : Int) (k : Nat) : List Int := (List.range k).map fun j => upN l (j + 1) n
theorem upTo_step (l : List Nd) (n : Int) (k : Nat) : upTo l n (k + 1) = upTo l n k ++ [upN l (k + 1) n] := by
  unfold upTo
  rw [List.range_succ, List.map_append]; rfl
theorem upTo_length (l : List Nd) (n : Int) (k : Nat) : (upTo l n k).length = k := by simp [upTo]
/-- What is told of any index. -/
def kidsV (l : List Nd) (n : Int) : List Int := if inB l n then kidsTo l n l.length else []
def flowV (l : List Nd) (n : Int) : List Int := if inB l n then flowTo l n l.length else []
def upV (l : List Nd) (n : Int) : List Int := if inB l n then upTo l n (deep l n - 1) else []
def endV (l : List Nd) (n : Int) : Nat := if inB l n then endN l n.toNat else 0
def belV (l : List Nd) (a n : Int) : Bool := inB l a && (decide (a ≤ n) && decide (n < endV l a))
theorem flowV_kids (l : List Nd) (n : Int) : flowV l n = (kidsV l n).filter (flowF l) := by
  unfold flowV kidsV
  split <;> rfl
/-- Below as the reference has it. -/
theorem belV_ref {l : List Nd} (h : FormedT l) {a n : Int} : belV l a n = (inB l a && (inB l n && aboveB l a n)) := by
  unfold belV
  cases ha : inB l a
  · rfl
  · rw [Bool.true_and, Bool.true_and]
    obtain ⟨k, hk, rfl⟩ := inB_iff.1 ha
    have e : endV l (k : Int) = endN l k := by unfold endV; rw [ha, if_pos rfl, Int.toNat_natCast]
    rw [e]
    have h2 := end_le hk
    cases hn : inB l n
    · rw [Bool.false_and]
      unfold inB at hn
      rw [Bool.and_eq_false_iff, decide_eq_false_iff_not, decide_eq_false_iff_not] at hn
      rw [Bool.and_eq_false_iff, decide_eq_false_iff_not, decide_eq_false_iff_not]
      omega
    · obtain ⟨m, hm, rfl⟩ := inB_iff.1 hn
      rw [Bool.true_and]
      refine bool_iff ?_
      unfold aboveB
      rw [Bool.and_eq_true, decide_eq_true_iff, decide_eq_true_iff, beq_iff_eq, above_iff (n := l.length) (Nat.le_refl _) h.low (by omega) (by omega) (by omega)]
      have := bel_end h hk hm
      unfold Bel at this
      rw [this]
      omega
end Go.Proofs.Ytlnnaegmcopiiaa
