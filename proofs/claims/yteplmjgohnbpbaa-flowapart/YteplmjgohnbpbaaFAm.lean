/- Plain mathematics of FlowApart: the list without what is out or not made, and what its boxes are; no conditions beyond those written in each theorem. -/
import Derived.Test.YteplmjgohnbpbaaM28
import Derived.Test.YteplmjgohnbpbaaM35
namespace Go.Proofs.Yteplmjgohnbpbaa
open Go.ChangeShapes Go.WideShapes Go.ChangeAt Go.RowKit
set_option maxRecDepth 100000
/-- A node counts: it is made, and neither it nor anything above it is out. -/
def keptB (l : List Nd) (n : Int) : Bool := madeB l n && decide (∀ k, k < deep l n → outB l (upN l k n) = false)
/-- Those that count ahead of m, and how many. -/
def kl (l : List Nd) (m : Nat) : List Nat := (List.range m).filter fun k => keptB l (k : Int)
def ix (l : List Nd) (m : Nat) : Nat := (kl l m).length
def reN (l : List Nd) (k : Nat) : Nd := if k = 0 then nd l 0 else { nd l k with p := (ix l (nd l k).p.toNat : Int) }
def lessTo (l : List Nd) (m : Nat) : List Nd := (kl l m).map (reN l)
theorem kl_step (l : List Nd) (m : Nat) : kl l (m + 1) = kl l m ++ (if keptB l (m : Int) then [m] else []) := by
  unfold kl
  rw [List.range_succ, List.filter_append]
  congr 1
  cases hb : keptB l (m : Int) <;> simp [hb]
theorem less_step (l : List Nd) (m : Nat) : lessTo l (m + 1) = lessTo l m ++ (if keptB l (m : Int) then [reN l m] else []) := by
  unfold lessTo
  rw [kl_step, List.map_append]
  split <;> rfl
theorem ix_step (l : List Nd) (m : Nat) : ix l (m + 1) = ix l m + (if keptB l (m : Int) then 1 else 0) := by
  unfold ix
  rw [kl_step, List.length_append]
  split <;> rfl
theorem less_length (l : List Nd) (m : Nat) : (lessTo l m).length = ix l m := by unfold lessTo ix; rw [List.length_map]
theorem ix_le (l : List Nd) {a b : Nat} (h : a ≤ b) : ix l a ≤ ix l b := by
  induction b with
  | zero => obtain rfl : a = 0 := by omega
            exact Nat.le_refl _
  | succ b ih =>
    rcases Nat.eq_or_lt_of_le h with rfl | h1
    · exact Nat.le_refl _
    · have := ih (by omega)
      rw [ix_step]
      omega
theorem ix_lt {l : List Nd} {a b : Nat} (ha : keptB l (a : Int) = true) (h : a < b) : ix l a < ix l b := by
  have h1 := ix_step l a
  rw [ha, if_pos rfl] at h1
  have := ix_le l (show a + 1 ≤ b from h)
  omega
theorem ix_inj {l : List Nd} {a b : Nat} (ha : keptB l (a : Int) = true) (hb : keptB l (b : Int) = true) (h : ix l a = ix l b) : a = b := by
  rcases Nat.lt_trichotomy a b with h1 | h1 | h1
  · have := ix_lt ha h1; omega
  · exact h1
  · have := ix_lt hb h1; omega
theorem ix_zero (l : List Nd) : ix l 0 = 0 := rfl
theorem kl_at {l : List Nd} {n : Nat} (hk : keptB l (n : Int) = true) : ∀ {m : Nat}, n < m → (kl l m)[ix l n]? = some n := by
  intro m
  induction m with
  | zero => intro h; omega
  | succ m ih =>
    intro h
    rw [kl_step]
    rcases Nat.eq_or_lt_of_le (Nat.le_of_lt_succ h) with rfl | h1
    · rw [hk, if_pos rfl]
      unfold ix
      rw [List.getElem?_append_right (Nat.le_refl _), Nat.sub_self]
      rfl
    · have := ix_lt hk h1
      rw [List.getElem?_append_left (by unfold ix at this; unfold ix; exact this)]
      exact ih h1
theorem kl_all {l : List Nd} : ∀ {m i : Nat}, i < ix l m → ∃ n, n < m ∧ keptB l (n : Int) = true ∧ ix l n = i := by
  intro m
  induction m with
  | zero => intro i h; rw [ix_zero] at h; omega
  | succ m ih =>
    intro i h
    rw [ix_step] at h
    cases hb : keptB l (m : Int) with
    | false =>
      rw [hb] at h
      obtain ⟨n, h1, h2⟩ := ih (i := i) (by simpa using h)
      exact ⟨n, by omega, h2⟩
    | true =>
      rw [hb, if_pos rfl] at h
      rcases Nat.lt_or_ge i (ix l m) with h1 | h1
      · obtain ⟨n, h3, h4⟩ := ih h1
        exact ⟨n, by omega, h4⟩
      · exact ⟨m, by omega, hb, by omega⟩
theorem range_ix (l : List Nd) (m : Nat) : List.range (ix l m) = (kl l m).map (ix l) := by
  induction m with
  | zero => rfl
  | succ m ih =>
    rw [ix_step, kl_step, List.map_append, ← ih]
    cases hb : keptB l (m : Int) with
    | false => simp
    | true => rw [if_pos rfl, if_pos rfl, List.range_succ]; rfl
theorem kl_mem {l : List Nd} {m x : Nat} (h : x ∈ kl l m) : x < m ∧ keptB l (x : Int) = true := by
  unfold kl at h
  simpa using h
theorem nd_less {l : List Nd} {n m : Nat} (hk : keptB l (n : Int) = true) (h : n < m) : nd (lessTo l m) (ix l n) = reN l n := by
  unfold nd lessTo
  rw [List.getD_eq_getElem?_getD, List.getElem?_map, kl_at hk h]
  rfl
theorem reN_s (l : List Nd) (k : Nat) : (reN l k).s = (nd l k).s := by
  unfold reN
  split
  · rename_i h; subst h; rfl
  · rfl
theorem kept_made {l : List Nd} {n : Int} (hk : keptB l n = true) : madeB l n = true := by
  unfold keptB at hk; rw [Bool.and_eq_true] at hk; exact hk.1
section
variable {l : List Nd} (h : FormedT l)
include h
theorem kept_par {i : Nat} (h0 : 0 < i) (hi : i < l.length) : keptB l i = (flowF l i && keptB l (nd l i).p) := by
  have e : upN l 1 (i : Int) = (nd l i).p := par_nat l i
  have hd := deep_par h h0 hi
  have hm := made_par h h0 hi
  refine bool_iff ?_
  unfold keptB flowF
  simp only [Bool.and_eq_true, decide_eq_true_eq, Bool.not_eq_true']
  constructor
  · rintro ⟨h1, h2⟩
    have h3 := h1
    rw [hm, Bool.and_eq_true] at h3
    refine ⟨⟨h1, h2 0 (by omega)⟩, h3.2, fun k hk => ?_⟩
    have := h2 (1 + k) (by omega)
    rw [upN_add, e] at this
    exact this
  · rintro ⟨⟨h1, h2⟩, h3, h4⟩
    refine ⟨h1, fun k hk => ?_⟩
    cases k with
    | zero => exact h2
    | succ k =>
      rw [Nat.add_comm, upN_add, e]
      exact h4 k (by omega)
theorem kept_root (hm : madeB l (0 : Nat) = true) : keptB l (0 : Nat) = true := by
  unfold keptB
  rw [hm, deep_root h, Bool.true_and]
  refine decide_eq_true fun k hk => ?_
  obtain rfl : k = 0 := by omega
  exact out_root l
theorem kept_out {n : Nat} (hn : n < l.length) (hk : keptB l n = true) : outB l n = false := by
  unfold keptB at hk
  rw [Bool.and_eq_true, decide_eq_true_iff] at hk
  exact hk.2 0 (by have := deep_pos h hn; omega)
/-- The parent of one that counts, counts. -/
theorem kept_up {i : Nat} (h0 : 0 < i) (hi : i < l.length) (hk : keptB l i = true) : ∃ q : Nat, (nd l i).p = q ∧ q < i ∧ keptB l q = true := by
  have h1 := (par_bel h h0 hi).1
  have h2 := (par_lt h hi).2
  rw [kept_par h h0 hi, Bool.and_eq_true] at hk
  obtain ⟨q, hq⟩ := Int.eq_ofNat_of_zero_le h1
  refine ⟨q, hq, by omega, ?_⟩
  rw [hq] at hk
  exact hk.2
theorem re_par {i : Nat} (h0 : 0 < i) (hi : i < l.length) (hk : keptB l i = true) : ∃ q : Nat, (nd l i).p = q ∧ q < i ∧ keptB l q = true ∧ (reN l i).p = ix l q := by
  obtain ⟨q, h1, h2, h3⟩ := kept_up h h0 hi hk
  refine ⟨q, h1, h2, h3, ?_⟩
  unfold reN
  rw [if_neg (by omega), h1, Int.toNat_natCast]
theorem re_root : (reN l 0).p = -1 := by
  unfold reN
  rw [if_pos rfl]
  exact root_par h
/-- Going up is the same. -/
theorem up_less {n : Nat} (hn : n < l.length) (hk : keptB l n = true) (s : Nat) : (upN l s n = -1 ∧ upN (lessTo l l.length) s (ix l n) = -1) ∨ ∃ q : Nat, q ≤ n ∧ keptB l q = true ∧ upN l s n = q ∧ upN (lessTo l l.length) s (ix l n) = ix l q := by
  induction s with
  | zero => exact .inr ⟨n, Nat.le_refl _, hk, rfl, rfl⟩
  | succ s ih =>
    rcases ih with ⟨h1, h2⟩ | ⟨q, h1, h2, h3, h4⟩
    · refine .inl ⟨?_, ?_⟩
      · show par l (upN l s n) = -1
        rw [h1]; rfl
      · show par (lessTo l l.length) (upN (lessTo l l.length) s (ix l n)) = -1
        rw [h2]; rfl
    · have e1 : upN l (s + 1) n = (nd l q).p := by
        show par l (upN l s n) = _
        rw [h3, par_nat]
      have e2 : upN (lessTo l l.length) (s + 1) (ix l n) = (reN l q).p := by
        show par (lessTo l l.length) (upN (lessTo l l.length) s (ix l n)) = _
        rw [h4, par_nat, nd_less h2 (by omega)]
      rcases Nat.eq_zero_or_pos q with rfl | h0
      · exact .inl ⟨e1.trans (root_par h), e2.trans (re_root h)⟩
      · obtain ⟨r, g1, g2, g3, g4⟩ := re_par h h0 (by omega) h2
        exact .inr ⟨r, by omega, g3, e1.trans g1, e2.trans g4⟩
theorem low_less : Low (lessTo l l.length) (lessTo l l.length).length := by
  intro i hi
  rw [less_length] at hi
  obtain ⟨n, h1, h2, rfl⟩ := kl_all hi
  rw [nd_less h2 h1]
  rcases Nat.eq_zero_or_pos n with rfl | h0
  · rw [re_root h]; omega
  · obtain ⟨q, g1, g2, g3, g4⟩ := re_par h h0 h1 h2
    have := ix_lt g3 g2
    omega
theorem deep_less {n : Nat} (hn : n < l.length) (hk : keptB l n = true) : deep (lessTo l l.length) (ix l n) = deep l n := by
  obtain ⟨h1, h2⟩ := deep_spec (Nat.le_refl _) h.low (m := (n : Int)) (by omega) (by omega)
  have hi := ix_lt hk hn
  refine deep_is (n := (lessTo l l.length).length) (Nat.le_refl _) (low_less h) (by omega) (by rw [less_length]; omega) ?_ fun j hj => ?_
  · rcases up_less h hn hk (deep l n) with ⟨_, a⟩ | ⟨q, _, _, q3, _⟩
    · omega
    · omega
  · have := h2 j hj
    rcases up_less h hn hk j with ⟨a, _⟩ | ⟨q, _, _, _, q4⟩
    · omega
    · omega
theorem made_less {n : Nat} (hn : n < l.length) (hk : keptB l n = true) : madeB (lessTo l l.length) (ix l n) = true := by
  have h1 := kept_made hk
  unfold madeB at h1 ⊢
  rw [decide_eq_true_iff] at h1 ⊢
  rw [deep_less h hn hk]
  intro k hk'
  have h2 := h1 k hk'
  have h3 := (deep_spec (Nat.le_refl _) h.low (m := (n : Int)) (by omega) (by omega)).2 k hk'
  rcases up_less h hn hk k with ⟨a, _⟩ | ⟨q, q1, q2, q3, q4⟩
  · omega
  · rw [q3] at h2
    rw [q4]
    unfold shownB at h2 ⊢
    rw [Int.toNat_natCast] at h2 ⊢
    rw [nd_less q2 (by omega), reN_s]
    exact h2
theorem out_less {n : Nat} (hn : n < l.length) (hk : keptB l n = true) : outB (lessTo l l.length) (ix l n) = false := by
  have h1 := kept_out h hn hk
  have h2 := kept_made hk
  unfold outB at h1 ⊢
  rw [h2] at h1
  rw [made_less h hn hk]
  rw [Int.toNat_natCast] at h1 ⊢
  rw [nd_less hk hn, reN_s]
  rcases Nat.eq_zero_or_pos n with rfl | h0
  · rw [ix_zero]; rfl
  · rw [show decide ((0 : Int) < (n : Int)) = true from decide_eq_true (by omega), Bool.true_and, Bool.true_and] at h1
    rw [h1]
    simp
variable (hm : madeB l (0 : Nat) = true)
include hm
theorem formed_less : FormedT (lessTo l l.length) := by
  have hlow := low_less h
  have hr := kept_root h hm
  refine ⟨?_, fun i hi => ?_⟩
  · rw [less_length]
    have := ix_lt hr h.1
    omega
  · have hi' := hi
    rw [less_length] at hi
    obtain ⟨n, h1, h2, rfl⟩ := kl_all hi
    rw [nd_less h2 h1, reN_s]
    refine ⟨?_, (h.2 n h1).2⟩
    unfold okAt
    split
    · rename_i e
      have e0 : n = 0 := by
        rcases Nat.eq_zero_or_pos n with h0 | h0
        · exact h0
        · have := ix_lt hr h0
          omega
      subst e0
      have := nd_less (m := l.length) h2 h1
      rw [e] at this
      rw [this]
      exact re_root h
    · rename_i e
      have h0 : 0 < n := by
        rcases Nat.eq_zero_or_pos n with h0 | h0
        · subst h0; exact absurd (ix_zero l) e
        · exact h0
      obtain ⟨q, g1, g2, g3, g4⟩ := re_par h h0 h1 h2
      rw [nd_less h2 h1, g4]
      refine ⟨by omega, ?_⟩
      obtain ⟨m, m1, m2, m3⟩ := kl_all (l := l) (m := l.length) (i := ix l n - 1) (by omega)
      have hmn : m < n := by
        rcases Nat.lt_or_ge m n with h3 | h3
        · exact h3
        · have := ix_le l h3; omega
      have hqm : q ≤ m := by
        rcases Nat.lt_or_ge m q with h3 | h3
        · have := ix_lt m2 h3
          have := ix_lt g3 g2
          omega
        · exact h3
      refine (above_iff (n := (lessTo l l.length).length) (Nat.le_refl _) hlow (by omega) (by rw [less_length]; omega) (by omega)).2 ?_
      have hb := bel_step (l := l) n
      rw [g1] at hb
      obtain ⟨k, hk⟩ := bel_between h h1 hb hqm (Nat.le_of_lt hmn)
      refine ⟨k, ?_⟩
      rw [show ((ix l n : Int) - 1) = ((ix l m : Nat) : Int) by omega]
      rcases up_less h m1 m2 k with ⟨a, _⟩ | ⟨r, _, _, r3, r4⟩
      · omega
      · obtain rfl : r = q := by omega
        exact r4
theorem check_less (hc : checkT l = 0) : checkT (lessTo l l.length) = 0 := by
  have hf := formed_less h hm
  have hw : WithinT l := by
    unfold checkT at hc
    split at hc
    · split at hc
      · rename_i hw; exact of_decide_eq_true hw
      · omega
    · omega
  unfold checkT
  rw [show formedT (lessTo l l.length) = true from decide_eq_true hf, if_pos rfl, show withinT (lessTo l l.length) = true from ?_, if_pos rfl]
  refine decide_eq_true ⟨?_, fun i hi => ?_⟩
  · rw [less_length]
    have h1 : ∀ m, ix l m ≤ m := fun m => by
      induction m with
      | zero => rw [ix_zero]; omega
      | succ m ih => rw [ix_step]; split <;> omega
    have := h1 l.length
    have := hw.1
    omega
  · rw [less_length] at hi
    obtain ⟨n, h1, h2, rfl⟩ := kl_all hi
    rw [nd_less h2 h1, reN_s, deep_less h h1 h2]
    exact hw.2 n h1
theorem flow_less {n : Nat} (hn : n < l.length) (hk : keptB l n = true) : ∃ K : List Nat, (∀ x ∈ K, x < l.length ∧ keptB l x = true) ∧ flowV l n = K.map (fun (x : Nat) => (x : Int)) ∧ flowV (lessTo l l.length) (ix l n) = K.map (fun (x : Nat) => (ix l x : Int)) := by
  have hi := ix_lt hk hn
  refine ⟨(kl l l.length).filter fun k => kidB l n k, fun x hx => kl_mem (List.mem_filter.1 hx).1, ?_, ?_⟩
  · unfold flowV
    rw [inB_nat hn, if_pos rfl]
    unfold flowTo kidsTo kl
    rw [List.filter_map, List.filter_filter, List.filter_filter]
    congr 1
    refine List.filter_congr fun x hx => ?_
    have hx' : x < l.length := List.mem_range.1 hx
    show (flowF l x && kidB l n x) = (kidB l n x && keptB l x)
    cases hb : kidB l n x with
    | false => simp
    | true =>
      unfold kidB at hb
      rw [Bool.and_eq_true, decide_eq_true_iff, beq_iff_eq] at hb
      rw [kept_par h hb.1 hx', hb.2, hk]
      simp
  · unfold flowV
    rw [inB_nat (by rw [less_length]; exact hi), if_pos rfl]
    unfold flowTo kidsTo
    rw [less_length, range_ix, List.filter_map, List.filter_map, List.filter_map, List.map_map, List.filter_filter]
    have e : (kl l l.length).filter (fun a => ((flowF (lessTo l l.length) ∘ fun (k : Nat) => (k : Int)) ∘ ix l) a && (kidB (lessTo l l.length) (ix l n) ∘ ix l) a) = (kl l l.length).filter fun k => kidB l n k := by
      refine List.filter_congr fun x hx => ?_
      obtain ⟨x1, x2⟩ := kl_mem hx
      show (flowF (lessTo l l.length) (ix l x) && kidB (lessTo l l.length) (ix l n) (ix l x)) = _
      unfold flowF
      rw [made_less h x1 x2, out_less h x1 x2]
      simp only [Bool.not_false, Bool.and_true, Bool.true_and]
      unfold kidB
      rw [nd_less x2 x1]
      rcases Nat.eq_zero_or_pos x with rfl | h0
      · rw [ix_zero]; simp
      · obtain ⟨q, g1, g2, g3, g4⟩ := re_par h h0 x1 x2
        have := ix_lt (kept_root h hm) h0
        rw [g4, g1, show decide (0 < x) = true from decide_eq_true h0, show decide (0 < ix l x) = true from decide_eq_true (by omega), Bool.true_and, Bool.true_and]
        refine bool_iff ?_
        rw [beq_iff_eq, beq_iff_eq]
        constructor
        · intro e
          have := ix_inj g3 hk (by omega)
          omega
        · intro e
          obtain rfl : q = n := by omega
          rfl
    rw [e]
    rfl
end
theorem sty_less {l : List Nd} {n : Nat} (hn : n < l.length) (hk : keptB l n = true) : styAt (lessTo l l.length) (ix l n) = styAt l n := by
  have hi := ix_lt hk hn
  unfold styAt
  rw [inB_nat hn, inB_nat (by rw [less_length]; exact hi), if_pos rfl, if_pos rfl, Int.toNat_natCast, Int.toNat_natCast, nd_less hk hn, reN_s]
theorem chain_from {l : List Nd} {a e : Nat} {K1 K2 : List Int} {k : Int} (h : chainK l a (K1 ++ k :: K2) e) : (a : Int) ≤ k := by
  induction K1 generalizing a with
  | nil => obtain ⟨m, e1, h1, _⟩ := h
           omega
  | cons j r ih =>
    obtain ⟨m, _, h1, h2, h3⟩ := h
    have := ih h3
    have := end_low h2
    omega
theorem lay_kept {l : List Nd} {B : Int → Ct → Option Bo} {c : Ct} : ∀ {K : List Nat} {bs : List Bo} {ys : List Int}, (∀ x ∈ K, ∀ c b, B x c = some b → ∀ p ∈ b.l, ∃ m : Nat, p.n = m ∧ m < l.length ∧ keptB l m = true) → (∀ x ∈ K, x < l.length ∧ keptB l x = true) → boxesO B c (K.map fun (x : Nat) => (x : Int)) = some bs →
    ∀ p ∈ layY (K.map fun (x : Nat) => (x : Int)) bs ys, ∃ m : Nat, p.n = m ∧ m < l.length ∧ keptB l m = true := by
  intro K
  induction K with
  | nil =>
    intro bs ys _ _ _ p hp
    cases bs <;> cases ys <;> simp [layY] at hp
  | cons k r ih =>
    intro bs ys hB hK hb p hp
    rw [List.map_cons] at hb hp
    unfold boxesO at hb
    split at hb
    · cases hb
    · rename_i b hb1
      split at hb
      · cases hb
      · rename_i bs' hbs
        simp at hb
        subst hb
        cases ys with
        | nil => simp [layY] at hp
        | cons y ys =>
          rw [layY] at hp
          rcases List.mem_cons.1 hp with rfl | hp
          · exact ⟨k, rfl, hK k List.mem_cons_self⟩
          · rcases List.mem_append.1 hp with hp | hp
            · exact hB k List.mem_cons_self c b hb1 p hp
            · exact ih (fun x hx => hB x (List.mem_cons_of_mem _ hx)) (fun x hx => hK x (List.mem_cons_of_mem _ hx)) hbs p hp
/-- A number of the list as one of the smaller list. -/
def reI (l : List Nd) (n : Int) : Int := (ix l n.toNat : Int)
def reP (l : List Nd) (p : Pd) : Pd := ⟨reI l p.n, p.f⟩
def reB (l : List Nd) (b : Bo) : Bo := ⟨b.f, b.p, b.hi, b.l.map (reP l)⟩
theorem boxes_re {l : List Nd} {B B' : Int → Ct → Option Bo} {c : Ct} : ∀ {K : List Nat}, (∀ x ∈ K, B' (ix l x) c = (B x c).map (reB l)) → boxesO B' c (K.map fun (x : Nat) => (ix l x : Int)) = (boxesO B c (K.map fun (x : Nat) => (x : Int))).map (List.map (reB l)) := by
  intro K
  induction K with
  | nil => intro _; rfl
  | cons k r ih =>
    intro hB
    have h1 := hB k List.mem_cons_self
    have h2 := ih fun x hx => hB x (List.mem_cons_of_mem _ hx)
    rw [List.map_cons, List.map_cons, boxesO, boxesO, h1]
    cases hb : B k c with
    | none => rfl
    | some b =>
      simp only [Option.map_some]
      rw [h2]
      cases hr : boxesO B c (r.map fun (x : Nat) => (x : Int)) with
      | none => rfl
      | some bs => rfl
theorem lay_re {l : List Nd} : ∀ {K : List Nat} {bs : List Bo} {ys : List Int}, layY (K.map fun (x : Nat) => (ix l x : Int)) (bs.map (reB l)) ys = (layY (K.map fun (x : Nat) => (x : Int)) bs ys).map (reP l)
  | [], bs, ys => by cases bs <;> cases ys <;> rfl
  | _ :: _, [], ys => by cases ys <;> rfl
  | _ :: _, _ :: _, [] => rfl
  | k :: r, b :: bs, y :: ys => by
    have := lay_re (l := l) (K := r) (bs := bs) (ys := ys)
    rw [List.map_cons, List.map_cons, List.map_cons, layY, layY, this, List.map_cons, List.map_append]
    rfl
theorem cont_re {l : List Nd} {B B' : Int → Ct → Option Bo} {c : Ct} {e : En} {K : List Nat} (h : ∀ x ∈ K, B' (ix l x) c = (B x c).map (reB l)) :
    contO B' (K.map fun (x : Nat) => (ix l x : Int)) c e = (contO B (K.map fun (x : Nat) => (x : Int)) c e).map fun a => ⟨a.p, a.hi, a.l.map (reP l)⟩ := by
  unfold contO
  rw [boxes_re h]
  cases hb : boxesO B c (K.map fun (x : Nat) => (x : Int)) with
  | none => rfl
  | some bs =>
    simp only [Option.map_some, List.map_map]
    have e1 : ((fun b : Bo => b.f.ch) ∘ reB l) = fun b : Bo => b.f.ch := rfl
    rw [e1]
    cases hs : stkO (bs.map fun b => b.f.ch) e.top with
    | none => rfl
    | some p =>
      simp only
      cases hg : hgB p e with
      | false => rfl
      | true => simp only [if_true, Option.map_some]; rw [lay_re]
/-- The boxes are the same. -/
theorem box_less {l : List Nd} (h : FormedT l) (hm : madeB l (0 : Nat) = true) : ∀ (k k' n : Nat) (c : Ct), n < l.length → keptB l n = true → endN l n - n ≤ k → endN (lessTo l l.length) (ix l n) - ix l n ≤ k' →
    boxO (lessTo l l.length) k' (ix l n) c = (boxO l k n c).map (reB l) := by
  intro k
  induction k with
  | zero => intro k' n c hn _ h1 _; have := end_low hn; omega
  | succ k ih =>
    intro k' n c hn hk h1 h2
    have hi : ix l n < (lessTo l l.length).length := by rw [less_length]; exact ix_lt hk hn
    have hl := end_low hi
    cases k' with
    | zero => omega
    | succ k' =>
      obtain ⟨K, k1, k2, k3⟩ := flow_less h hm hn hk
      unfold boxO
      rw [sty_less hn hk, k2, k3]
      have ei : indB (styAt l n) (ix l n : Int) = indB (styAt l n) (n : Int) := by
        unfold indB
        congr 1
        refine dec_eq ?_
        rcases Nat.eq_zero_or_pos n with rfl | h0
        · rw [ix_zero]; simp
        · have := ix_lt (kept_root h hm) h0
          simp only [decide_eq_true_eq]
          omega
      rw [ei]
      have hc1 := flow_chain h hn
      have hc2 := flow_chain (formed_less h hm) hi
      rw [k2] at hc1
      rw [k3] at hc2
      have hB : ∀ c, ∀ x ∈ K, boxO (lessTo l l.length) k' (ix l x) c = (boxO l k x c).map (reB l) := by
        intro c x hx
        obtain ⟨A, C, rfl⟩ := List.append_of_mem hx
        rw [List.map_append, List.map_cons] at hc1 hc2
        have g1 : n + 1 ≤ x ∧ endN l x ≤ endN l n := by
          obtain ⟨m, e1, e2, e3⟩ := chain_mem hc1
          obtain rfl : x = m := by omega
          refine ⟨?_, e3⟩
          have := chain_from hc1
          omega
        have g2 : ix l n + 1 ≤ ix l x ∧ endN (lessTo l l.length) (ix l x) ≤ endN (lessTo l l.length) (ix l n) := by
          obtain ⟨m, e1, e2, e3⟩ := chain_mem hc2
          obtain rfl : ix l x = m := by omega
          refine ⟨?_, e3⟩
          have := chain_from hc2
          omega
        exact ih k' x c (k1 x hx).1 (k1 x hx).2 (by omega) (by omega)
      rw [cont_re (hB _)]
      cases hf : (frB (styAt l n) c && htsB (styAt l n) c.h) with
      | false => rfl
      | true =>
        simp only [if_true]
        cases ha : contO (boxO l k) (K.map fun (x : Nat) => (x : Int)) (ctIn (styAt l n) (frF (styAt l n) c) (htsF (styAt l n) c.h)) (endE (frF (styAt l n) c) (htsF (styAt l n) c.h) (indB (styAt l n) n)) with
        | none => rfl
        | some a =>
          simp only [Option.map_some]
          split
          · rfl
          · rfl
/-- All in a box counts. -/
theorem kept_all {l : List Nd} (h : FormedT l) (hm : madeB l (0 : Nat) = true) : ∀ (k n : Nat) (c : Ct) (b : Bo), n < l.length → keptB l n = true → boxO l k n c = some b → ∀ p ∈ b.l, ∃ m : Nat, p.n = m ∧ m < l.length ∧ keptB l m = true := by
  intro k
  induction k with
  | zero => intro n c b _ _ hb; simp [boxO] at hb
  | succ k ih =>
    intro n c b hn hk hb
    obtain ⟨K, k1, k2, _⟩ := flow_less h hm hn hk
    unfold boxO at hb
    split at hb
    · split at hb
      · cases hb
      · rename_i a ha
        split at hb
        · simp at hb
          subst hb
          show ∀ p ∈ a.l, _
          rw [k2] at ha
          unfold contO at ha
          split at ha
          · cases ha
          · rename_i bs hbs
            split at ha
            · cases ha
            · rename_i p hp
              split at ha
              · simp at ha
                subst ha
                show ∀ q ∈ layY _ bs p.y, _
                exact lay_kept (fun x hx c b hb => ih x c b (k1 x hx).1 (k1 x hx).2 hb) k1 hbs
              · cases ha
        · cases hb
    · cases hb
/-- What FlowApart asks. -/
theorem flow_apart {l : List Nd} (h : FormedT l) (hm : madeB l (0 : Nat) = true) (c : Ct) :
    flowO (lessTo l l.length) 0 c = (flowO l 0 c).map (reB l) ∧ ∀ b, flowO l 0 c = some b → ∀ p ∈ b.l, ∃ m : Nat, p.n = m ∧ m < l.length ∧ keptB l m = true := by
  have hr := kept_root h hm
  have h0 := h.1
  have hi : 0 < (lessTo l l.length).length := (formed_less h hm).1
  have e1 : (plAt l (0 : Int)).made = true := by
    have : inB l (0 : Int) = true := inB_nat (n := 0) h0
    rw [(plAt_made this).1]
    exact hm
  have e2 : (plAt (lessTo l l.length) (0 : Int)).made = true := by
    have : inB (lessTo l l.length) (0 : Int) = true := inB_nat (n := 0) hi
    rw [(plAt_made this).1]
    have h1 := made_less h h0 hr
    rw [ix_zero] at h1
    exact h1
  unfold flowO
  rw [e1, e2, Bool.true_and]
  constructor
  · split
    · have h1 := end_le h0
      have h2 := end_le hi
      have h3 := box_less h hm l.length (lessTo l l.length).length 0 c h0 hr (by omega) (by rw [ix_zero]; omega)
      rw [ix_zero] at h3
      exact h3
    · rfl
  · intro b hb
    split at hb
    · exact kept_all h hm l.length 0 c b h0 hr hb
    · cases hb
theorem kl_is {l : List Nd} {m : Nat} (hk : keptB l (m : Int) = true) (hm : m < l.length) : ((kl l l.length).map fun (x : Nat) => (x : Int))[ix l m]? = some (m : Int) := by
  rw [List.getElem?_map, kl_at hk hm]
  rfl
end Go.Proofs.Yteplmjgohnbpbaa
