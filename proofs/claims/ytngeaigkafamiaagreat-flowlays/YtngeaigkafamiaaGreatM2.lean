/- Texts of the proof, merged: KinM, Concat, Lens, RefLens, Formed. -/
import Derived.Test.YtngeaigkafamiaaGreatM1
import Derived.Lib.AppendZeros
import Derived.Deep.MidRow
namespace Go.Proofs.YtngeaigkafamiaaGreat
open Go.ChangeShapes Go.WideShapes Go.ChangeAt Go.RowKit
set_option maxRecDepth 100000
def Bel (l : List Nd) (a m : Int) : Prop := ∃ k, upN l k m = a
def endN (l : List Nd) (a : Nat) : Nat := a + 1 + lst (fun k => decide (l.length ≤ a + 1 + k ∨ (nd l (a + 1 + k)).p < a)) l.length
theorem end_spec {l : List Nd} {a : Nat} (ha : a < l.length) : a < endN l a ∧ endN l a ≤ l.length ∧ (∀ m, a < m → m < endN l a → (a : Int) ≤ (nd l m).p) ∧ (endN l a < l.length → (nd l (endN l a)).p < a) := by
  have h := lst_spec (P := fun k => decide (l.length ≤ a + 1 + k ∨ (nd l (a + 1 + k)).p < a)) (f := l.length) ⟨l.length - a - 1, by omega, decide_eq_true (.inl (by omega))⟩
  obtain ⟨h1, h2, h3⟩ := h
  have h1' := of_decide_eq_true h1
  have hle : endN l a ≤ l.length := by
    rcases Nat.lt_or_ge l.length (endN l a) with hc | hc
    · exfalso
      unfold endN at hc
      have := of_decide_eq_false (h2 (l.length - a - 1) (by omega))
      exact this (.inl (by omega))
    · exact hc
  refine ⟨by unfold endN; omega, hle, fun m h4 h5 => ?_, fun h4 => ?_⟩
  · have h6 : m - a - 1 < lst (fun k => decide (l.length ≤ a + 1 + k ∨ (nd l (a + 1 + k)).p < a)) l.length := by unfold endN at h5; omega
    have h7 := of_decide_eq_false (h2 _ h6)
    rw [show a + 1 + (m - a - 1) = m by omega] at h7
    omega
  · rcases h1' with h5 | h5
    · unfold endN at h4; omega
    · exact h5
theorem end_low {l : List Nd} {a : Nat} (ha : a < l.length) : a < endN l a := (end_spec ha).1
theorem end_le {l : List Nd} {a : Nat} (ha : a < l.length) : endN l a ≤ l.length := (end_spec ha).2.1
theorem bel_self {l : List Nd} (m : Int) : Bel l m m := ⟨0, rfl⟩
theorem bel_trans {l : List Nd} {a b c : Int} (h1 : Bel l a b) (h2 : Bel l b c) : Bel l a c := by
  obtain ⟨k, hk⟩ := h1
  obtain ⟨j, hj⟩ := h2
  exact ⟨j + k, by rw [upN_add, hj, hk]⟩
theorem bel_step {l : List Nd} (m : Nat) : Bel l (nd l m).p m := ⟨1, par_nat l m⟩
theorem bel_up {l : List Nd} {a : Int} {m : Nat} (hb : Bel l a m) (hne : a ≠ m) : Bel l a (nd l m).p := by
  obtain ⟨k, hk⟩ := hb
  cases k with
  | zero => exact absurd hk.symm hne
  | succ k =>
    refine ⟨k, ?_⟩
    rw [Nat.add_comm, upN_add] at hk
    have e : upN l 1 (m : Int) = (nd l m).p := par_nat l m
    rw [e] at hk
    exact hk
section
variable {l : List Nd} (h : FormedT l)
include h
theorem par_bel {i : Nat} (h0 : 0 < i) (hi : i < l.length) : 0 ≤ (nd l i).p ∧ ∃ s, upN l s ((i : Int) - 1) = (nd l i).p := by
  obtain ⟨h1, h2⟩ := ok_pos h0 (h.2 i hi).1
  exact ⟨h1, _, h2⟩
theorem par_lt {i : Nat} (hi : i < l.length) : -1 ≤ (nd l i).p ∧ (nd l i).p < i := h.low i hi
theorem bel_le {a m : Int} (h0 : -1 ≤ m) (hm : m < l.length) (hb : Bel l a m) : a ≤ m := by
  obtain ⟨k, hk⟩ := hb
  have := (h.low.up h0 hm k).2.1
  omega
theorem bel_prev {a : Int} {m : Nat} (hm : m < l.length) (h0 : 0 < m) (hb : Bel l a m) (hne : a ≠ m) : Bel l a ((m : Int) - 1) := by
  obtain ⟨_, s, hs⟩ := par_bel h h0 hm
  exact bel_trans (bel_up hb hne) ⟨s, hs⟩
theorem bel_between {a n : Nat} (hn : n < l.length) (hb : Bel l a n) {m : Nat} (h1 : a ≤ m) (h2 : m ≤ n) : Bel l a m := by
  obtain ⟨d, hd⟩ : ∃ d, n = m + d := ⟨n - m, by omega⟩
  induction d generalizing n with
  | zero => obtain rfl : n = m := by omega
            exact hb
  | succ d ih =>
    have h3 := bel_prev h hn (by omega) hb (by omega)
    rw [show ((n : Int) - 1) = ((n - 1 : Nat) : Int) by omega] at h3
    exact ih (n := n - 1) (by omega) h3 (by omega) (by omega)
theorem bel_end {a n : Nat} (ha : a < l.length) (hn : n < l.length) : Bel l a n ↔ a ≤ n ∧ n < endN l a := by
  obtain ⟨e1, e2, e3, e4⟩ := end_spec ha
  constructor
  · intro hb
    have h1 := bel_le h (by omega) (by omega) hb
    refine ⟨by omega, ?_⟩
    rcases Nat.lt_or_ge n (endN l a) with hc | hc
    · exact hc
    · exfalso
      have h2 := bel_between h hn hb (m := endN l a) (by omega) hc
      have h3 := bel_up h2 (by omega)
      have h4 := (par_lt h (i := endN l a) (by omega)).1
      have h6 := (par_lt h (i := endN l a) (by omega)).2
      have h5 := bel_le h h4 (by omega) h3
      have := e4 (by omega)
      omega
  · rintro ⟨h1, h2⟩
    induction n using Nat.strongRecOn with
    | ind n ih =>
      rcases Nat.eq_or_lt_of_le h1 with he | hl
      · rw [he]; exact bel_self _
      · have h3 := e3 n hl h2
        have h4 := (par_lt h hn).2
        obtain ⟨q, hq⟩ := Int.eq_ofNat_of_zero_le (a := (nd l n).p) (by omega)
        have h5 := ih q (by omega) (by omega) (by omega) (by omega)
        have h6 := bel_step (l := l) n
        rw [hq] at h6
        exact bel_trans h5 h6
theorem end_kid_le {c m : Nat} (hc : c < l.length) (hm : m < l.length) (hp : (nd l c).p = m) : endN l c ≤ endN l m := by
  have h1 := end_low hc
  have h2 := end_le hc
  have h3 := (bel_end h hc (n := endN l c - 1) (by omega)).2 ⟨by omega, by omega⟩
  have h4 := bel_step (l := l) c
  rw [hp] at h4
  have h5 := ((bel_end h hm (n := endN l c - 1) (by omega)).1 (bel_trans h4 h3)).2
  omega
theorem end_of_kids {m e : Nat} (hm : m < l.length) (h1 : m + 1 ≤ e) (h2 : ∀ c, m < c → c < l.length → (nd l c).p = m → endN l c ≤ e) : endN l m ≤ e := by
  rcases Nat.lt_or_ge e (endN l m) with hc | hc
  · exfalso
    have he : e < l.length := Nat.lt_of_lt_of_le hc (end_le hm)
    obtain ⟨k, hk⟩ := (bel_end h hm he).2 ⟨by omega, hc⟩
    cases k with
    | zero => have : (e : Int) = m := hk
              omega
    | succ k =>
      have hk' : par l (upN l k e) = m := hk
      have h0 : 0 ≤ upN l k e := by
        rcases Int.lt_or_le (upN l k e) 0 with h3 | h3
        · rw [par_neg h3] at hk'; omega
        · exact h3
      obtain ⟨c, hcx⟩ := Int.eq_ofNat_of_zero_le h0
      have h3 := h.low.up (m := (e : Int)) (by omega) (by omega) k
      rw [hcx] at hk' h3
      rw [par_nat] at hk'
      have h4 := (par_lt h (i := c) (by omega)).2
      have h5 := h2 c (by omega) (by omega) hk'
      have h6 := ((bel_end h (a := c) (by omega) he).1 ⟨k, hcx⟩).2
      omega
  · exact hc
theorem kid_first {m : Nat} (hm : m < l.length) (h1 : m + 1 < endN l m) : (nd l (m + 1)).p = m := by
  have h2 := (end_spec hm).2.2.1 (m + 1) (by omega) h1
  have h3 := end_le hm
  have h4 := (par_lt h (i := m + 1) (by omega)).2
  omega
theorem kid_next {c m : Nat} (hc : c < l.length) (hm : m < l.length) (hp : (nd l c).p = m) (h1 : endN l c < endN l m) : (nd l (endN l c)).p = m := by
  obtain ⟨e1, e2, e3, e4⟩ := end_spec hc
  have h2 := end_le hm
  have h3 := e4 (by omega)
  have hcm := (par_lt h hc).2
  have h4 := (end_spec hm).2.2.1 (endN l c) (by omega) h1
  obtain ⟨_, s, hs⟩ := par_bel h (i := endN l c) (by omega) (by omega)
  obtain ⟨k, hk⟩ := (bel_end h hc (n := endN l c - 1) (by omega)).2 ⟨by omega, by omega⟩
  rw [show ((endN l c - 1 : Nat) : Int) = (endN l c : Int) - 1 by omega] at hk
  rcases Nat.lt_or_ge k s with hks | hks
  · have e5 : s = k + (1 + (s - k - 1)) := by omega
    rw [e5, upN_add, hk, upN_add] at hs
    have e6 : upN l 1 (c : Int) = (nd l c).p := par_nat l c
    rw [e6, hp] at hs
    have h5 := (h.low.up (m := (m : Int)) (by omega) (by omega) (s - k - 1)).2.1
    omega
  · have e5 : k = s + (k - s) := by omega
    rw [e5, upN_add, hs] at hk
    have h5 := (par_lt h (i := endN l c) (by omega))
    have h6 := (h.low.up (m := (nd l (endN l c)).p) h5.1 (by omega) (k - s)).2.1
    omega
end
def inB (l : List Nd) (n : Int) : Bool := decide (0 ≤ n) && decide (n < l.length)
theorem inB_nat {l : List Nd} {n : Nat} (h : n < l.length) : inB l n = true := by unfold inB; simp; omega
theorem inB_iff {l : List Nd} {n : Int} : inB l n = true ↔ ∃ k : Nat, k < l.length ∧ n = k := by
  unfold inB
  rw [Bool.and_eq_true, decide_eq_true_iff, decide_eq_true_iff]
  constructor
  · rintro ⟨h1, h2⟩
    exact ⟨n.toNat, by omega, by omega⟩
  · rintro ⟨k, h1, rfl⟩
    omega
def kidB (l : List Nd) (n : Int) (k : Nat) : Bool := decide (0 < k) && ((nd l k).p == n)
def kidsTo (l : List Nd) (n : Int) (m : Nat) : List Int := ((List.range m).filter (kidB l n)).map fun (k : Nat) => (k : Int)
theorem kids_step (l : List Nd) (n : Int) (m : Nat) : kidsTo l n (m + 1) = kidsTo l n m ++ (if kidB l n m then [(m : Int)] else []) := by
  unfold kidsTo
  rw [List.range_succ, List.filter_append, List.map_append]
  cases hb : kidB l n m <;> simp [hb]
theorem kids_skip {l : List Nd} {n : Int} {a b : Nat} (hab : a ≤ b) (hk : ∀ k, a ≤ k → k < b → kidB l n k = false) : kidsTo l n b = kidsTo l n a := by
  obtain ⟨d, rfl⟩ : ∃ d, b = a + d := ⟨b - a, by omega⟩
  induction d with
  | zero => rfl
  | succ d ih =>
    rw [show a + (d + 1) = a + d + 1 by omega, kids_step, hk (a + d) (by omega) (by omega), ih (by omega) fun k h1 h2 => hk k h1 (by omega)]
    simp
theorem kids_length (l : List Nd) (n : Int) (m : Nat) : (kidsTo l n m).length ≤ m := by
  unfold kidsTo
  rw [List.length_map]
  have := List.length_filter_le (kidB l n) (List.range m)
  rw [List.length_range] at this
  exact this
theorem kids_mem {l : List Nd} {n : Int} {m : Nat} {x : Int} (hx : x ∈ kidsTo l n m) : ∃ k : Nat, k < m ∧ x = k := by
  unfold kidsTo at hx
  obtain ⟨k, hk, rfl⟩ := List.mem_map.1 hx
  exact ⟨k, List.mem_range.1 (List.mem_filter.1 hk).1, rfl⟩
theorem kids_on {l : List Nd} (h : FormedT l) {n c : Nat} (hc : c < l.length) (hp : (nd l c).p = n) : kidsTo l n (endN l c) = kidsTo l n c ++ [(c : Int)] := by
  obtain ⟨e1, e2, e3, e4⟩ := end_spec hc
  have h1 := (par_lt h hc).2
  have e : kidsTo l n (endN l c) = kidsTo l n (c + 1) := kids_skip (by omega) fun k h2 h3 => by
    have h4 := e3 k (by omega) h3
    unfold kidB
    have : ((nd l k).p == (n : Int)) = false := by simp; omega
    rw [this, Bool.and_false]
  rw [e, kids_step]
  have : kidB l n c = true := by unfold kidB; rw [hp]; simp; omega
  rw [this]; rfl
section
variable {l : List Nd} (h : FormedT l) {n : Nat} (hn : n < l.length)
include h hn
theorem kids_begin : kidsTo l n (n + 1) = [] := by
  have e : kidsTo l n (n + 1) = kidsTo l n 0 := kids_skip (by omega) fun k _ h2 => by
    have h3 := (par_lt h (i := k) (by omega)).2
    unfold kidB
    have : ((nd l k).p == (n : Int)) = false := by simp; omega
    rw [this, Bool.and_false]
  rw [e]; rfl
theorem kids_end : kidsTo l n l.length = kidsTo l n (endN l n) := kids_skip (end_le hn) fun k h2 h3 => by
  unfold kidB
  cases hq : ((nd l k).p == (n : Int))
  · rw [Bool.and_false]
  · exfalso
    have hq' : (nd l k).p = n := by simpa using hq
    have h4 := bel_step (l := l) k
    rw [hq'] at h4
    have := ((bel_end h hn h3).1 h4).2
    omega
end
def shownB (l : List Nd) (n : Int) : Bool := (nd l n.toNat).s.shown
def madeB (l : List Nd) (n : Int) : Bool := decide (∀ k, k < deep l n → shownB l (upN l k n) = true)
def outB (l : List Nd) (n : Int) : Bool := decide (0 < n) && (madeB l n && decide (2 ≤ (nd l n.toNat).s.pos))
theorem out_root (l : List Nd) : outB l (0 : Nat) = false := by unfold outB; simp
section
variable {l : List Nd} (h : FormedT l)
include h
theorem deep_root : deep l (0 : Nat) = 1 := deep_zero h.1 (h.2 0 h.1).1
theorem deep_par {i : Nat} (h0 : 0 < i) (hi : i < l.length) : deep l i = 1 + deep l (nd l i).p := by
  have h4 := deep_up (m := (i : Int)) (n := l.length) (Nat.le_refl _) h.low (by omega) (by omega) (k := 1) (fun j hj => by
    obtain rfl : j = 0 := by omega
    show (0 : Int) ≤ i; omega)
  have e : upN l 1 (i : Int) = (nd l i).p := par_nat l i
  rw [e] at h4
  exact h4
theorem deep_len {i : Nat} (hi : i < l.length) : deep l i ≤ i + 1 := by
  have := deep_le (m := (i : Int)) (n := l.length) (Nat.le_refl _) h.low (by omega) (by omega)
  omega
theorem made_root : madeB l (0 : Nat) = (nd l 0).s.shown := by
  unfold madeB
  rw [deep_root h]
  refine dec_eq ⟨fun hk => hk 0 (by omega), fun hs k hk => ?_⟩
  obtain rfl : k = 0 := by omega
  exact hs
theorem made_par {i : Nat} (h0 : 0 < i) (hi : i < l.length) : madeB l i = ((nd l i).s.shown && madeB l (nd l i).p) := by
  unfold madeB
  rw [deep_par h h0 hi]
  refine dec_eq ?_
  have e : upN l 1 (i : Int) = (nd l i).p := par_nat l i
  rw [Bool.and_eq_true, decide_eq_true_iff]
  constructor
  · intro hk
    refine ⟨hk 0 (by omega), fun k h1 => ?_⟩
    have := hk (1 + k) (by omega)
    rw [upN_add, e] at this
    exact this
  · rintro ⟨h1, h2⟩ k hk
    cases k with
    | zero => exact h1
    | succ k =>
      rw [Nat.add_comm, upN_add, e]
      exact h2 k (by omega)
theorem out_pos {i : Nat} (h0 : 0 < i) (hi : i < l.length) : outB l i = (madeB l i && ((nd l i).s.pos == 2 || (nd l i).s.pos == 3)) := by
  have hf := (of_decide_eq_true (h.2 i hi).2 : FormedP (nd l i).s).2.2.2.2
  unfold outB
  have e1 : decide ((0 : Int) < (i : Int)) = true := decide_eq_true (by omega)
  have e2 : ((i : Int)).toNat = i := by omega
  have e3 : decide (2 ≤ (nd l i).s.pos) = ((nd l i).s.pos == 2 || (nd l i).s.pos == 3) := dec_eq (by rw [Bool.or_eq_true, beq_iff_eq, beq_iff_eq]; omega)
  rw [e1, e2, e3, Bool.true_and]
end
def flowF (l : List Nd) (x : Int) : Bool := madeB l x && !outB l x
def flowTo (l : List Nd) (n : Int) (m : Nat) : List Int := (kidsTo l n m).filter (flowF l)
theorem flow_step (l : List Nd) (n : Int) (m : Nat) : flowTo l n (m + 1) = flowTo l n m ++ (if kidB l n m && flowF l m then [(m : Int)] else []) := by
  unfold flowTo
  rw [kids_step, List.filter_append]
  cases hb : kidB l n m
  · simp
  · cases hf : flowF l m <;> simp [hf]
theorem flow_length (l : List Nd) (n : Int) (m : Nat) : (flowTo l n m).length ≤ m := Nat.le_trans (List.length_filter_le _ _) (kids_length l n m)
def kidsV (l : List Nd) (n : Int) : List Int := if inB l n then kidsTo l n l.length else []
def flowV (l : List Nd) (n : Int) : List Int := if inB l n then flowTo l n l.length else []
def endV (l : List Nd) (n : Int) : Nat := if inB l n then endN l n.toNat else 0
def belV (l : List Nd) (a n : Int) : Bool := inB l a && (decide (a ≤ n) && decide (n < endV l a))
theorem flowV_kids (l : List Nd) (n : Int) : flowV l n = (kidsV l n).filter (flowF l) := by
  unfold flowV kidsV
  split <;> rfl
end Go.Proofs.YtngeaigkafamiaaGreat
namespace Go.Proofs.YtngeaigkafamiaaGreat
open Go.ChangeShapes Go.WideShapes Go.ChangeAt Go.RowKit
set_option maxRecDepth 100000
theorem info23 : (Tryz.prog.info? 63).map (fun i => (i.zero, i.size, i.bytes)) = some (some (.agg #[.int .i64 0, .int .i64 0]), 2, 16) := by kernel_rfl
def RowL (l : List Ln) (w : World) (e : Ending) (w' : World) : Prop :=
  (∃ v, e = .returned v ∧ w'.ownsRow w.heap.size 63 2 v l.length (flatL l)) ∧ Seen w w'
set_option maxHeartbeats 2000000 in
theorem grow_nil (n : Nat) (w : World) (h0 : 0 < n) (hn : n ≤ 1000000) :
    Calls Tryz.prog 109 #[.slice none 0 0, .int .i64 n] w (RowL [] w) := by
  obtain ⟨i0, hi, hz0, hz1, hz2⟩ := info_parts info23
  have h1 : ¬ ((n : Int) < 0) := by omega
  have h4 : (n : Int) > 0 := by omega
  have hr := fun ty => Lib.run_append_nil_zeros w 117 3 ty 63 i0 _ .i64 .i64 Tryz.underlying117 Tryz.underlying3 hi hz0 n h0 (by rw [hz1]; omega) (by omega) (by rw [hz2]; omega)
  have hge := grownCap_ge w n 0 63
  have hle := grownCap_le_maxLen w n 0 63 (by unfold maxLen; omega)
  obtain ⟨G, hG⟩ : ∃ G, G = grownCap w n 0 63 := ⟨_, rfl⟩
  rw [← hG] at hr hge hle
  have hG63 : G ≤ 9223372036854775807 := by unfold maxLen at hle; omega
  have HR := Lib.hid hr
  clear hr hG
  go_enter Tryz.func109, Tryz.ntmps109
  go_wp2_with (at_builtin; refine Lib.wpList_append_run _ rfl _ _ _ _ rfl _ _ rfl rfl _ _ (HR.out _) ?_)
  all_goals
    go_ret
    refine ⟨⟨_, rfl, ?_⟩, ((Seen.refl w).drew).alloc _⟩
    refine World.ownsRow_made (base := w.heap.size) w.drew _ G (Nat.le_refl _) hle ?_
    rw [Array.size_append, size_zeroCells, size_zeroCells, ← Nat.add_mul, show n + (G - n) = G by omega]
    rfl
structure Pt where
  a : Option Addr
  n : Nat
  c : Nat
  l : List Ln
def pv (q : Pt) : Value := .slice q.a q.n q.c
def allL (ps : List Pt) : List Ln := ps.flatMap Pt.l
def ptat (ps : List Pt) (i : Nat) : Pt := ps.getD i ⟨none, 0, 0, []⟩
theorem ptat_eq {ps : List Pt} {i : Nat} (h : i < ps.length) : ptat ps i = ps[i] := by
  unfold ptat; rw [List.getD_eq_getElem?_getD, List.getElem?_eq_getElem h]; rfl
theorem allL_step {ps : List Pt} {k : Nat} (h : k < ps.length) : allL (ps.take (k + 1)) = allL (ps.take k) ++ (ptat ps k).l := by
  unfold allL
  rw [List.take_succ_eq_append_getElem h, List.flatMap_append, ptat_eq h]; simp
theorem allL_le (ps : List Pt) (k : Nat) : (allL (ps.take k)).length ≤ (allL ps).length := by
  have : allL ps = allL (ps.take k) ++ allL (ps.drop k) := by unfold allL; rw [← List.flatMap_append, List.take_append_drop]
  rw [this, List.length_append]; omega
set_option maxHeartbeats 4000000 in
theorem concat_any (ps : List Pt) (b off m c : Nat) (w : World) (hm : ps.length = m) (hc : ∀ i, i < m → w.cell? ⟨b, off + i, none⟩ = some (pv (ptat ps i)))
    (hs : ∀ i, i < m → (ptat ps i).l.length = (ptat ps i).n ∧ SrcC w (pv (ptat ps i)) (ptat ps i).n 2 (flatL (ptat ps i).l)) (h0 : 0 < (allL ps).length) (hn : (allL ps).length ≤ 1000000) (hm6 : m ≤ 1000000) :
    Calls Tryz.prog 100 #[.slice (some ⟨b, off, none⟩) m c] w (RowL (allL ps) w) := by
  obtain ⟨i0, hi, hz0, hz1, hz2⟩ := info_parts info23
  have HC := Lib.hid hc
  have HS := Lib.hid hs
  have HM := Lib.hid hm
  clear hc hs hm
  go_enter Tryz.func100, Tryz.ntmps100
  go_wp2_with fail
  go_loopw [3, 11] (fun s i wr => ∃ k : Nat, k ≤ m ∧ s = .int .i64 ((allL (ps.take k)).length : Nat) ∧ i = .int .i64 k ∧ w = wr) (fun _ i _ => m - (intOf i).toNat)
  case atStart => exact ⟨0, Nat.zero_le _, rfl, rfl, rfl⟩
  case round =>
    obtain ⟨k, hk, rfl, rfl, rfl⟩ := hrel
    by_cases hlt : k < m
    · have hkm : (k : Int) < (m : Int) := by omega
      have ck := HC.out k hlt
      unfold pv at ck
      have hst : Hid (allL (ps.take (k + 1)) = allL (ps.take k) ++ (ptat ps k).l) := allL_step (by rw [HM.out]; exact hlt)
      have hle := allL_le ps (k + 1)
      have hsum : Hid ((allL (ps.take (k + 1))).length = (allL (ps.take k)).length + (ptat ps k).n) := by
        unfold Hid; rw [hst.out, List.length_append, (HS.out k hlt).1]
      have hle2 : (allL (ps.take k)).length + (ptat ps k).n ≤ 1000000 := by have := hsum.out; omega
      obtain ⟨S, hS⟩ : ∃ S, (allL (ps.take k)).length = S := ⟨_, rfl⟩
      rw [hS] at hle2 hsum ⊢
      have hneg : ¬ ((S : Int) + ((ptat ps k).n : Int) < 0) := by omega
      clear hle hS
      go_wp2_with fail
      refine ⟨⟨k + 1, hlt, by rw [hsum.out]; go_num, by go_num, trivial⟩, by simp [intOf]; omega⟩
    · have hkm : ¬ (k : Int) < (m : Int) := by omega
      have hall : Hid (allL (ps.take k) = allL ps) := by unfold Hid; rw [List.take_of_length_le (by rw [HM.out]; omega)]
      rw [hall.out]
      go_wp2_with (go_at_call 109; refine (grow_nil _ _ h0 hn).mono ?_; rintro _ w1 ⟨⟨v1, rfl, ho1⟩, hs1⟩; have R1 := Lib.hid (And.intro ho1 hs1); clear ho1 hs1)
      go_loopw [6, 27] (fun v i wz => ∃ k : Nat, k ≤ m ∧ i = .int .i64 k ∧ wz.ownsRow w.heap.size 63 2 v (allL (ps.take k)).length (flatL (allL (ps.take k))) ∧ Seen w wz) (fun _ i _ => m - (intOf i).toNat)
      case atStart => exact ⟨0, Nat.zero_le _, rfl, R1.out.1, R1.out.2⟩
      case round =>
        obtain ⟨j, hj, rfl, ho, hsn⟩ := hrel
        have HO := Lib.hid ho
        have HN := Lib.hid hsn
        clear ho hsn
        by_cases hlt2 : j < m
        · have hjm : (j : Int) < (m : Int) := by omega
          have cj := HN.out.cell (HC.out j hlt2)
          unfold pv at cj
          have hst : Hid (allL (ps.take (j + 1)) = allL (ps.take j) ++ (ptat ps j).l) := allL_step (by rw [HM.out]; exact hlt2)
          have hle := allL_le ps (j + 1)
          have hsum : Hid ((allL (ps.take (j + 1))).length = (allL (ps.take j)).length + (ptat ps j).n) := by
            unfold Hid; rw [hst.out, List.length_append, (HS.out j hlt2).1]
          have hle2 : (allL (ps.take j)).length + (ptat ps j).n ≤ 1000000 := by have := hsum.out; omega
          have hsrc : Hid (SrcC wr (.slice (ptat ps j).a (ptat ps j).n (ptat ps j).c) (ptat ps j).n 2 (flatL (ptat ps j).l)) := src_seen (HS.out j hlt2).2 HN.out
          go_wp2_with (at_builtin; refine wpList_append_src _ rfl (.tmp 31) (.tmp 32) 117 rfl 63 i0 _ 2 16 Tryz.underlying117 hi hz0 hz1 hz2 rfl (by decide) w.heap.size _ _ _ rfl HO.out (.slice (ptat ps j).a (ptat ps j).n (ptat ps j).c) (ptat ps j).n (flatL (ptat ps j).l) rfl hsrc.out (flatL_one _) (by unfold maxLen; omega) (by omega) HN.out.size ?_
                       intro v2 w2 ho2 hg2 hat2
                       have R2 := Lib.hid (And.intro ho2 hg2)
                       clear ho2 hg2 hat2)
          obtain ⟨ho2, hg2⟩ := R2.out
          refine ⟨⟨j + 1, hlt2, by go_num, by rw [hsum.out, hst.out, flatL_append]; exact ho2, Below.grown HN.out hg2 HN.out.size (fun i hi => (HO.out.lt i hi).1)⟩, by simp [intOf]; omega⟩
        · have hjm : ¬ (j : Int) < (m : Int) := by omega
          have hall2 : Hid (allL (ps.take j) = allL ps) := by unfold Hid; rw [List.take_of_length_le (by rw [HM.out]; omega)]
          go_wp2_with fail
          go_ret
          have := HO.out
          rw [hall2.out] at this
          exact ⟨⟨_, rfl, this⟩, HN.out⟩
end Go.Proofs.YtngeaigkafamiaaGreat
namespace Go.Proofs.YtngeaigkafamiaaGreat
open Go.ChangeShapes Go.WideShapes Go.ChangeAt Go.RowKit
set_option maxRecDepth 100000
def sv (s : Sty) : Value := .agg (stl s).toArray
def Hs (w : World) (X : Nat) (s : Sty) : Prop := w.heap[X]? = some (.cells (stl s).toArray 66)
theorem hs_new (w : World) (s : Sty) : Hs (w.alloc (.cells (stl s).toArray 66)) w.heap.size s := World.alloc_heap_new w _
section
variable {w : World} {X : Nat} {s : Sty}
theorem Hs.at (h : Hs w X s) (j : Nat) : w.cell? ⟨X, j, none⟩ = (stl s)[j]? := by
  rw [Go.Joins.cell_of_block h]; simp
theorem Hs.lt (h : Hs w X s) : X < w.heap.size := by
  rcases Nat.lt_or_ge X w.heap.size with h1 | h1
  · exact h1
  · unfold Hs at h; rw [Array.getElem?_eq_none h1] at h; cases h
theorem Hs.seen (h : Hs w X s) {w' : World} (hs : Seen w w') : Hs w' X s := (hs.block X h.lt).trans h
theorem Hs.range (h : Hs w X s) (k m : Nat) : w.rangeAt X k (((stl s).drop k).take m) := fun j v hj => by
  rw [h.at]
  have hjm : j < m := by
    rcases Nat.lt_or_ge j m with h1 | h1
    · exact h1
    · rw [List.getElem?_eq_none (by simp; omega)] at hj; cases hj
  rw [List.getElem?_take_of_lt hjm, List.getElem?_drop] at hj
  exact hj
theorem Hs.free (h : Hs w X s) (j : Nat) : w.frozen? ⟨X, j, none⟩ = false := by
  unfold Hs at h
  simp [World.frozen?, h]
end
theorem stl_drop2 {s : Sty} (h : Full s) {i m : Nat} (hi : i + m ≤ 18) : ((stl s).drop (2 + i * 2)).take (m * 2) = flatL ((s.lens.drop i).take m) := by
  have hl := flatL_length s.lens
  rw [h.lens] at hl
  unfold stl
  rw [List.drop_append, List.drop_of_length_le (by simp), List.nil_append, show 2 + i * 2 - [Value.bool s.shown, Value.int IntKind.i64 s.pos].length = i * 2 by simp, List.drop_append_of_le_length (by rw [hl]; omega),
    List.take_append_of_le_length (by rw [List.length_drop, hl]; omega), flatL_drop, flatL_take]
theorem info27 : (Tryz.prog.info? 66).map (·.size) = some 48 := by kernel_rfl
theorem info24 : (Tryz.prog.info? 64).map (·.size) = some 8 := by kernel_rfl
theorem wpList_loadS {ops : Array Oper} {rest : List Oper} {op : Oper} {a : Act} {w : World} {Q : Exit → Act → World → Prop} (hgd : op.guard = none) (x : Operand) (ho : op.op = .load 66 x) (X : Nat) (s : Sty)
    (hx : a.eval x = .pointer (some ⟨X, 0, none⟩)) (hf : Full s) (hs : Hs w X s) (h : wpList Tryz.prog ops Q rest (a.put op.dst (sv s)) w) : wpList Tryz.prog ops Q (op :: rest) a w := by
  have hr := hs.range 0 48
  rw [List.drop_zero, List.take_of_length_le (by rw [hf.len]; omega)] at hr
  exact wpList_load_mid hgd 66 x ho X 0 hx (stl s) _ hr Tryz.underlying66 rfl (by rw [hf.len]; exact info27) h
theorem wpList_load4 {ops : Array Oper} {rest : List Oper} {op : Oper} {a : Act} {w : World} {Q : Exit → Act → World → Prop} (hgd : op.guard = none) (x : Operand) (ho : op.op = .load 64 x) (X i : Nat) (s : Sty)
    (hx : a.eval x = .pointer (some ⟨X, 2 + i * 2, none⟩)) (hf : Full s) (hi : i + 4 ≤ 18) (hs : Hs w X s) (h : wpList Tryz.prog ops Q rest (a.put op.dst (.agg (flatL ((s.lens.drop i).take 4)).toArray)) w) : wpList Tryz.prog ops Q (op :: rest) a w := by
  have hr := hs.range (2 + i * 2) (4 * 2)
  rw [stl_drop2 hf hi] at hr
  exact wpList_load_mid hgd 64 x ho X (2 + i * 2) hx _ _ hr Tryz.underlying64 rfl (by rw [flatL_length, List.length_take, List.length_drop, hf.lens, Nat.min_eq_left (by omega)]; exact info24) h
def six (s : Sty) : List Ln := (s.lens.drop 4).take 6
theorem six_length {s : Sty} (h : Full s) : (six s).length = 6 := by simp [six, h.lens]
theorem list6 {l : List Ln} (h : l.length = 6) : flatL l = [.int .i64 (lat l 0).k, .int .i64 (lat l 0).n, .int .i64 (lat l 1).k, .int .i64 (lat l 1).n, .int .i64 (lat l 2).k, .int .i64 (lat l 2).n, .int .i64 (lat l 3).k, .int .i64 (lat l 3).n, .int .i64 (lat l 4).k, .int .i64 (lat l 4).n, .int .i64 (lat l 5).k, .int .i64 (lat l 5).n] := by
  match l, h with
  | [a, b, c, d, e, f], _ => rfl
theorem six_at (s : Sty) {i : Nat} (h : i < 6) : lat (six s) i = lat s.lens (4 + i) := by
  unfold six; rw [lat_take h, lat_drop]
set_option maxHeartbeats 4000000 in
theorem sizes_any (s : Sty) (hf : Full s) (w : World) : Calls Tryz.prog 85 #[sv s] w fun e w' => e = .returned (.agg (flatL (six s)).toArray) ∧ Seen w w' := by
  have HF := Lib.hid hf
  obtain ⟨a0, b0⟩ := stl_len hf (i := 4) (by omega)
  obtain ⟨a1, b1⟩ := stl_len hf (i := 5) (by omega)
  obtain ⟨a2, b2⟩ := stl_len hf (i := 6) (by omega)
  obtain ⟨a3, b3⟩ := stl_len hf (i := 7) (by omega)
  obtain ⟨a4, b4⟩ := stl_len hf (i := 8) (by omega)
  obtain ⟨a5, b5⟩ := stl_len hf (i := 9) (by omega)
  simp only [Nat.reduceAdd, Nat.reduceMul] at a0 b0 a1 b1 a2 b2 a3 b3 a4 b4 a5 b5
  clear hf
  unfold sv
  go_enter Tryz.func85, Tryz.ntmps85
  go_wp2_with fail
  go_returns
  refine ⟨?_, by unfold Seen; go_grown⟩
  rw [list6 (six_length HF.out)]
  simp only [six_at s (show 0 < 6 by omega), six_at s (show 1 < 6 by omega), six_at s (show 2 < 6 by omega), six_at s (show 3 < 6 by omega), six_at s (show 4 < 6 by omega), six_at s (show 5 < 6 by omega)]
theorem range_seen {w w' : World} {b o : Nat} {cs : List Value} (h : w.rangeAt b o cs) (hs : Seen w w') : w'.rangeAt b o cs := fun j v hj => hs.cell (h j v hj)
theorem src_of_range {w : World} {b o m c : Nat} {cs : List Value} (h : w.rangeAt b o cs) (hl : cs.length = m * 2) : SrcC w (.slice (some ⟨b, o, none⟩) m c) m 2 cs :=
  .inr ⟨⟨b, o, none⟩, c, rfl, hl, fun j v hj => by rw [add_plain]; exact h j v hj⟩
def parts (s : Sty) (X Y : Nat) : List Pt :=
  [⟨some ⟨X, 2, none⟩, 4, 4, (s.lens.drop 0).take 4⟩, ⟨some ⟨Y, 0, none⟩, 6, 6, six s⟩, ⟨some ⟨X, 22, none⟩, 4, 4, (s.lens.drop 10).take 4⟩, ⟨some ⟨X, 30, none⟩, 4, 4, (s.lens.drop 14).take 4⟩]
theorem parts_all {s : Sty} (h : Full s) (X Y : Nat) : allL (parts s X Y) = s.lens := by
  have hl := h.lens
  unfold parts allL six
  generalize s.lens = l at hl
  match l, hl with
  | [_, _, _, _, _, _, _, _, _, _, _, _, _, _, _, _, _, _], _ => rfl
theorem parts_src {s : Sty} (h : Full s) {w : World} {X Y : Nat} (hx : Hs w X s) (hy : w.rangeAt Y 0 (flatL (six s))) :
    ∀ i, i < 4 → (ptat (parts s X Y) i).l.length = (ptat (parts s X Y) i).n ∧ SrcC w (pv (ptat (parts s X Y) i)) (ptat (parts s X Y) i).n 2 (flatL (ptat (parts s X Y) i).l) := by
  have key : ∀ i, i + 4 ≤ 18 → ((s.lens.drop i).take 4).length = 4 ∧ SrcC w (.slice (some ⟨X, 2 + i * 2, none⟩) 4 4) 4 2 (flatL ((s.lens.drop i).take 4)) := fun i hi => by
    have hl : ((s.lens.drop i).take 4).length = 4 := by rw [List.length_take, List.length_drop, h.lens]; omega
    refine ⟨hl, src_of_range ?_ (by rw [flatL_length, hl])⟩
    have hr := hx.range (2 + i * 2) (4 * 2)
    rwa [stl_drop2 h hi] at hr
  intro i hi
  match i, hi with
  | 0, _ => exact key 0 (by omega)
  | 1, _ => exact ⟨six_length h, src_of_range hy (by rw [flatL_length]; exact congrArg (· * 2) (six_length h))⟩
  | 2, _ => exact key 10 (by omega)
  | 3, _ => exact key 14 (by omega)
set_option maxHeartbeats 4000000 in
theorem lengths_any (s : Sty) (hf : Full s) (w : World) : Calls Tryz.prog 83 #[sv s] w (RowL s.lens w) := by
  have HF := Lib.hid hf
  clear hf
  obtain ⟨W0, hW0⟩ : ∃ W0, W0 = w.alloc (.cells (stl s).toArray 66) := ⟨_, rfl⟩
  have H0 : Hid (Hs W0 w.heap.size s) := by rw [hW0]; exact hs_new w s
  have S0 : Hid (Seen w W0) := by rw [hW0]; exact (Seen.refl w).alloc _
  unfold sv
  go_enter Tryz.func83, Tryz.ntmps83
  go_wp2_with (first
    | (rw [← hW0]; clear hW0; refine wpList_loadS rfl _ rfl w.heap.size s rfl HF.out H0.out ?_)
    | (go_at_call 85; refine (sizes_any s HF.out _).mono ?_; rintro _ w1 ⟨rfl, hs1⟩; rw [list6 (six_length HF.out)]; have S1 := Lib.hid hs1; clear hs1))
  obtain ⟨W2, hW2⟩ : ∃ W2, W2 = w1.alloc (.cells (flatL (six s)).toArray 179) := ⟨_, rfl⟩
  have hW2' := hW2
  rw [list6 (six_length HF.out)] at hW2
  rw [← hW2]
  have HY : Hid (W2.rangeAt w1.heap.size 0 (flatL (six s))) := by
    rw [hW2']
    intro j v hj
    rw [World.cell?_alloc_new]
    simpa using hj
  have S2 : Hid (Seen W0 W2) := by rw [hW2']; exact S1.out.alloc _
  have HX : Hid (Hs W2 w.heap.size s) := H0.out.seen S2.out
  clear hW2 hW2'
  have hq : ∀ i, i < 4 → (W2.alloc (.cells #[.slice (some ⟨w.heap.size, 2, none⟩) 4 4, .slice (some ⟨w1.heap.size, 0, none⟩) 6 6, .slice (some ⟨w.heap.size, 22, none⟩) 4 4, .slice (some ⟨w.heap.size, 30, none⟩) 4 4] 117)).drew.cell? ⟨W2.heap.size, 0 + i, none⟩ = some (pv (ptat (parts s w.heap.size w1.heap.size) i)) := by
    intro i hi
    rw [World.cell?_drew, World.cell?_alloc_new]
    match i, hi with
    | 0, _ => rfl
    | 1, _ => rfl
    | 2, _ => rfl
    | 3, _ => rfl
  have HQ := Lib.hid hq
  clear hq
  go_region_with ((go_at_call 100; refine (concat_any (parts s w.heap.size w1.heap.size) W2.heap.size 0 4 4 _ rfl HQ.out (parts_src HF.out (HX.out.seen ((Seen.refl W2).alloc _).drew) (range_seen HY.out ((Seen.refl W2).alloc _).drew)) (by rw [parts_all HF.out, HF.out.lens]; omega) (by rw [parts_all HF.out, HF.out.lens]; omega) (by omega)).mono ?_; rintro _ w3 ⟨⟨v3, rfl, ho3⟩, hs3⟩; have R3 := Lib.hid (And.intro ho3 hs3); clear ho3 hs3))
  all_goals
    go_wp2_with fail
    go_ret
    obtain ⟨h1, h2⟩ := R3.out
    rw [parts_all HF.out] at h1
    have hs : Seen w w3 := ((S0.out.trans S2.out).trans ((Seen.refl W2).alloc _).drew).trans h2
    exact ⟨⟨v3, rfl, row_more h1 (by have := (S0.out.trans S2.out).size; simp; omega)⟩, hs⟩
end Go.Proofs.YtngeaigkafamiaaGreat
namespace Go.Proofs.YtngeaigkafamiaaGreat
open Go.ChangeShapes Go.WideShapes Go.ChangeAt Go.RowKit
set_option maxRecDepth 100000
theorem Hs.two {w : World} {X : Nat} {s : Sty} (h : Hs w X s) (hf : Full s) {i : Nat} (hi : i < 18) : w.cell? ⟨X, 2 + i * 2, none⟩ = some (.int .i64 (lat s.lens i).k) ∧ w.cell? ⟨X, 2 + i * 2 + 1, none⟩ = some (.int .i64 (lat s.lens i).n) := by
  rw [h.at, h.at]; exact stl_len hf hi
theorem Hs.six {w : World} {X : Nat} {s : Sty} (h : Hs w X s) (hf : Full s) {i : Nat} (hi : i < 6) : w.cell? ⟨X, 10 + i * 2, none⟩ = some (.int .i64 (lat (six s) i).k) ∧ w.cell? ⟨X, 10 + i * 2 + 1, none⟩ = some (.int .i64 (lat (six s) i).n) := by
  rw [six_at s hi]
  have := h.two hf (i := 4 + i) (by omega)
  rw [show 2 + (4 + i) * 2 = 10 + i * 2 by omega] at this
  exact this
theorem part_src {s : Sty} (h : Full s) {w : World} {X : Nat} (hx : Hs w X s) (i : Nat) (hi : i + 4 ≤ 18) : SrcC w (.slice (some ⟨X, 2 + i * 2, none⟩) 4 4) 4 2 (flatL ((s.lens.drop i).take 4)) := by
  have hl : ((s.lens.drop i).take 4).length = 4 := by rw [List.length_take, List.length_drop, h.lens]; omega
  refine src_of_range ?_ (by rw [flatL_length, hl])
  have hr := hx.range (2 + i * 2) (4 * 2)
  rwa [stl_drop2 h hi] at hr
theorem lens_parts {s : Sty} (h : Full s) : ((s.lens.drop 0).take 4 ++ six s) ++ (s.lens.drop 10).take 4 ++ (s.lens.drop 14).take 4 = s.lens := by
  have hl := h.lens
  unfold six
  generalize s.lens = l at hl
  match l, hl with
  | [_, _, _, _, _, _, _, _, _, _, _, _, _, _, _, _, _, _], _ => rfl
theorem row6 (W : World) {l : List Ln} (h : l.length = 6) (base : Nat) (hb : base ≤ W.heap.size) : (W.alloc (.cells #[.int .i64 (lat l 0).k, .int .i64 (lat l 0).n, .int .i64 (lat l 1).k, .int .i64 (lat l 1).n, .int .i64 (lat l 2).k, .int .i64 (lat l 2).n, .int .i64 (lat l 3).k, .int .i64 (lat l 3).n, .int .i64 (lat l 4).k, .int .i64 (lat l 4).n, .int .i64 (lat l 5).k, .int .i64 (lat l 5).n] 63)).ownsRow base 63 2 (.slice (some ⟨W.heap.size, 0, none⟩) 6 6) 6 (flatL l) :=
  ⟨by rw [flatL_length, h], .inr ⟨W.heap.size, 6, _, rfl, hb, World.alloc_heap_new W _, Nat.le_refl _, by unfold maxLen; omega, rfl, by rw [list6 h]; rfl⟩⟩
set_option maxHeartbeats 8000000 in
theorem refLens_any (s : Sty) (hf : Full s) (w : World) : Calls Tryz.prog 36 #[sv s] w (RowL s.lens w) := by
  obtain ⟨i0, hi, hz0, hz1, hz2⟩ := info_parts info23
  have HF := Lib.hid hf
  clear hf
  obtain ⟨V, hV⟩ : ∃ V, V = w.alloc (.cells (stl s).toArray 66) := ⟨_, rfl⟩
  have HX : Hid (Hs V w.heap.size s) := by rw [hV]; exact hs_new w s
  have SV : Hid (Seen w V) := by rw [hV]; exact (Seen.refl w).alloc _
  have hVs : V.heap.size = w.heap.size + 1 := by rw [hV]; simp
  have HVs := Lib.hid hVs
  obtain ⟨W0, hW0⟩ : ∃ W0, W0 = V.alloc (.cells #[] 63) := ⟨_, rfl⟩
  have S0 : Hid (Seen V W0) := by rw [hW0]; exact (Seen.refl V).alloc _
  have R0 : Hid (W0.ownsRow V.heap.size 63 2 (.slice (some ⟨w.heap.size + 1, 0, none⟩) 0 0) 0 []) := by
    unfold Hid
    rw [hW0, ← hVs]
    exact World.ownsRow_made (base := V.heap.size) (e := 63) (size := 2) V #[] 0 (Nat.le_refl _) (Nat.zero_le _) rfl
  rw [hV] at hW0
  clear hV hVs
  unfold sv
  go_enter Tryz.func36, Tryz.ntmps36
  go_wp2_with (first
    | (at_builtin; rw [← hW0]; clear hW0; refine wpList_append_src _ rfl (.tmp 4) (.tmp 6) 117 rfl 63 i0 _ 2 16 Tryz.underlying117 hi hz0 hz1 hz2 rfl (by decide) V.heap.size (.slice (some ⟨w.heap.size + 1, 0, none⟩) 0 0) 0 [] rfl R0.out (.slice (some ⟨w.heap.size, 2, none⟩) 4 4) 4 (flatL ((s.lens.drop 0).take 4)) rfl (part_src HF.out (HX.out.seen S0.out) 0 (by omega)) (flatL_one _) (by unfold maxLen; omega) (by omega) S0.out.size ?_
       intro v1 w1 ho1 hg1 hat1
       have S1 : Hid (Seen V w1) := Below.grown S0.out hg1 S0.out.size (fun k hk => (R0.out.lt k hk).1)
       have O1 : Hid (w1.ownsRow V.heap.size 63 2 v1 4 (flatL ((s.lens.drop 0).take 4))) := ho1
       obtain ⟨c0, d0⟩ := (HX.out.seen S1.out).six HF.out (i := 0) (by omega)
       obtain ⟨c1, d1⟩ := (HX.out.seen S1.out).six HF.out (i := 1) (by omega)
       obtain ⟨c2, d2⟩ := (HX.out.seen S1.out).six HF.out (i := 2) (by omega)
       obtain ⟨c3, d3⟩ := (HX.out.seen S1.out).six HF.out (i := 3) (by omega)
       obtain ⟨c4, d4⟩ := (HX.out.seen S1.out).six HF.out (i := 4) (by omega)
       obtain ⟨c5, d5⟩ := (HX.out.seen S1.out).six HF.out (i := 5) (by omega)
       simp only [Nat.reduceAdd, Nat.reduceMul] at c0 d0 c1 d1 c2 d2 c3 d3 c4 d4 c5 d5
       clear ho1 hg1 hat1 R0 S0)
    | (at_builtin; refine wpList_append_rows _ rfl (.tmp 8) (.tmp 21) 117 rfl 63 i0 _ 2 16 Tryz.underlying117 hi hz0 hz1 hz2 rfl (by decide) V.heap.size V.heap.size v1 4 _ rfl (O1.out.alloc _) (.slice (some ⟨w1.heap.size, 0, none⟩) 6 6) 6 (flatL (six s)) rfl (row6 w1 (six_length HF.out) _ S1.out.size) (flatL_one _) (by unfold maxLen; omega) (by omega) (S1.out.alloc _).size ?_
       intro v2 w2 ho2 hg2 hat2
       have S2 : Hid (Seen V w2) := Below.grown (S1.out.alloc _) hg2 (S1.out.alloc _).size (fun k hk => (O1.out.lt k hk).1)
       have O2 : Hid (w2.ownsRow V.heap.size 63 2 v2 10 (flatL ((s.lens.drop 0).take 4) ++ flatL (six s))) := ho2
       clear ho2 hg2 hat2 O1 S1 c0 d0 c1 d1 c2 d2 c3 d3 c4 d4 c5 d5)
    | (at_builtin; refine wpList_append_src _ rfl (.tmp 23) (.tmp 25) 117 rfl 63 i0 _ 2 16 Tryz.underlying117 hi hz0 hz1 hz2 rfl (by decide) V.heap.size v2 10 _ rfl O2.out (.slice (some ⟨w.heap.size, 22, none⟩) 4 4) 4 (flatL ((s.lens.drop 10).take 4)) rfl (part_src HF.out (HX.out.seen S2.out) 10 (by omega)) (flatL_one _) (by unfold maxLen; omega) (by omega) S2.out.size ?_
       intro v3 w3 ho3 hg3 hat3
       have S3 : Hid (Seen V w3) := Below.grown S2.out hg3 S2.out.size (fun k hk => (O2.out.lt k hk).1)
       have O3 : Hid (w3.ownsRow V.heap.size 63 2 v3 14 (flatL ((s.lens.drop 0).take 4) ++ flatL (six s) ++ flatL ((s.lens.drop 10).take 4))) := ho3
       clear ho3 hg3 hat3 O2 S2)
    | (at_builtin; refine wpList_append_src _ rfl (.tmp 27) (.tmp 29) 117 rfl 63 i0 _ 2 16 Tryz.underlying117 hi hz0 hz1 hz2 rfl (by decide) V.heap.size v3 14 _ rfl O3.out (.slice (some ⟨w.heap.size, 30, none⟩) 4 4) 4 (flatL ((s.lens.drop 14).take 4)) rfl (part_src HF.out (HX.out.seen S3.out) 14 (by omega)) (flatL_one _) (by unfold maxLen; omega) (by omega) S3.out.size ?_
       intro v4 w4 ho4 hg4 hat4
       have S4 : Hid (Seen V w4) := Below.grown S3.out hg4 S3.out.size (fun k hk => (O3.out.lt k hk).1)
       have O4 : Hid (w4.ownsRow V.heap.size 63 2 v4 18 (flatL ((s.lens.drop 0).take 4) ++ flatL (six s) ++ flatL ((s.lens.drop 10).take 4) ++ flatL ((s.lens.drop 14).take 4))) := ho4
       clear ho4 hg4 hat4 O3 S3))
  go_ret
  have h4 := O4.out
  rw [← flatL_append, ← flatL_append, ← flatL_append, lens_parts HF.out, ← HF.out.lens] at h4
  exact ⟨⟨v4, rfl, row_more h4 SV.out.size⟩, SV.out.trans S4.out⟩
end Go.Proofs.YtngeaigkafamiaaGreat
namespace Go.Proofs.YtngeaigkafamiaaGreat
open Go.ChangeShapes Go.WideShapes Go.ChangeAt Go.RowKit
set_option maxRecDepth 100000
theorem flatL_cut {l : List Ln} {k : Nat} (h : k < l.length) : (flatL l).toArray.extract (k * 2) (k * 2 + 2) = #[.int .i64 (lat l k).k, .int .i64 (lat l k).n] := by
  have e : ((flatL l).drop (k * 2)).take 2 = [.int .i64 (lat l k).k, .int .i64 (lat l k).n] := by
    rw [flatL_drop, List.drop_eq_getElem_cons h, ← lat_eq h]; rfl
  rw [List.extract_toArray, List.extract_eq_take_drop, show k * 2 + 2 - k * 2 = 2 by omega, e]
theorem index_len {t : TypeId} {m : Nat} (ht : Tryz.prog.underlying t = some (.array m 63)) {l : List Ln} (hl : l.length = m) {k : Nat} (hk : k < m) (w : World) :
    (Instr.index t (.agg (flatL l).toArray) (.int .i64 (k : Int))).run Tryz.prog w = .ok (.agg #[.int .i64 (lat l k).k, .int .i64 (lat l k).n]) w := by
  have h1 : (0 : Int) ≤ (k : Int) ∧ (k : Int) < (m : Int) := by omega
  unfold Instr.index
  simp only [asIntOf, Sem.run_bind, Sem.run_pure, Result.andThen_ok, run_underlying ht, h1, and_self, if_true, Int.toNat_natCast, Tryz.sizeOf63]
  unfold part
  simp only [Sem.run_bind, Tryz.isAgg63, Result.andThen_ok, if_true, Tryz.sizeOf63, Sem.run_pure]
  rw [flatL_cut (by omega)]
theorem rowL_at {w : World} {base n : Nat} {v : Value} {l : List Ln} (h : w.ownsRow base 63 2 v n (flatL l)) (hl : l.length = n) (h0 : 0 < n) :
    ∃ g c, v = .slice (some ⟨g, 0, none⟩) n c ∧ base ≤ g ∧ ∀ i, i < n → ∀ w', Seen w w' → w'.cell? ⟨g, i * 2, none⟩ = some (.int .i64 (lat l i).k) ∧ w'.cell? ⟨g, i * 2 + 1, none⟩ = some (.int .i64 (lat l i).n) := by
  rcases h.2 with ⟨_, e⟩ | ⟨g, cap, cur, rfl, hb, _⟩
  · omega
  · refine ⟨g, cap, rfl, hb, fun i hi w' hs => ?_⟩
    have e := flatL_at (l := l) (i := i) (by omega)
    exact ⟨hs.cell ((h.cellAt (i * 2) (by omega)).trans e.1), hs.cell ((h.cellAt (i * 2 + 1) (by omega)).trans e.2)⟩
theorem formedLen_any (x : Ln) (w : World) : Calls Tryz.prog 84 #[.agg #[.int .i64 x.k, .int .i64 x.n]] w fun e w' => e = .returned (.bool (lnOk x)) ∧ Seen w w' := by
  have H : Hid (lnOk x = ((x.k == 0 && x.n == 0) || (x.k == 1 || x.k == 2))) := rfl
  cases h0 : (x.k == 0) <;> cases h1 : (x.k == 1) <;> cases h2 : (x.k == 2)
  all_goals
    go_enter Tryz.func84, Tryz.ntmps84
    go_wp2
    go_ret
    refine ⟨ret_bool ?_, by unfold Seen; go_grown⟩
    rw [H.out, h0, h1, h2]
    simp at h0 h1 h2
    first | omega | (simp; done) | simp [h0]
theorem formed_tail {s : Sty} (h1 : ∀ i, i < 18 → lnOk (lat s.lens i) = true) (h2 : ∀ i, i < 6 → 0 ≤ (lat s.lens (4 + i)).n) (h3 : ∀ i, i < 4 → (lat s.lens (14 + i)).k ≠ 0 ∧ 0 ≤ (lat s.lens (14 + i)).n) (h4 : ∀ i, i < 4 → 0 ≤ bat s.bord i) :
    formedB s = true ↔ (0 ≤ s.pos ∧ s.pos ≤ 3 ∧ 0 ≤ s.back ∧ 0 ≤ s.line ∧ (s.hasz = true ∨ s.z = 0)) := by
  unfold formedB
  rw [decide_eq_true_iff]
  exact ⟨fun h => h.2.2.2.2, fun h => ⟨h1, h2, h3, h4, h⟩⟩
theorem formed_not {s : Sty} (h : ¬ FormedP s) : false = formedB s := (decide_eq_false h).symm
theorem Hs.bord {w : World} {X : Nat} {s : Sty} (h : Hs w X s) (hf : Full s) {j : Nat} (hj : j < 4) : w.cell? ⟨X, 38 + j, none⟩ = some (.int .i64 (bat s.bord j)) := by rw [h.at]; exact stl_bord hf hj
theorem Hs.tail {w : World} {X : Nat} {s : Sty} (h : Hs w X s) (hf : Full s) : w.cell? ⟨X, 42, none⟩ = some (.bool s.rtl) ∧ w.cell? ⟨X, 43, none⟩ = some (.bool s.hasz) ∧ w.cell? ⟨X, 44, none⟩ = some (.int .i64 s.z) ∧ w.cell? ⟨X, 45, none⟩ = some (.bool s.clip) ∧ w.cell? ⟨X, 46, none⟩ = some (.int .i64 s.back) ∧ w.cell? ⟨X, 47, none⟩ = some (.int .i64 s.line) := by
  rw [h.at, h.at, h.at, h.at, h.at, h.at]
  exact ⟨stl_tail hf (j := 0), stl_tail hf (j := 1), stl_tail hf (j := 2), stl_tail hf (j := 3), stl_tail hf (j := 4), stl_tail hf (j := 5)⟩
theorem Hs.head {w : World} {X : Nat} {s : Sty} (h : Hs w X s) : w.cell? ⟨X, 0, none⟩ = some (.bool s.shown) ∧ w.cell? ⟨X, 1, none⟩ = some (.int .i64 s.pos) := by
  rw [h.at, h.at]; exact ⟨stl0 s, stl1 s⟩
set_option maxRecDepth 100000 in
set_option maxHeartbeats 8000000 in
theorem formed_any (s : Sty) (hf : Full s) (w : World) : Calls Tryz.prog 62 #[sv s] w fun e w' => e = .returned (.bool (formedB s)) ∧ Seen w w' := by
  have HF := Lib.hid hf
  clear hf
  obtain ⟨W0, hW0⟩ : ∃ W0, W0 = w.alloc (.cells (stl s).toArray 66) := ⟨_, rfl⟩
  have H0 : Hid (Hs W0 w.heap.size s) := by rw [hW0]; exact hs_new w s
  have S0 : Hid (Seen w W0) := by rw [hW0]; exact (Seen.refl w).alloc _
  have hX : w.heap.size < W0.heap.size := H0.out.lt
  unfold sv
  go_enter Tryz.func62, Tryz.ntmps62
  go_wp2_with (first
    | (rw [← hW0]; clear hW0; refine wpList_loadS rfl _ rfl w.heap.size s rfl HF.out H0.out ?_)
    | (go_at_call 83; refine (lengths_any s HF.out _).mono ?_; rintro _ w1 ⟨⟨v1, rfl, ho1⟩, hs1⟩; rw [HF.out.lens] at ho1; obtain ⟨g, c, rfl, hg, hcell⟩ := rowL_at ho1 HF.out.lens (by omega)
       have S1 := Lib.hid hs1
       have HC := Lib.hid hcell
       clear ho1 hs1 hcell hg))
  go_loopw [12] (fun i wr => ∃ k : Nat, k ≤ 18 ∧ i = .int .i64 k ∧ Seen w1 wr ∧ ∀ j, j < k → lnOk (lat s.lens j) = true) (fun i _ => 18 - (intOf i).toNat)
  case atStart => exact ⟨0, Nat.zero_le _, rfl, Seen.refl _, fun j hj => absurd hj (by omega)⟩
  case round =>
    obtain ⟨k, hk, rfl, hs, hall⟩ := hrel
    have HS := Lib.hid hs
    have HA := Lib.hid hall
    clear hs hall
    by_cases hlt : k < 18
    · have hk' : (k : Int) < 18 := by omega
      obtain ⟨c0, c1⟩ := HC.out k hlt wr HS.out
      rcases Bool.eq_false_or_eq_true (lnOk (lat s.lens k)) with hb | hb
      · go_wp2_with (go_at_call 84; refine (formedLen_any (lat s.lens k) _).mono ?_; rintro _ w2 ⟨rfl, hs2⟩; have S2 := Lib.hid hs2; clear hs2)
        refine ⟨⟨k + 1, hlt, by go_num, (HS.out.alloc _).trans S2.out, fun j hj => ?_⟩, by simp [intOf]; omega⟩
        rcases Nat.lt_or_ge j k with h | h
        · exact HA.out j h
        · obtain rfl : j = k := by omega
          exact hb
      · go_wp2_with (go_at_call 84; refine (formedLen_any (lat s.lens k) _).mono ?_; rintro _ w2 ⟨rfl, hs2⟩; have S2 := Lib.hid hs2; clear hs2)
        go_ret
        exact ⟨ret_bool (formed_not fun h => by rw [h.1 k hlt] at hb; cases hb), ((S0.out.trans S1.out).trans (HS.out.alloc _)).trans S2.out⟩
    · have hk' : ¬ (k : Int) < 18 := by omega
      obtain rfl : k = 18 := by omega
      have SX : Hid (Seen W0 wr) := S1.out.trans HS.out
      clear HC
      go_wp2_with (first
        | (refine wpList_loadS rfl _ rfl w.heap.size s rfl HF.out (H0.out.seen SX.out) ?_)
        | (go_at_call 85; refine (sizes_any s HF.out _).mono ?_; rintro _ w2 ⟨rfl, hs2⟩; have S2 : Hid (Seen W0 w2) := SX.out.trans hs2
           clear hs2))
      have hlx : Hid ((six s).length = 6) := six_length HF.out
      go_loopw [22] (fun i wr => ∃ k : Nat, k ≤ 6 ∧ i = .int .i64 k ∧ Seen W0 wr ∧ ∀ j, j < k → 0 ≤ (lat s.lens (4 + j)).n) (fun i _ => 6 - (intOf i).toNat)
      case atStart => exact ⟨0, Nat.zero_le _, rfl, S2.out, fun j hj => absurd hj (by omega)⟩
      case round =>
        obtain ⟨k, hk, rfl, hs, hall⟩ := hrel
        have HS := Lib.hid hs
        have HB := Lib.hid hall
        clear hs hall
        by_cases hlt : k < 6
        · have hk' : (k : Int) < 6 := by omega
          have hix := index_len Tryz.underlying179 hlx.out hlt
          have e6 := six_at s hlt
          rw [e6] at hix
          clear e6
          by_cases hb : (lat s.lens (4 + k)).n < 0
          · go_wp2_with fail
            go_ret
            exact ⟨ret_bool (formed_not fun h => by have := h.2.1 k hlt; omega), (S0.out.trans HS.out).alloc _⟩
          · go_wp2_with fail
            refine ⟨⟨k + 1, hlt, by go_num, HS.out.alloc _, fun j hj => ?_⟩, by simp [intOf]; omega⟩
            rcases Nat.lt_or_ge j k with h | h
            · exact HB.out j h
            · obtain rfl : j = k := by omega
              omega
        · have hk' : ¬ (k : Int) < 6 := by omega
          obtain rfl : k = 6 := by omega
          go_wp2_with (refine wpList_load4 rfl _ rfl w.heap.size 14 s rfl HF.out (by omega) (H0.out.seen HS.out) ?_)
          have hlp : Hid (((s.lens.drop 14).take 4).length = 4) := by unfold Hid; rw [List.length_take, List.length_drop, HF.out.lens]; omega
          go_loopw [31] (fun i wr => ∃ k : Nat, k ≤ 4 ∧ i = .int .i64 k ∧ Seen W0 wr ∧ ∀ j, j < k → ((lat s.lens (14 + j)).k ≠ 0 ∧ 0 ≤ (lat s.lens (14 + j)).n) ∧ 0 ≤ bat s.bord j) (fun i _ => 4 - (intOf i).toNat)
          case atStart => exact ⟨0, Nat.zero_le _, rfl, HS.out, fun j hj => absurd hj (by omega)⟩
          case round =>
            obtain ⟨k, hk, rfl, hs, hall⟩ := hrel
            have HS := Lib.hid hs
            have HP := Lib.hid hall
            clear hs hall
            have hXr : w.heap.size < wr.heap.size := Nat.lt_of_lt_of_le hX HS.out.size
            by_cases hlt : k < 4
            · have hk' : (k : Int) < 4 := by omega
              have hix := index_len Tryz.underlying64 hlp.out hlt
              have e4 : lat ((s.lens.drop 14).take 4) k = lat s.lens (14 + k) := by rw [lat_take hlt, lat_drop]
              rw [e4] at hix
              clear e4
              have cb := (H0.out.seen HS.out).bord HF.out hlt
              by_cases hgood : ((lat s.lens (14 + k)).k == 0) = false ∧ ¬ (lat s.lens (14 + k)).n < 0 ∧ ¬ bat s.bord k < 0
              · obtain ⟨h0, h1, h2⟩ := hgood
                go_wp2_with fail
                refine ⟨⟨k + 1, hlt, by go_num, HS.out.alloc _, fun j hj => ?_⟩, by simp [intOf]; omega⟩
                rcases Nat.lt_or_ge j k with h | h
                · exact HP.out j h
                · obtain rfl : j = k := by omega
                  simp at h0
                  exact ⟨⟨h0, by omega⟩, by omega⟩
              · have hbad : ¬ FormedP s := fun h => hgood ⟨by have := (h.2.2.1 k hlt).1; simpa using this, by have := (h.2.2.1 k hlt).2; omega, by have := h.2.2.2.1 k hlt; omega⟩
                have HBad := Lib.hid hbad
                have h3 : ((lat s.lens (14 + k)).k == 0) = true ∨ (((lat s.lens (14 + k)).k == 0) = false ∧ (lat s.lens (14 + k)).n < 0) ∨ (((lat s.lens (14 + k)).k == 0) = false ∧ ¬ (lat s.lens (14 + k)).n < 0 ∧ bat s.bord k < 0) := by
                  cases h0 : ((lat s.lens (14 + k)).k == 0)
                  · by_cases h1 : (lat s.lens (14 + k)).n < 0
                    · exact .inr (.inl ⟨rfl, h1⟩)
                    · exact .inr (.inr ⟨rfl, h1, by rw [h0] at hgood; by_cases h2 : bat s.bord k < 0; exact h2; exact absurd ⟨rfl, h1, h2⟩ hgood⟩)
                  · exact .inl rfl
                clear hgood hbad
                rcases h3 with h0 | ⟨h0, h1⟩ | ⟨h0, h1, h2⟩
                all_goals
                  go_wp2_with fail
                  go_ret
                  exact ⟨ret_bool (formed_not HBad.out), (S0.out.trans HS.out).alloc _⟩
            · have hk' : ¬ (k : Int) < 4 := by omega
              obtain rfl : k = 4 := by omega
              have HT : Hid (formedB s = true ↔ (0 ≤ s.pos ∧ s.pos ≤ 3 ∧ 0 ≤ s.back ∧ 0 ≤ s.line ∧ (s.hasz = true ∨ s.z = 0))) := formed_tail HA.out HB.out (fun i hi => (HP.out i hi).1) (fun i hi => (HP.out i hi).2)
              have hw := H0.out.seen HS.out
              obtain ⟨_, c43, c44, _, c46, c47⟩ := hw.tail HF.out
              obtain ⟨_, c1⟩ := hw.head
              clear hw
              cases hz : s.hasz
              all_goals
                rw [hz] at HT
                rw [hz] at c43
                go_wp2
              all_goals
                go_ret
                exact ⟨ret_bool (bool_iff (by rw [HT.out]; simp <;> omega)), S0.out.trans HS.out⟩
end Go.Proofs.YtngeaigkafamiaaGreat

