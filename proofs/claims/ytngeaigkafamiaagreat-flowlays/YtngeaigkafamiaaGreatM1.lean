/- Texts of the proof, merged: Sty, Nd, Steps. -/
import Derived.Test.YtngeaigkafamiaaGreatM0
namespace Go.Proofs.YtngeaigkafamiaaGreat
open Go.ChangeShapes Go.WideShapes Go.ChangeAt Go.RowKit
set_option maxRecDepth 100000
structure Ln where
  k : Int
  n : Int
def flatL (l : List Ln) : List Value := l.flatMap fun x => [.int .i64 x.k, .int .i64 x.n]
def lat (l : List Ln) (i : Nat) : Ln := l.getD i ⟨0, 0⟩
def flatI (l : List Int) : List Value := l.map (Value.int .i64)
theorem flatL_length (l : List Ln) : (flatL l).length = l.length * 2 := by
  induction l with
  | nil => rfl
  | cons a l ih => simp [flatL] at ih ⊢; omega
theorem flatL_append (l m : List Ln) : flatL (l ++ m) = flatL l ++ flatL m := by simp [flatL]
theorem flatI_length (l : List Int) : (flatI l).length = l.length := by simp [flatI]
theorem flatI_append (l m : List Int) : flatI (l ++ m) = flatI l ++ flatI m := by simp [flatI]
theorem flatL_one (l : List Ln) : ∀ u ∈ flatL l, u.oneCell' = true := by
  intro u hu
  simp only [flatL, List.mem_flatMap] at hu
  obtain ⟨x, _, hx⟩ := hu
  simp at hx
  rcases hx with rfl | rfl <;> rfl
theorem flatI_one (l : List Int) : ∀ u ∈ flatI l, u.oneCell' = true := by
  intro u hu
  simp only [flatI, List.mem_map] at hu
  obtain ⟨x, _, rfl⟩ := hu
  rfl
theorem lat_eq {l : List Ln} {i : Nat} (h : i < l.length) : lat l i = l[i] := by
  unfold lat; rw [List.getD_eq_getElem?_getD, List.getElem?_eq_getElem h]; rfl
theorem lat_drop (l : List Ln) (n i : Nat) : lat (l.drop n) i = lat l (n + i) := by
  unfold lat; rw [List.getD_eq_getElem?_getD, List.getD_eq_getElem?_getD, List.getElem?_drop]
theorem lat_take {l : List Ln} {n i : Nat} (h : i < n) : lat (l.take n) i = lat l i := by
  unfold lat; rw [List.getD_eq_getElem?_getD, List.getD_eq_getElem?_getD, List.getElem?_take_of_lt h]
theorem flatL_at {l : List Ln} {i : Nat} (h : i < l.length) : (flatL l)[i * 2]? = some (.int .i64 (lat l i).k) ∧ (flatL l)[i * 2 + 1]? = some (.int .i64 (lat l i).n) := by
  induction l generalizing i with
  | nil => simp at h
  | cons a l ih =>
    cases i with
    | zero => exact ⟨rfl, rfl⟩
    | succ i =>
      have h' : i < l.length := by simpa using h
      have e : flatL (a :: l) = .int .i64 a.k :: .int .i64 a.n :: flatL l := rfl
      have e2 : lat (a :: l) (i + 1) = lat l i := rfl
      rw [e, e2, show (i + 1) * 2 = i * 2 + 1 + 1 by omega]
      exact ih h'
theorem flatI_at {l : List Int} {i : Nat} (h : i < l.length) : (flatI l)[i]? = some (.int .i64 (bat l i)) := by
  unfold flatI; rw [List.getElem?_map, bat_get h]; rfl
theorem flatL_drop (l : List Ln) (n : Nat) : (flatL l).drop (n * 2) = flatL (l.drop n) := by
  induction n generalizing l with
  | zero => simp
  | succ n ih =>
    cases l with
    | nil => simp [flatL]
    | cons a l =>
      have e : flatL (a :: l) = .int .i64 a.k :: .int .i64 a.n :: flatL l := rfl
      rw [e, show (n + 1) * 2 = n * 2 + 1 + 1 by omega]
      simpa using ih l
theorem flatL_take (l : List Ln) (n : Nat) : (flatL l).take (n * 2) = flatL (l.take n) := by
  induction n generalizing l with
  | zero => simp [flatL]
  | succ n ih =>
    cases l with
    | nil => simp [flatL]
    | cons a l =>
      have e : flatL (a :: l) = .int .i64 a.k :: .int .i64 a.n :: flatL l := rfl
      have e2 : flatL ((a :: l).take (n + 1)) = .int .i64 a.k :: .int .i64 a.n :: flatL (l.take n) := rfl
      rw [e, e2, show (n + 1) * 2 = n * 2 + 1 + 1 by omega]
      simpa using ih l
structure Sty where
  shown : Bool
  pos : Int
  lens : List Ln
  bord : List Int
  rtl : Bool
  hasz : Bool
  z : Int
  clip : Bool
  back : Int
  line : Int
def tailS (s : Sty) : List Value := [.bool s.rtl, .bool s.hasz, .int .i64 s.z, .bool s.clip, .int .i64 s.back, .int .i64 s.line]
def stl (s : Sty) : List Value := [.bool s.shown, .int .i64 s.pos] ++ (flatL s.lens ++ (flatI s.bord ++ tailS s))
structure Full (s : Sty) : Prop where
  lens : s.lens.length = 18
  bord : s.bord.length = 4
theorem Full.len {s : Sty} (h : Full s) : (stl s).length = 48 := by
  simp [stl, flatL_length, flatI_length, h.lens, h.bord, tailS]
theorem stl_one (s : Sty) : ∀ u ∈ stl s, u.oneCell' = true := by
  intro u hu
  simp only [stl, tailS, List.mem_append, List.mem_cons, List.not_mem_nil, or_false] at hu
  rcases hu with (rfl | rfl) | hu | hu | rfl | rfl | rfl | rfl | rfl | rfl
  · rfl
  · rfl
  · exact flatL_one _ _ hu
  · exact flatI_one _ _ hu
  all_goals rfl
theorem stl0 (s : Sty) : (stl s)[0]? = some (.bool s.shown) := rfl
theorem stl1 (s : Sty) : (stl s)[1]? = some (.int .i64 s.pos) := rfl
section
variable {s : Sty} (h : Full s)
include h
theorem stl_mid {j : Nat} (hj : j < 36) : (stl s)[2 + j]? = (flatL s.lens)[j]? := by
  have hl := flatL_length s.lens
  rw [h.lens] at hl
  unfold stl
  rw [List.getElem?_append_right (by simp), List.getElem?_append_left (by simp; omega)]
  congr 1
  simp
theorem stl_len {i : Nat} (hi : i < 18) : (stl s)[2 + i * 2]? = some (.int .i64 (lat s.lens i).k) ∧ (stl s)[2 + i * 2 + 1]? = some (.int .i64 (lat s.lens i).n) := by
  have e := flatL_at (l := s.lens) (i := i) (by rw [h.lens]; exact hi)
  exact ⟨(stl_mid h (by omega)).trans e.1, (stl_mid h (j := i * 2 + 1) (by omega)).trans e.2⟩
theorem stl_bord {j : Nat} (hj : j < 4) : (stl s)[38 + j]? = some (.int .i64 (bat s.bord j)) := by
  have hl := flatL_length s.lens
  rw [h.lens] at hl
  have hb := flatI_length s.bord
  rw [h.bord] at hb
  have e := flatI_at (l := s.bord) (i := j) (by rw [h.bord]; exact hj)
  unfold stl
  rw [List.getElem?_append_right (by simp; omega), List.getElem?_append_right (by simp; omega), List.getElem?_append_left (by simp; omega), ← e]
  congr 1
  simp; omega
theorem stl_tail {j : Nat} : (stl s)[42 + j]? = (tailS s)[j]? := by
  have hl := flatL_length s.lens
  rw [h.lens] at hl
  have hb := flatI_length s.bord
  rw [h.bord] at hb
  unfold stl
  rw [List.getElem?_append_right (by simp; omega), List.getElem?_append_right (by simp; omega), List.getElem?_append_right (by simp; omega)]
  congr 1
  simp; omega
end
def lnOk (x : Ln) : Bool := (x.k == 0 && x.n == 0) || (x.k == 1 || x.k == 2)
def FormedP (s : Sty) : Prop :=
  (∀ i, i < 18 → lnOk (lat s.lens i) = true) ∧ (∀ i, i < 6 → 0 ≤ (lat s.lens (4 + i)).n) ∧ (∀ i, i < 4 → (lat s.lens (14 + i)).k ≠ 0 ∧ 0 ≤ (lat s.lens (14 + i)).n) ∧ (∀ i, i < 4 → 0 ≤ bat s.bord i) ∧
    (0 ≤ s.pos ∧ s.pos ≤ 3 ∧ 0 ≤ s.back ∧ 0 ≤ s.line ∧ (s.hasz = true ∨ s.z = 0))
instance (s : Sty) : Decidable (FormedP s) := by unfold FormedP; infer_instance
def formedB (s : Sty) : Bool := decide (FormedP s)
def lnIn (x : Ln) : Bool := if x.k = 1 then decide (-1099511627776 ≤ x.n ∧ x.n ≤ 1099511627776) else if x.k = 2 then decide (-1000000 ≤ x.n ∧ x.n ≤ 1000000) else true
def WithinP (s : Sty) : Prop :=
  (∀ i, i < 18 → lnIn (lat s.lens i) = true) ∧ (∀ i, i < 4 → bat s.bord i ≤ 1099511627776) ∧ (-1073741824 ≤ s.z ∧ s.z ≤ 1073741824 ∧ s.back ≤ 16777216 ∧ s.line ≤ 16777216)
instance (s : Sty) : Decidable (WithinP s) := by unfold WithinP; infer_instance
def withinB (s : Sty) : Bool := decide (WithinP s)
def bitN (b : Bool) (n : Int) : Int := if b then n else 0
def first (s : Sty) : Int := bitN s.shown 1 + 2 * s.pos + bitN s.rtl 8 + bitN s.hasz 16 + bitN s.clip 32
def e8 (v : Int) : List Int := be (v % 18446744073709551616) 8
structure StIn where
  l : List Int
  bad : Bool
def adv (n : Nat) (s : StIn) : StIn := ⟨tkLn n s.l, tkB n s.l s.bad⟩
def n8 (s : StIn) : Int := wrap64 (tkV 8 s.l)
def lnS (s : StIn) : StIn := if tkV 1 s.l = 0 then adv 1 s else adv 8 (adv 1 s)
def lnsS : Nat → StIn → StIn
  | 0, s => s
  | n + 1, s => lnS (lnsS n s)
def nmsS : Nat → StIn → StIn
  | 0, s => s
  | n + 1, s => adv 8 (nmsS n s)
def zeroS : Sty := ⟨false, 0, List.replicate 18 ⟨0, 0⟩, List.replicate 4 0, false, false, 0, false, 0, 0⟩
section
variable (s : StIn)
def rL : StIn := lnsS 18 (adv 1 s)
def rB : StIn := nmsS 4 (rL s)
end
theorem zero_full : Full zeroS := ⟨rfl, rfl⟩
def Eats (s s' : StIn) (e : List Int) : Prop := s'.bad = false → s.bad = false ∧ s.l = e ++ s'.l
theorem Eats.trans {s s1 s2 : StIn} {e f : List Int} (h : Eats s s1 e) (k : Eats s1 s2 f) : Eats s s2 (e ++ f) := fun hb => by
  obtain ⟨k1, k2⟩ := k hb
  obtain ⟨h1, h2⟩ := h k1
  exact ⟨h1, by rw [h2, k2, List.append_assoc]⟩
def i64B (x : Int) : Prop := -9223372036854775808 ≤ x ∧ x < 9223372036854775808
structure OkS (s : Sty) : Prop where
  full : Full s
  pos : i64B s.pos
  lens : ∀ x ∈ s.lens, i64B x.k ∧ i64B x.n
  bord : ∀ x ∈ s.bord, i64B x
  z : i64B s.z
  back : i64B s.back
  line : i64B s.line
end Go.Proofs.YtngeaigkafamiaaGreat
namespace Go.Proofs.YtngeaigkafamiaaGreat
open Go.ChangeShapes Go.WideShapes Go.ChangeAt Go.RowKit
set_option maxRecDepth 100000
structure Nd where
  s : Sty
  p : Int
  full : Full s
def ndl (x : Nd) : List Value := stl x.s ++ [.int .i64 x.p]
theorem ndl_length (x : Nd) : (ndl x).length = 49 := by simp [ndl, x.full.len]
def zeroN : Nd := ⟨zeroS, 0, zero_full⟩
def nd (l : List Nd) (i : Nat) : Nd := l.getD i zeroN
def flatN (l : List Nd) : List Value := l.flatMap ndl
theorem ndl_one (x : Nd) : ∀ u ∈ ndl x, u.oneCell' = true := by
  intro u hu
  rcases List.mem_append.1 hu with h | h
  · exact stl_one _ _ h
  · rw [List.mem_singleton] at h; subst h; rfl
theorem flatN_length (l : List Nd) : (flatN l).length = l.length * 49 := by
  induction l with
  | nil => rfl
  | cons a l ih =>
    have e : flatN (a :: l) = ndl a ++ flatN l := rfl
    rw [e, List.length_append, ndl_length, ih, List.length_cons]; omega
theorem flatN_at (l : List Nd) {i : Nat} (h : i < l.length) {j : Nat} (hj : j < 49) : (flatN l)[i * 49 + j]? = (ndl (nd l i))[j]? := by
  induction l generalizing i with
  | nil => simp at h
  | cons a l ih =>
    have e : flatN (a :: l) = ndl a ++ flatN l := rfl
    cases i with
    | zero =>
      rw [e, List.getElem?_append_left (by rw [ndl_length]; omega), Nat.zero_mul, Nat.zero_add]; rfl
    | succ i =>
      have h' : i < l.length := by simpa using h
      have e2 : nd (a :: l) (i + 1) = nd l i := rfl
      rw [e, e2, List.getElem?_append_right (by rw [ndl_length]; omega), ndl_length, show (i + 1) * 49 + j - 49 = i * 49 + j by omega]
      exact ih h'
theorem ndl_par (x : Nd) : (ndl x)[48]? = some (.int .i64 x.p) := by
  unfold ndl
  rw [List.getElem?_append_right (by rw [x.full.len]; omega), x.full.len]; rfl
theorem nd_eq {l : List Nd} {i : Nat} (h : i < l.length) : nd l i = l[i] := by
  unfold nd; rw [List.getD_eq_getElem?_getD, List.getElem?_eq_getElem h]; rfl
def par (l : List Nd) (n : Int) : Int := if n < 0 then -1 else (nd l n.toNat).p
def upN (l : List Nd) : Nat → Int → Int
  | 0, n => n
  | k + 1, n => par l (upN l k n)
theorem upN_add (l : List Nd) (a b : Nat) (n : Int) : upN l (a + b) n = upN l b (upN l a n) := by
  induction b with
  | zero => rfl
  | succ b ih => show par l (upN l (a + b) n) = par l (upN l b (upN l a n)); rw [ih]
theorem par_neg {l : List Nd} {n : Int} (h : n < 0) : par l n = -1 := if_pos h
theorem par_nat (l : List Nd) (i : Nat) : par l (i : Int) = (nd l i).p := by
  unfold par; rw [if_neg (by omega)]; rfl
theorem par_at (l : List Nd) {n : Int} (h : 0 ≤ n) : par l n = (nd l n.toNat).p := if_neg (by omega)
def Low (l : List Nd) (n : Nat) : Prop := ∀ i, i < n → -1 ≤ (nd l i).p ∧ (nd l i).p < i
theorem Low.less {l : List Nd} {n m : Nat} (h : Low l n) (hm : m ≤ n) : Low l m := fun i hi => h i (by omega)
theorem Low.par {l : List Nd} {n : Nat} (h : Low l n) {m : Int} (h0 : 0 ≤ m) (hm : m < n) : -1 ≤ par l m ∧ par l m < m := by
  have := h m.toNat (by omega)
  rw [par_at l h0]
  omega
theorem Low.up {l : List Nd} {n : Nat} (h : Low l n) {m : Int} (h0 : -1 ≤ m) (hm : m < n) (k : Nat) : -1 ≤ upN l k m ∧ upN l k m ≤ m ∧ (0 ≤ upN l k m → upN l k m + k ≤ m) := by
  induction k with
  | zero => exact ⟨h0, Int.le_refl _, fun _ => by show m + ((0 : Nat) : Int) ≤ m; omega⟩
  | succ k ih =>
    obtain ⟨h1, h2, h3⟩ := ih
    show -1 ≤ Go.Proofs.YtngeaigkafamiaaGreat.par l (upN l k m) ∧ Go.Proofs.YtngeaigkafamiaaGreat.par l (upN l k m) ≤ m ∧ (0 ≤ Go.Proofs.YtngeaigkafamiaaGreat.par l (upN l k m) → Go.Proofs.YtngeaigkafamiaaGreat.par l (upN l k m) + ((k + 1 : Nat) : Int) ≤ m)
    rcases Int.lt_or_le (upN l k m) 0 with hn | hn
    · rw [par_neg hn]; omega
    · have h4 := h.par hn (by omega)
      have h5 := h3 hn
      omega
def lst (P : Nat → Bool) : Nat → Nat
  | 0 => 0
  | f + 1 => if P 0 then 0 else lst (fun k => P (k + 1)) f + 1
theorem lst_is {P : Nat → Bool} {f k : Nat} (hk : k ≤ f) (h : P k = true) (hj : ∀ j, j < k → P j = false) : lst P f = k := by
  induction f generalizing P k with
  | zero => have : k = 0 := by omega
            subst this; rfl
  | succ f ih =>
    unfold lst
    cases k with
    | zero => rw [h]; rfl
    | succ k =>
      rw [hj 0 (by omega)]
      have := ih (P := fun k => P (k + 1)) (k := k) (by omega) h (fun j hj' => hj (j + 1) (by omega))
      rw [this]; rfl
theorem lst_spec {P : Nat → Bool} {f : Nat} (h : ∃ k, k ≤ f ∧ P k = true) : P (lst P f) = true ∧ (∀ j, j < lst P f → P j = false) ∧ lst P f ≤ f := by
  have key : ∀ n, ∀ k, k ≤ n → k ≤ f → P k = true → ∃ m, m ≤ k ∧ P m = true ∧ ∀ j, j < m → P j = false := by
    intro n
    induction n with
    | zero => intro k hk _ hp; exact ⟨k, Nat.le_refl _, hp, fun j hj => by omega⟩
    | succ n ih =>
      intro k hk hf hp
      by_cases he : ∃ j, j < k ∧ P j = true
      · obtain ⟨j, hj, hpj⟩ := he
        obtain ⟨m, h1, h2, h3⟩ := ih j (by omega) (by omega) hpj
        exact ⟨m, by omega, h2, h3⟩
      · refine ⟨k, Nat.le_refl _, hp, fun j hj => ?_⟩
        cases hc : P j with
        | false => rfl
        | true => exact absurd ⟨j, hj, hc⟩ he
  obtain ⟨k, hk, hp⟩ := h
  obtain ⟨m, h1, h2, h3⟩ := key k k (Nat.le_refl _) hk hp
  have e := lst_is (f := f) (by omega) h2 h3
  rw [e]
  exact ⟨h2, h3, by omega⟩
def deep (l : List Nd) (n : Int) : Nat := lst (fun k => decide (upN l k n < 0)) (l.length + 1)
def stepsTo (l : List Nd) (n a : Int) : Nat := lst (fun k => decide (upN l k n ≤ a)) (l.length + 1)
section
variable {l : List Nd} {m : Int}
theorem deep_is {n : Nat} (hn : n ≤ l.length) (h : Low l n) (h0 : -1 ≤ m) (hm : m < n) {k : Nat} (hk : upN l k m < 0) (hj : ∀ j, j < k → 0 ≤ upN l j m) : deep l m = k := by
  refine lst_is ?_ (decide_eq_true hk) fun j hjk => decide_eq_false (by have := hj j hjk; omega)
  rcases Nat.eq_zero_or_pos k with e | e
  · omega
  · have h1 := (h.up h0 hm (k - 1)).2.2 (hj (k - 1) (by omega))
    have h2 := hj (k - 1) (by omega)
    omega
theorem deep_spec {n : Nat} (hn : n ≤ l.length) (h : Low l n) (h0 : -1 ≤ m) (hm : m < n) : upN l (deep l m) m < 0 ∧ ∀ j, j < deep l m → 0 ≤ upN l j m := by
  have := lst_spec (P := fun k => decide (upN l k m < 0)) (f := l.length + 1) ⟨l.length + 1, Nat.le_refl _, decide_eq_true (by
    rcases Int.lt_or_le (upN l (l.length + 1) m) 0 with h1 | h1
    · exact h1
    · have := (h.up h0 hm (l.length + 1)).2.2 h1
      omega)⟩
  refine ⟨of_decide_eq_true this.1, fun j hj => ?_⟩
  have := of_decide_eq_false (this.2.1 j hj)
  omega
theorem stepsTo_is {n : Nat} (hn : n ≤ l.length) (h : Low l n) (h0 : -1 ≤ m) (hm : m < n) {a : Int} (ha : -1 ≤ a) {k : Nat} (hk : upN l k m ≤ a) (hj : ∀ j, j < k → a < upN l j m) : stepsTo l m a = k := by
  refine lst_is ?_ (decide_eq_true hk) fun j hjk => decide_eq_false (by have := hj j hjk; omega)
  rcases Nat.eq_zero_or_pos k with e | e
  · omega
  · have h2 := hj (k - 1) (by omega)
    have h1 := (h.up h0 hm (k - 1)).2.2 (by omega)
    omega
theorem stepsTo_spec {n : Nat} (hn : n ≤ l.length) (h : Low l n) (h0 : -1 ≤ m) (hm : m < n) {a : Int} (ha : -1 ≤ a) : upN l (stepsTo l m a) m ≤ a ∧ ∀ j, j < stepsTo l m a → a < upN l j m := by
  have := lst_spec (P := fun k => decide (upN l k m ≤ a)) (f := l.length + 1) ⟨l.length + 1, Nat.le_refl _, decide_eq_true (by
    rcases Int.lt_or_le (upN l (l.length + 1) m) 0 with h1 | h1
    · omega
    · have := (h.up h0 hm (l.length + 1)).2.2 h1
      omega)⟩
  refine ⟨of_decide_eq_true this.1, fun j hj => ?_⟩
  have := of_decide_eq_false (this.2.1 j hj)
  omega
theorem above_iff {n : Nat} (hn : n ≤ l.length) (h : Low l n) (h0 : -1 ≤ m) (hm : m < n) {a : Int} (ha : 0 ≤ a) : upN l (stepsTo l m a) m = a ↔ ∃ k, upN l k m = a := by
  constructor
  · exact fun e => ⟨_, e⟩
  · rintro ⟨k, hk⟩
    have h1 := stepsTo_is hn h h0 hm (a := a) (by omega) (k := k) (by omega) (fun j hj => by
      have e : k = j + (k - j) := by omega
      have h2 := h.up h0 hm j
      rw [e, upN_add] at hk
      have h3 := (h.up h2.1 (by omega) (k - j)).2.2 (by omega)
      omega)
    rw [h1, hk]
theorem deep_up {n : Nat} (hn : n ≤ l.length) (h : Low l n) (h0 : -1 ≤ m) (hm : m < n) {k : Nat} (hj : ∀ j, j < k → 0 ≤ upN l j m) : deep l m = k + deep l (upN l k m) := by
  have h1 := h.up h0 hm k
  obtain ⟨h2, h3⟩ := deep_spec hn h h1.1 (by omega)
  refine deep_is hn h h0 hm (by rw [upN_add]; exact h2) fun j hjk => ?_
  rcases Nat.lt_or_ge j k with h4 | h4
  · exact hj j h4
  · have := h3 (j - k) (by omega)
    rw [← upN_add, show k + (j - k) = j by omega] at this
    exact this
theorem deep_le {n : Nat} (hn : n ≤ l.length) (h : Low l n) (h0 : -1 ≤ m) (hm : m < n) : (deep l m : Int) ≤ m + 1 := by
  obtain ⟨h1, h2⟩ := deep_spec hn h h0 hm
  rcases Nat.eq_zero_or_pos (deep l m) with e | e
  · omega
  · have h3 := h2 (deep l m - 1) (by omega)
    have h4 := (h.up h0 hm (deep l m - 1)).2.2 h3
    omega
end
def okAt (l : List Nd) (i : Nat) : Prop := if i = 0 then (nd l 0).p = -1 else 0 ≤ (nd l i).p ∧ upN l (stepsTo l ((i : Int) - 1) (nd l i).p) ((i : Int) - 1) = (nd l i).p
instance (l : List Nd) (i : Nat) : Decidable (okAt l i) := by unfold okAt; infer_instance
theorem low_step {l : List Nd} {i : Nat} (hi : i < l.length) (hl : Low l i) (h : okAt l i) : Low l (i + 1) := by
  intro j hj
  rcases Nat.lt_or_ge j i with h1 | h1
  · exact hl j h1
  · obtain rfl : j = i := by omega
    unfold okAt at h
    split at h
    · rename_i e; subst e; rw [h]; omega
    · rename_i e
      obtain ⟨h2, h3⟩ := h
      have h4 := (hl.up (m := (j : Int) - 1) (by omega) (by omega) (stepsTo l ((j : Int) - 1) (nd l j).p))
      omega
theorem low_of {l : List Nd} {n : Nat} (hn : n ≤ l.length) (h : ∀ i, i < n → okAt l i) : Low l n := by
  induction n with
  | zero => exact fun i hi => absurd hi (by omega)
  | succ n ih => exact low_step (by omega) (ih (by omega) fun i hi => h i (by omega)) (h n (by omega))
def FormedT (l : List Nd) : Prop := 0 < l.length ∧ ∀ i, i < l.length → okAt l i ∧ formedB (nd l i).s = true
instance (l : List Nd) : Decidable (FormedT l) := by unfold FormedT; infer_instance
def formedT (l : List Nd) : Bool := decide (FormedT l)
def WithinT (l : List Nd) : Prop := l.length ≤ 65535 ∧ ∀ i, i < l.length → (deep l i ≤ 256 ∧ withinB (nd l i).s = true)
instance (l : List Nd) : Decidable (WithinT l) := by unfold WithinT; infer_instance
def withinT (l : List Nd) : Bool := decide (WithinT l)
def checkT (l : List Nd) : Int := if formedT l then (if withinT l then 0 else 3) else 2
theorem FormedT.low {l : List Nd} (h : FormedT l) : Low l l.length := low_of (Nat.le_refl _) fun i hi => (h.2 i hi).1
def stepsAt (l : List Nd) (i : Nat) : Nat := stepsTo l ((i : Int) - 1) (nd l i).p
theorem ok_pos {l : List Nd} {i : Nat} (hi : 0 < i) (h : okAt l i) : 0 ≤ (nd l i).p ∧ upN l (stepsAt l i) ((i : Int) - 1) = (nd l i).p := by
  unfold okAt at h
  rw [if_neg (by omega)] at h
  exact h
theorem deep_next {l : List Nd} {i : Nat} (h0 : 0 < i) (hi : i < l.length) (hl : Low l (i + 1)) (h : okAt l i) : deep l ((i : Int) - 1) + 1 = deep l i + stepsAt l i ∧ stepsAt l i ≤ i - 1 := by
  obtain ⟨h1, h2⟩ := ok_pos h0 h
  have hs := (stepsTo_spec (m := (i : Int) - 1) (n := i + 1) (by omega) hl (by omega) (by omega) (a := (nd l i).p) (by omega)).2
  have h3 := deep_up (m := (i : Int) - 1) (n := i + 1) (by omega) hl (by omega) (by omega) (k := stepsAt l i) (fun j hj => by have := hs j hj; omega)
  rw [h2] at h3
  have h4 := deep_up (m := (i : Int)) (n := i + 1) (by omega) hl (by omega) (by omega) (k := 1) (fun j hj => by
    obtain rfl : j = 0 := by omega
    show (0 : Int) ≤ i; omega)
  have e : upN l 1 (i : Int) = (nd l i).p := par_nat l i
  rw [e] at h4
  have h5 := (hl.up (m := (i : Int) - 1) (by omega) (by omega) (stepsAt l i)).2.2 (by omega)
  omega
theorem deep_zero {l : List Nd} (h0 : 0 < l.length) (h : okAt l 0) : deep l (0 : Nat) = 1 := by
  have hp : (nd l 0).p = -1 := by unfold okAt at h; rwa [if_pos rfl] at h
  have hl : Low l 1 := low_step (l := l) (i := 0) h0 (fun i hi => absurd hi (by omega)) h
  refine deep_is (n := 1) (by omega) hl (by omega) (by omega) (k := 1) ?_ fun j hj => ?_
  · show par l ((0 : Nat) : Int) < 0
    rw [par_nat, hp]; omega
  · obtain rfl : j = 0 := by omega
    show (0 : Int) ≤ ((0 : Nat) : Int); omega
end Go.Proofs.YtngeaigkafamiaaGreat
namespace Go.Proofs.YtngeaigkafamiaaGreat
open Go.ChangeShapes Go.WideShapes Go.ChangeAt Go.RowKit
set_option maxRecDepth 100000
def NS (w : World) (ad : Option Addr) (n : Nat) (l : List Nd) : Prop := SL ndl 49 zeroN w ad n l
theorem NS.seen {w w' : World} {ad : Option Addr} {n : Nat} {l : List Nd} (h : NS w ad n l) (hs : Seen w w') : NS w' ad n l := SL.seen ndl_length h hs
theorem NS.nil (w : World) (ad : Option Addr) : NS w ad 0 [] := ⟨rfl, fun h => absurd h (by omega)⟩
theorem NS.pars {w : World} {ad : Option Addr} {n : Nat} {l : List Nd} (h : NS w ad n l) (h0 : 0 < n) :
    ∃ b off, ad = some ⟨b, off, none⟩ ∧ ∀ i, i < n → w.cell? ⟨b, off + i * 49 + 48, none⟩ = some (.int .i64 (nd l i).p) := by
  obtain ⟨b, off, e, hc⟩ := h.2 h0
  exact ⟨b, off, e, fun i hi => (hc i hi 48 (by omega)).trans (ndl_par _)⟩
theorem okAt0 (l : List Nd) : okAt l 0 ↔ (nd l 0).p = -1 := by unfold okAt; rw [if_pos rfl]
theorem okAtS (l : List Nd) {i : Nat} (h : 0 < i) : okAt l i ↔ (0 ≤ (nd l i).p ∧ upN l (stepsTo l ((i : Int) - 1) (nd l i).p) ((i : Int) - 1) = (nd l i).p) := by unfold okAt; rw [if_neg (by omega)]
theorem dec_eq {p : Prop} [Decidable p] {b : Bool} (h : p ↔ b = true) : decide p = b := by
  cases b with
  | true => exact decide_eq_true (h.2 rfl)
  | false => exact decide_eq_false fun hp => by have := h.1 hp; cases this
def stepsV (l : List Nd) (i : Nat) : Nat := if i = 0 then 0 else if (nd l i).p < 0 then 0 else stepsAt l i
set_option maxHeartbeats 4000000 in
theorem stepsUp_any (ad : Option Addr) (n c : Nat) (l : List Nd) (i : Nat) (w : World) (h : NS w ad n l) (hi : i < n) (hn : n ≤ 1099511627776) (hl : Low l i) :
    Calls Tryz.prog 61 #[.slice ad n c, .int .i64 i] w fun e w' => e = .returned (.tuple #[.int .i64 (stepsV l i : Nat), .bool (decide (okAt l i))]) ∧ w' = w := by
  obtain ⟨b, off, rfl, hc⟩ := h.pars (by omega)
  have cp := hc i hi
  have HL := Lib.hid hl
  have HC := Lib.hid hc
  have HN : Hid (l.length = n) := h.1
  have hi' : (i : Int) < (n : Int) := by omega
  have hi0 : ¬ ((i : Int) < 0) := by omega
  obtain ⟨P, hP⟩ : ∃ P, (nd l i).p = P := ⟨_, rfl⟩
  rw [hP] at cp
  clear h hc hl
  rcases Nat.eq_zero_or_pos i with h0 | h0
  · subst h0
    have e1 : Hid (stepsV l 0 = 0) := rfl
    have e2 : Hid (decide (okAt l 0) = (P == -1)) := by
      exact dec_eq (by rw [okAt0, hP]; simp)
    clear hP HL HC
    go_enter Tryz.func61, Tryz.ntmps61
    go_wp2_with fail
    go_ret2
    rw [e1.out, e2.out]
    exact ⟨rfl, rfl⟩
  · have hne : ((i : Int) == 0) = false := by simp; omega
    by_cases hp : P < 0
    · have e1 : Hid (stepsV l i = 0) := by
        unfold Hid stepsV
        rw [if_neg (by omega), hP, if_pos hp]
      have e2 : Hid (decide (okAt l i) = false) := by
        exact dec_eq (by rw [okAtS l h0, hP]; simp; omega)
      clear hP HL HC
      go_enter Tryz.func61, Tryz.ntmps61
      go_wp2_with fail
      go_ret2
      rw [e1.out, e2.out]
      exact ⟨rfl, rfl⟩
    · have HP := Lib.hid hP
      clear hP
      obtain ⟨m, hm⟩ : ∃ m : Int, (i : Int) - 1 = m := ⟨_, rfl⟩
      have hm0 : 0 ≤ m := by omega
      have hmn : m < n := by omega
      have hmi : m < i := by omega
      go_enter Tryz.func61, Tryz.ntmps61
      go_wp2_with fail
      have HM := Lib.hid hm
      clear hm
      go_loopw [7, 8] (fun s a wr => ∃ k : Nat, s = .int .i64 k ∧ a = .int .i64 (upN l k m) ∧ wr = w ∧ ∀ j, j < k → P < upN l j m) (fun _ a _ => (intOf a + 1).toNat)
      case atStart => exact ⟨0, rfl, rfl, rfl, fun j hj => absurd hj (by omega)⟩
      case round =>
        obtain ⟨k, rfl, rfl, rfl, hall⟩ := hrel
        have HA := Lib.hid hall
        clear hall
        obtain ⟨u1, u2, u3⟩ := HL.out.up (m := m) (by omega) (by omega) k
        have hnext : Hid (upN l (k + 1) m = par l (upN l k m)) := rfl
        obtain ⟨A, hA⟩ : ∃ A, upN l k m = A := ⟨_, rfl⟩
        rw [hA] at u1 u2 u3
        rw [hA] at hnext
        rw [hA]
        by_cases hgt : P < A
        · have hA0 : 0 ≤ A := by omega
          obtain ⟨a, rfl⟩ := Int.eq_ofNat_of_zero_le hA0
          have ca := HC.out a (by omega)
          have u4 := u3 hA0
          have ha' : (a : Int) < (n : Int) := by omega
          have HAA := Lib.hid hA
          clear hA u3
          have hk63 : (k : Int) + 1 < 9223372036854775808 := by omega
          go_wp2_with fail
          refine ⟨⟨k + 1, by go_num, ?_, trivial, fun j hj => ?_⟩, ?_⟩
          · rw [hnext.out, par_nat]
          · rcases Nat.lt_or_ge j k with h | h
            · exact HA.out j h
            · obtain rfl : j = k := by omega
              rw [HAA.out]; exact hgt
          · have := HL.out.par (m := (a : Int)) (by omega) (by omega)
            rw [par_nat] at this
            simp [intOf]; omega
        · have e1 : Hid (stepsV l i = k) := by
            unfold Hid stepsV
            rw [if_neg (by omega), HP.out, if_neg (by omega)]
            have := stepsTo_is (l := l) (m := m) (n := i) (by have := HN.out; omega) HL.out (by omega) (by omega) (a := P) (by omega) (k := k) (by omega) HA.out
            unfold stepsAt
            rw [HP.out, HM.out, this]
          have e2 : Hid (decide (okAt l i) = (A == P)) := by
            have e3 := e1.out
            unfold stepsV at e3
            rw [if_neg (by omega), HP.out, if_neg (by omega)] at e3
            unfold stepsAt at e3
            rw [HP.out, HM.out] at e3
            exact dec_eq (by rw [okAtS l h0, HP.out, HM.out, e3, hA]; simp; omega)
          clear hA u3
          go_wp2_with fail
          go_ret2
          rw [e1.out, e2.out]
          exact ⟨rfl, rfl⟩
def aboveB (l : List Nd) (a m : Int) : Bool := upN l (stepsTo l m a) m == a
set_option maxHeartbeats 4000000 in
theorem above_any (ad : Option Addr) (n c : Nat) (l : List Nd) (a m : Int) (w : World) (h : NS w ad n l) (ha : 0 ≤ a) (hm0 : 0 ≤ m) (hmn : m < n) (hn : n ≤ 1099511627776) (hl : Low l (m.toNat + 1)) :
    Calls Tryz.prog 60 #[.slice ad n c, .int .i64 a, .int .i64 m] w fun e w' => e = .returned (.bool (aboveB l a m)) ∧ w' = w := by
  obtain ⟨b, off, rfl, hc⟩ := h.pars (by omega)
  have HL := Lib.hid hl
  have HC := Lib.hid hc
  have HN : Hid (l.length = n) := h.1
  have HB : Hid (aboveB l a m = true ↔ ∃ k, upN l k m = a) := by
    unfold Hid aboveB
    rw [beq_iff_eq]
    exact above_iff (n := m.toNat + 1) (by have := HN.out; omega) hl (by omega) (by omega) ha
  clear h hc hl
  go_enter Tryz.func60, Tryz.ntmps60
  go_wp2_with fail
  go_loopw [2] (fun x wr => ∃ k : Nat, x = .int .i64 (upN l k m) ∧ wr = w ∧ ∀ j, j < k → upN l j m ≠ a) (fun x _ => (intOf x + 1).toNat)
  case atStart => exact ⟨0, rfl, rfl, fun j hj => absurd hj (by omega)⟩
  case round =>
    obtain ⟨k, rfl, rfl, hall⟩ := hrel
    have HA := Lib.hid hall
    clear hall
    obtain ⟨u1, u2, u3⟩ := HL.out.up (m := m) (by omega) (by omega) k
    have hnext : Hid (upN l (k + 1) m = par l (upN l k m)) := rfl
    obtain ⟨A, hA⟩ : ∃ A, upN l k m = A := ⟨_, rfl⟩
    rw [hA] at u1 u2 u3
    rw [hA] at hnext
    rw [hA]
    have HAA := Lib.hid hA
    clear hA
    by_cases hge : 0 ≤ A
    · cases hq : (A == a)
      · obtain ⟨x, rfl⟩ := Int.eq_ofNat_of_zero_le hge
        have ca := HC.out x (by omega)
        have ha' : (x : Int) < (n : Int) := by omega
        clear u3
        go_wp2_with fail
        refine ⟨⟨k + 1, ?_, trivial, fun j hj => ?_⟩, ?_⟩
        · rw [hnext.out, par_nat]
        · rcases Nat.lt_or_ge j k with h | h
          · exact HA.out j h
          · obtain rfl : j = k := by omega
            rw [HAA.out]; simpa using hq
        · have := HL.out.par (m := (x : Int)) (by omega) (by omega)
          rw [par_nat] at this
          simp [intOf]; omega
      · go_wp2_with fail
        go_ret
        refine ⟨ret_bool (Eq.symm (HB.out.2 ⟨k, ?_⟩)), rfl⟩
        rw [HAA.out]; simpa using hq
    · have hA1 : A = -1 := by omega
      go_wp2_with fail
      go_ret
      refine ⟨ret_bool (Eq.symm ?_), rfl⟩
      cases hb : aboveB l a m
      · rfl
      · exfalso
        obtain ⟨j, hj⟩ := HB.out.1 hb
        rcases Nat.lt_or_ge j k with h | h
        · exact HA.out j h hj
        · rw [show j = k + (j - k) by omega, upN_add, HAA.out] at hj
          have := HL.out.up (m := A) (by omega) (by omega) (j - k)
          omega
set_option maxHeartbeats 4000000 in
theorem deep_any (ad : Option Addr) (n c : Nat) (l : List Nd) (m : Int) (w : World) (h : NS w ad n l) (hm0 : 0 ≤ m) (hmn : m < n) (hn : n ≤ 1099511627776) (hl : Low l (m.toNat + 1)) :
    Calls Tryz.prog 14 #[.slice ad n c, .int .i64 m] w fun e w' => e = .returned (.int .i64 (deep l m : Nat)) ∧ w' = w := by
  obtain ⟨b, off, rfl, hc⟩ := h.pars (by omega)
  have HL := Lib.hid hl
  have HC := Lib.hid hc
  have HN : Hid (l.length = n) := h.1
  clear h hc hl
  go_enter Tryz.func14, Tryz.ntmps14
  go_wp2_with fail
  go_loopw [5, 1] (fun d x wr => ∃ k : Nat, d = .int .i64 k ∧ x = .int .i64 (upN l k m) ∧ wr = w ∧ ∀ j, j < k → 0 ≤ upN l j m) (fun _ x _ => (intOf x + 1).toNat)
  case atStart => exact ⟨0, rfl, rfl, rfl, fun j hj => absurd hj (by omega)⟩
  case round =>
    obtain ⟨k, rfl, rfl, rfl, hall⟩ := hrel
    have HA := Lib.hid hall
    clear hall
    obtain ⟨u1, u2, u3⟩ := HL.out.up (m := m) (by omega) (by omega) k
    have hnext : Hid (upN l (k + 1) m = par l (upN l k m)) := rfl
    obtain ⟨A, hA⟩ : ∃ A, upN l k m = A := ⟨_, rfl⟩
    rw [hA] at u1 u2 u3
    rw [hA] at hnext
    rw [hA]
    have HAA := Lib.hid hA
    clear hA
    by_cases hge : 0 ≤ A
    · obtain ⟨x, rfl⟩ := Int.eq_ofNat_of_zero_le hge
      have ca := HC.out x (by omega)
      have ha' : (x : Int) < (n : Int) := by omega
      have u4 := u3 hge
      have hk63 : (k : Int) + 1 < 9223372036854775808 := by omega
      clear u3
      go_wp2_with fail
      refine ⟨⟨k + 1, by go_num, ?_, trivial, fun j hj => ?_⟩, ?_⟩
      · rw [hnext.out, par_nat]
      · rcases Nat.lt_or_ge j k with h | h
        · exact HA.out j h
        · obtain rfl : j = k := by omega
          rw [HAA.out]; exact hge
      · have := HL.out.par (m := (x : Int)) (by omega) (by omega)
        rw [par_nat] at this
        simp [intOf]; omega
    · have e1 : Hid (deep l m = k) := deep_is (n := m.toNat + 1) (by have := HN.out; omega) HL.out (by omega) (by omega) (by rw [HAA.out]; omega) HA.out
      clear u3
      go_wp2_with fail
      go_ret
      rw [e1.out]
      exact ⟨rfl, rfl⟩
end Go.Proofs.YtngeaigkafamiaaGreat

