/- Texts of the proof, merged: Sty. -/
import Derived.Test.YtlnnaegmcopiiaaM1
/- Styles as data: their cells, which are valid and within the limits, their bytes, and bytes read as a style: plain mathematics. No conditions beyond those written in each theorem. -/
namespace Go.Proofs.Ytlnnaegmcopiiaa
open Go.ChangeShapes Go.WideShapes Go.ChangeAt Go.RowKit
set_option maxRecDepth 100000
/-- A length: its kind, its number. -/
structure Ln where
  k : Int
  n : Int
/-- The cells of lengths. -/
def flatL (l : List Ln) : List Value := l.flatMap fun x => [.int .i64 x.k, .int .i64 x.n]
/-- Length i of a list. -/
def lat (l : List Ln) (i : Nat) : Ln := l.getD i ⟨0, 0⟩
/-- The cells of numbers. -/
def flatI (l : List Int) : List Value := l.map (Value.int .i64)
theorem flatL_length (l : List Ln) : (flatL l).length = l.length * 2 := by
  induction l with
  | nil => rfl
  | cons a l ih => simp [flatL] at ih ⊢; omega
theorem flatL_append (l m : List Ln) : flatL (l ++ m) = flatL l ++ flatL m := by simp [flatL]
theorem flatI_length (l : List Int) : (flatI l).length = l.length := by simp [flatI]
theorem flatI_append (l m : List Int) : flatI (l ++ m) = flatI l ++ flatI m := by simp [flatI]
theorem flatL_one (l : List Ln) : ∀ u ∈ flatL l, u.oneCell' = true := by
  intro u hu
  simp only [flatL, List.mem_flatMap] at hu
  obtain ⟨x, _, hx⟩ := hu
  simp at hx
  rcases hx with rfl | rfl <;> rfl
theorem flatI_one (l : List Int) : ∀ u ∈ flatI l, u.oneCell' = true := by
  intro u hu
  simp only [flatI, List.mem_map] at hu
  obtain ⟨x, _, rfl⟩ := hu
  rfl
theorem lat_eq {l : List Ln} {i : Nat} (h : i < l.length) : lat l i = l[i] := by
  unfold lat; rw [List.getD_eq_getElem?_getD, List.getElem?_eq_getElem h]; rfl
theorem lat_drop (l : List Ln) (n i : Nat) : lat (l.drop n) i = lat l (n + i) := by
  unfold lat; rw [List.getD_eq_getElem?_getD, List.getD_eq_getElem?_getD, List.getElem?_drop]
theorem lat_take {l : List Ln} {n i : Nat} (h : i < n) : lat (l.take n) i = lat l i := by
  unfold lat; rw [List.getD_eq_getElem?_getD, List.getD_eq_getElem?_getD, List.getElem?_take_of_lt h]
theorem flatL_at {l : List Ln} {i : Nat} (h : i < l.length) : (flatL l)[i * 2]? = some (.int .i64 (lat l i).k) ∧ (flatL l)[i * 2 + 1]? = some (.int .i64 (lat l i).n) := by
  induction l generalizing i with
  | nil => simp at h
  | cons a l ih =>
    cases i with
    | zero => exact ⟨rfl, rfl⟩
    | succ i =>
      have h' : i < l.length := by simpa using h
      have e : flatL (a :: l) = .int .i64 a.k :: .int .i64 a.n :: flatL l := rfl
      have e2 : lat (a :: l) (i + 1) = lat l i := rfl
      rw [e, e2, show (i + 1) * 2 = i * 2 + 1 + 1 by omega]
      exact ih h'
theorem flatI_at {l : List Int} {i : Nat} (h : i < l.length) : (flatI l)[i]? = some (.int .i64 (bat l i)) := by
  unfold flatI; rw [List.getElem?_map, bat_get h]; rfl
theorem flatL_drop (l : List Ln) (n : Nat) : (flatL l).drop (n * 2) = flatL (l.drop n) := by
  induction n generalizing l with
  | zero => simp
  | succ n ih =>
    cases l with
    | nil => simp [flatL]
    | cons a l =>
      have e : flatL (a :: l) = .int .i64 a.k :: .int .i64 a.n :: flatL l := rfl
      rw [e, show (n + 1) * 2 = n * 2 + 1 + 1 by omega]
      simpa using ih l
theorem flatL_take (l : List Ln) (n : Nat) : (flatL l).take (n * 2) = flatL (l.take n) := by
  induction n generalizing l with
  | zero => simp [flatL]
  | succ n ih =>
    cases l with
    | nil => simp [flatL]
    | cons a l =>
      have e : flatL (a :: l) = .int .i64 a.k :: .int .i64 a.n :: flatL l := rfl
      have e2 : flatL ((a :: l).take (n + 1)) = .int .i64 a.k :: .int .i64 a.n :: flatL (l.take n) := rfl
      rw [e, e2, show (n + 1) * 2 = n * 2 + 1 + 1 by omega]
      simpa using ih l
/-- What is said of a box: its lengths in the order of memory. -/
structure Sty where
  shown : Bool
  pos : Int
  lens : List Ln
  bord : List Int
  rtl : Bool
  hasz : Bool
  z : Int
  clip : Bool
  back : Int
  line : Int
/-- The last six cells of a style. -/
def tailS (s : Sty) : List Value := [.bool s.rtl, .bool s.hasz, .int .i64 s.z, .bool s.clip, .int .i64 s.back, .int .i64 s.line]
/-- The cells of a style. -/
def stl (s : Sty) : List Value := [.bool s.shown, .int .i64 s.pos] ++ (flatL s.lens ++ (flatI s.bord ++ tailS s))
/-- Eighteen lengths, four borders. -/
structure Full (s : Sty) : Prop where
  lens : s.lens.length = 18
  bord : s.bord.length = 4
theorem Full.len {s : Sty} (h : Full s) : (stl s).length = 48 := by
  simp [stl, flatL_length, flatI_length, h.lens, h.bord, tailS]
theorem stl_one (s : Sty) : ∀ u ∈ stl s, u.oneCell' = true := by
  intro u hu
  simp only [stl, tailS, List.mem_append, List.mem_cons, List.not_mem_nil, or_false] at hu
  rcases hu with (rfl | rfl) | hu | hu | rfl | rfl | rfl | rfl | rfl | rfl
  · rfl
  · rfl
  · exact flatL_one _ _ hu
  · exact flatI_one _ _ hu
  all_goals rfl
theorem stl0 (s : Sty) : (stl s)[0]? = some (.bool s.shown) := rfl
theorem stl1 (s : Sty) : (stl s)[1]? = some (.int .i64 s.pos) := rfl
section
variable {s : Sty} (h : Full s)
include h
theorem stl_mid {j : Nat} (hj : j < 36) : (stl s)[2 + j]? = (flatL s.lens)[j]? := by
  have hl := flatL_length s.lens
  rw [h.lens] at hl
  unfold stl
  rw [List.getElem?_append_right (by simp), List.getElem?_append_left (by simp; omega)]
  congr 1
  simp
theorem stl_len {i : Nat} (hi : i < 18) : (stl s)[2 + i * 2]? = some (.int .i64 (lat s.lens i).k) ∧ (stl s)[2 + i * 2 + 1]? = some (.int .i64 (lat s.lens i).n) := by
  have e := flatL_at (l := s.lens) (i := i) (by rw [h.lens]; exact hi)
  exact ⟨(stl_mid h (by omega)).trans e.1, (stl_mid h (j := i * 2 + 1) (by omega)).trans e.2⟩
theorem stl_bord {j : Nat} (hj : j < 4) : (stl s)[38 + j]? = some (.int .i64 (bat s.bord j)) := by
  have hl := flatL_length s.lens
  rw [h.lens] at hl
  have hb := flatI_length s.bord
  rw [h.bord] at hb
  have e := flatI_at (l := s.bord) (i := j) (by rw [h.bord]; exact hj)
  unfold stl
  rw [List.getElem?_append_right (by simp; omega), List.getElem?_append_right (by simp; omega), List.getElem?_append_left (by simp; omega), ← e]
  congr 1
  simp; omega
theorem stl_tail {j : Nat} : (stl s)[42 + j]? = (tailS s)[j]? := by
  have hl := flatL_length s.lens
  rw [h.lens] at hl
  have hb := flatI_length s.bord
  rw [h.bord] at hb
  unfold stl
  rw [List.getElem?_append_right (by simp; omega), List.getElem?_append_right (by simp; omega), List.getElem?_append_right (by simp; omega)]
  congr 1
  simp; omega
end
/-- A length is valid. -/
def lnOk (x : Ln) : Bool := (x.k == 0 && x.n == 0) || (x.k == 1 || x.k == 2)
/-- A style is valid. -/
def FormedP (s : Sty) : Prop :=
  (∀ i, i < 18 → lnOk (lat s.lens i) = true) ∧ (∀ i, i < 6 → 0 ≤ (lat s.lens (4 + i)).n) ∧ (∀ i, i < 4 → (lat s.lens (14 + i)).k ≠ 0 ∧ 0 ≤ (lat s.lens (14 + i)).n) ∧ (∀ i, i < 4 → 0 ≤ bat s.bord i) ∧
    (0 ≤ s.pos ∧ s.pos ≤ 3 ∧ 0 ≤ s.back ∧ 0 ≤ s.line ∧ (s.hasz = true ∨ s.z = 0))
instance (s : Sty) : Decidable (FormedP s) := by unfold FormedP; infer_instance
def formedB (s : Sty) : Bool := decide (FormedP s)
/-- A length is within the limits. -/
def lnIn (x : Ln) : Bool := if x.k = 1 then decide (-1099511627776 ≤ x.n ∧ x.n ≤ 1099511627776) else if x.k = 2 then decide (-1000000 ≤ x.n ∧ x.n ≤ 1000000) else true
/-- A style is within the limits. -/
def WithinP (s : Sty) : Prop :=
  (∀ i, i < 18 → lnIn (lat s.lens i) = true) ∧ (∀ i, i < 4 → bat s.bord i ≤ 1099511627776) ∧ (-1073741824 ≤ s.z ∧ s.z ≤ 1073741824 ∧ s.back ≤ 16777216 ∧ s.line ≤ 16777216)
instance (s : Sty) : Decidable (WithinP s) := by unfold WithinP; infer_instance
def withinB (s : Sty) : Bool := decide (WithinP s)
/-- The flag, as a number. -/
def bitN (b : Bool) (n : Int) : Int := if b then n else 0
/-- The first byte. -/
def first (s : Sty) : Int := bitN s.shown 1 + 2 * s.pos + bitN s.rtl 8 + bitN s.hasz 16 + bitN s.clip 32
/-- Eight bytes of a number. -/
def e8 (v : Int) : List Int := be (v % 18446744073709551616) 8
/-- The bytes of a length. -/
def encLn (x : Ln) : List Int := (x.k % 256) :: (if x.k = 0 then [] else e8 x.n)
/-- The bytes of a style. -/
def encS (s : Sty) : List Int := [first s % 256] ++ (s.lens.flatMap encLn ++ (s.bord.flatMap e8 ++ ((if s.hasz then e8 s.z else []) ++ (e8 s.back ++ e8 s.line))))
/-- What is left of bytes, and whether some were missing. -/
structure StIn where
  l : List Int
  bad : Bool
/-- n bytes on. -/
def adv (n : Nat) (s : StIn) : StIn := ⟨tkLn n s.l, tkB n s.l s.bad⟩
/-- Eight bytes as a number. -/
def n8 (s : StIn) : Int := wrap64 (tkV 8 s.l)
/-- The length that they begin with. -/
def lnV (s : StIn) : Ln := if tkV 1 s.l = 0 then ⟨0, 0⟩ else ⟨tkV 1 s.l, n8 (adv 1 s)⟩
/-- Behind it. -/
def lnS (s : StIn) : StIn := if tkV 1 s.l = 0 then adv 1 s else adv 8 (adv 1 s)
def lnsS : Nat → StIn → StIn
  | 0, s => s
  | n + 1, s => lnS (lnsS n s)
def lnsV : Nat → StIn → List Ln
  | 0, _ => []
  | n + 1, s => lnsV n s ++ [lnV (lnsS n s)]
def nmsS : Nat → StIn → StIn
  | 0, s => s
  | n + 1, s => adv 8 (nmsS n s)
def nmsV : Nat → StIn → List Int
  | 0, _ => []
  | n + 1, s => nmsV n s ++ [n8 (nmsS n s)]
theorem lnsV_length (n : Nat) (s : StIn) : (lnsV n s).length = n := by
  induction n with
  | zero => rfl
  | succ n ih => simp [lnsV, ih]
theorem nmsV_length (n : Nat) (s : StIn) : (nmsV n s).length = n := by
  induction n with
  | zero => rfl
  | succ n ih => simp [nmsV, ih]
theorem lnsS_add (a b : Nat) (s : StIn) : lnsS (a + b) s = lnsS b (lnsS a s) := by
  induction b with
  | zero => rfl
  | succ b ih => show lnS (lnsS (a + b) s) = lnS (lnsS b (lnsS a s)); rw [ih]
theorem lnsV_add (a b : Nat) (s : StIn) : lnsV (a + b) s = lnsV a s ++ lnsV b (lnsS a s) := by
  induction b with
  | zero => simp [lnsV]
  | succ b ih =>
    show lnsV (a + b) s ++ [lnV (lnsS (a + b) s)] = lnsV a s ++ (lnsV b (lnsS a s) ++ [lnV (lnsS b (lnsS a s))])
    rw [ih, lnsS_add, List.append_assoc]
theorem lnsV_cons (n : Nat) (s : StIn) : lnsV (n + 1) s = lnV s :: lnsV n (lnS s) := by
  rw [Nat.add_comm, lnsV_add]; rfl
theorem lnsS_cons (n : Nat) (s : StIn) : lnsS (n + 1) s = lnsS n (lnS s) := by
  rw [Nat.add_comm, lnsS_add]; rfl
theorem nms_add (b : Nat) (s : StIn) : nmsS (1 + b) s = nmsS b (adv 8 s) ∧ nmsV (1 + b) s = n8 s :: nmsV b (adv 8 s) := by
  induction b with
  | zero => exact ⟨rfl, rfl⟩
  | succ b ih =>
    constructor
    · show adv 8 (nmsS (1 + b) s) = adv 8 (nmsS b (adv 8 s)); rw [ih.1]
    · show nmsV (1 + b) s ++ [n8 (nmsS (1 + b) s)] = n8 s :: (nmsV b (adv 8 s) ++ [n8 (nmsS b (adv 8 s))]); rw [ih.1, ih.2]; rfl
/-- The style of which a first byte, lengths, borders and numbers are known. -/
def mkS (f : Int) (D : List Ln) (B : List Int) (z back line : Int) : Sty :=
  ⟨f % 2 == 1, f / 2 % 4, D ++ List.replicate (18 - D.length) ⟨0, 0⟩, B ++ List.replicate (4 - B.length) 0, f / 8 % 2 == 1, f / 16 % 2 == 1, z, f / 32 % 2 == 1, back, line⟩
/-- The style that says nothing. -/
def zeroS : Sty := ⟨false, 0, List.replicate 18 ⟨0, 0⟩, List.replicate 4 0, false, false, 0, false, 0, 0⟩
section
variable (s : StIn)
def rF : Int := tkV 1 s.l
def rL : StIn := lnsS 18 (adv 1 s)
def rB : StIn := nmsS 4 (rL s)
def rHas : Bool := rF s / 16 % 2 == 1
def rZ : Int := if rHas s then n8 (rB s) else 0
def rZS : StIn := if rHas s then adv 8 (rB s) else rB s
/-- What the bytes read as, valid or not. -/
def rawS : Sty := mkS (rF s) (lnsV 18 (adv 1 s)) (nmsV 4 (rL s)) (rZ s) (n8 (rZS s)) (n8 (adv 8 (rZS s)))
/-- Behind all of it. -/
def rawE : StIn := adv 8 (adv 8 (rZS s))
/-- They begin with the bytes of a valid style. -/
def getOk : Bool := !(rawE s).bad && (!decide (63 < rF s) && formedB (rawS s))
def getV : Sty := if getOk s then rawS s else zeroS
def getE : StIn := if getOk s then rawE s else ⟨[], true⟩
end
theorem mkS_full {f : Int} {D : List Ln} {B : List Int} {z b l : Int} (h : D.length ≤ 18) (k : B.length ≤ 4) : Full (mkS f D B z b l) := ⟨by simp [mkS]; omega, by simp [mkS]; omega⟩
theorem zero_full : Full zeroS := ⟨rfl, rfl⟩
theorem rawS_full (s : StIn) : Full (rawS s) := mkS_full (by rw [lnsV_length]; omega) (by rw [nmsV_length]; omega)
theorem getV_full (s : StIn) : Full (getV s) := by
  unfold getV; split
  · exact rawS_full s
  · exact zero_full
theorem be_val {l : List Int} (h : Bytes8 l) : be (val l) l.length = l := by
  have key : ∀ n, n ≤ l.length → be (val (l.take n)) n = l.take n := by
    intro n
    induction n with
    | zero => intro _; simp [be]
    | succ n ih =>
      intro hn
      have hb := bat_ok h n
      rw [val_take (by omega), be, List.take_succ_eq_append_getElem (by omega), ← bat_eq (by omega)]
      rw [show (val (l.take n) * 256 + bat l n) / 256 = val (l.take n) by omega, show (val (l.take n) * 256 + bat l n) % 256 = bat l n by omega, ih (by omega)]
  have := key l.length (Nat.le_refl _)
  rwa [List.take_length] at this
/-- If nothing is missing behind: nothing was before, and between them lie just these bytes. -/
def Eats (s s' : StIn) (e : List Int) : Prop := s'.bad = false → s.bad = false ∧ s.l = e ++ s'.l
theorem Eats.trans {s s1 s2 : StIn} {e f : List Int} (h : Eats s s1 e) (k : Eats s1 s2 f) : Eats s s2 (e ++ f) := fun hb => by
  obtain ⟨k1, k2⟩ := k hb
  obtain ⟨h1, h2⟩ := h k1
  exact ⟨h1, by rw [h2, k2, List.append_assoc]⟩
theorem adv_ok {s : StIn} (h : Bytes8 s.l) (n : Nat) : Bytes8 (adv n s).l := by
  show Bytes8 (tkLn n s.l)
  unfold tkLn
  split
  · exact Bytes8.nil
  · exact h.drop n
theorem adv_eats {s : StIn} (h : Bytes8 s.l) (n : Nat) : Eats s (adv n s) (be (tkV n s.l) n) := fun hb => by
  have hb' : tkB n s.l s.bad = false := hb
  show s.bad = false ∧ s.l = be (tkV n s.l) n ++ tkLn n s.l
  unfold tkB at hb'
  unfold tkV tkLn
  split at hb'
  · cases hb'
  · rename_i hn
    rw [if_neg hn, if_neg hn]
    refine ⟨hb', ?_⟩
    have e := be_val (h.take n)
    rw [List.length_take, Nat.min_eq_left (by omega)] at e
    rw [e, List.take_append_drop]
theorem tk1_lt {s : StIn} (h : Bytes8 s.l) : 0 ≤ tkV 1 s.l ∧ tkV 1 s.l < 256 := by
  have := tkV_bound (n := 1) h
  simpa using this
theorem be1 (v : Int) : be v 1 = [v % 256] := by simp [be]
theorem e8_n8 {s : StIn} (h : Bytes8 s.l) : e8 (n8 s) = be (tkV 8 s.l) 8 := by
  have := tkV_bound (n := 8) h
  unfold e8 n8
  congr 1
  unfold wrap64
  omega
theorem n8_eats {s : StIn} (h : Bytes8 s.l) : Eats s (adv 8 s) (e8 (n8 s)) := by rw [e8_n8 h]; exact adv_eats h 8
theorem lnS_ok {s : StIn} (h : Bytes8 s.l) : Bytes8 (lnS s).l := by
  unfold lnS; split
  · exact adv_ok h 1
  · exact adv_ok (adv_ok h 1) 8
theorem lnS_eats {s : StIn} (h : Bytes8 s.l) : Eats s (lnS s) (encLn (lnV s)) := by
  have h1 := adv_eats h 1
  rw [be1] at h1
  unfold lnS lnV
  split
  · rename_i h0
    rw [h0] at h1
    exact h1
  · rename_i h0
    have := h1.trans (n8_eats (adv_ok h 1))
    show Eats s (adv 8 (adv 1 s)) ((tkV 1 s.l % 256) :: (if tkV 1 s.l = 0 then [] else e8 (n8 (adv 1 s))))
    rw [if_neg h0]
    exact this
theorem lnsS_ok {s : StIn} (h : Bytes8 s.l) (n : Nat) : Bytes8 (lnsS n s).l := by
  induction n with
  | zero => exact h
  | succ n ih => exact lnS_ok ih
theorem lnsS_eats {s : StIn} (h : Bytes8 s.l) (n : Nat) : Eats s (lnsS n s) ((lnsV n s).flatMap encLn) := by
  induction n with
  | zero => exact fun hb => ⟨hb, rfl⟩
  | succ n ih =>
    have := ih.trans (lnS_eats (lnsS_ok h n))
    show Eats s (lnS (lnsS n s)) _
    rw [lnsV, List.flatMap_append]
    simpa using this
theorem nmsS_ok {s : StIn} (h : Bytes8 s.l) (n : Nat) : Bytes8 (nmsS n s).l := by
  induction n with
  | zero => exact h
  | succ n ih => exact adv_ok ih 8
theorem nmsS_eats {s : StIn} (h : Bytes8 s.l) (n : Nat) : Eats s (nmsS n s) ((nmsV n s).flatMap e8) := by
  induction n with
  | zero => exact fun hb => ⟨hb, rfl⟩
  | succ n ih =>
    have := ih.trans (n8_eats (nmsS_ok h n))
    show Eats s (adv 8 (nmsS n s)) _
    rw [nmsV, List.flatMap_append]
    simpa using this
theorem mkS_first {f : Int} {D : List Ln} {B : List Int} {z b l : Int} (h0 : 0 ≤ f) (h : f ≤ 63) : first (mkS f D B z b l) = f := by
  unfold first mkS bitN
  simp only [beq_iff_eq]
  split <;> split <;> split <;> split <;> omega
/-- What is taken has just those bytes. -/
theorem raw_eats {s : StIn} (h : Bytes8 s.l) (hf : rF s ≤ 63) : Eats s (rawE s) (encS (rawS s)) := by
  have hf0 : 0 ≤ rF s := (tk1_lt h).1
  have h1 := adv_eats h 1
  have hb1 := adv_ok h 1
  rw [be1] at h1
  have h2 : Eats (adv 1 s) (rL s) ((lnsV 18 (adv 1 s)).flatMap encLn) := lnsS_eats hb1 18
  have hb2 : Bytes8 (rL s).l := lnsS_ok hb1 18
  have h3 : Eats (rL s) (rB s) ((nmsV 4 (rL s)).flatMap e8) := nmsS_eats hb2 4
  have hb3 : Bytes8 (rB s).l := nmsS_ok hb2 4
  have hz : Eats (rB s) (rZS s) (if rHas s then e8 (rZ s) else []) ∧ Bytes8 (rZS s).l := by
    unfold rZS rZ
    generalize rB s = t at hb3 ⊢
    split
    · exact ⟨n8_eats hb3, adv_ok hb3 8⟩
    · exact ⟨fun hb => ⟨hb, (List.nil_append _).symm⟩, hb3⟩
  have h5 := n8_eats hz.2
  have h6 := n8_eats (adv_ok hz.2 8)
  have hall := h1.trans (h2.trans (h3.trans (hz.1.trans (h5.trans h6))))
  have e : encS (rawS s) = [tkV 1 s.l % 256] ++ ((lnsV 18 (adv 1 s)).flatMap encLn ++ ((nmsV 4 (rL s)).flatMap e8 ++ ((if rHas s then e8 (rZ s) else []) ++ (e8 (n8 (rZS s)) ++ e8 (n8 (adv 8 (rZS s))))))) := by
    unfold encS
    rw [show first (rawS s) = tkV 1 s.l from mkS_first hf0 hf]
    have d : (rawS s).lens = lnsV 18 (adv 1 s) := by simp [rawS, mkS, lnsV_length]
    have d2 : (rawS s).bord = nmsV 4 (rL s) := by simp [rawS, mkS, nmsV_length]
    rw [d, d2]
    rfl
  rw [e]
  exact hall
theorem get_eats {s : StIn} (h : Bytes8 s.l) (hg : getOk s = true) : s.bad = false ∧ s.l = encS (getV s) ++ (getE s).l ∧ (getE s).bad = false ∧ formedB (getV s) = true := by
  have hv : getV s = rawS s := if_pos hg
  have he : getE s = rawE s := if_pos hg
  unfold getOk at hg
  simp only [Bool.and_eq_true, Bool.not_eq_true', decide_eq_false_iff_not] at hg
  have := raw_eats h (by omega) hg.1
  rw [hv, he]
  exact ⟨this.1, this.2, hg.1, hg.2.2⟩
/-- Numbers of 64 bits. -/
def i64B (x : Int) : Prop := -9223372036854775808 ≤ x ∧ x < 9223372036854775808
/-- All that a style of the program can hold. -/
structure OkS (s : Sty) : Prop where
  full : Full s
  pos : i64B s.pos
  lens : ∀ x ∈ s.lens, i64B x.k ∧ i64B x.n
  bord : ∀ x ∈ s.bord, i64B x
  z : i64B s.z
  back : i64B s.back
  line : i64B s.line
theorem e8_back {v : Int} (h : i64B v) (r : List Int) (b : Bool) : n8 ⟨e8 v ++ r, b⟩ = v ∧ adv 8 ⟨e8 v ++ r, b⟩ = ⟨r, b⟩ := by
  unfold n8 adv e8
  simp only [tkV_be, tkL_be, tkB_be]
  exact ⟨back8 h, trivial⟩
theorem one_back (v : Int) (r : List Int) (b : Bool) : tkV 1 (v % 256 :: r) = v % 256 ∧ adv 1 ⟨v % 256 :: r, b⟩ = ⟨r, b⟩ := by
  have e : v % 256 :: r = be v 1 ++ r := by simp [be]
  unfold adv
  simp only [e, tkV_be, tkL_be, tkB_be]
  exact ⟨by simp, trivial⟩
theorem ln_back {x : Ln} (hk : lnOk x = true) (hn : i64B x.n) (r : List Int) (b : Bool) : lnV ⟨encLn x ++ r, b⟩ = x ∧ lnS ⟨encLn x ++ r, b⟩ = ⟨r, b⟩ := by
  obtain ⟨k, n⟩ := x
  unfold lnOk at hk
  simp only [Bool.or_eq_true, Bool.and_eq_true, beq_iff_eq] at hk
  unfold lnV lnS encLn
  rcases hk with ⟨rfl, rfl⟩ | hk
  · simp only [if_true, List.cons_append, List.nil_append]
    obtain ⟨h1, h2⟩ := one_back 0 r b
    rw [h1, h2]
    exact ⟨rfl, rfl⟩
  · have h0 : k ≠ 0 := by omega
    have hm : k % 256 = k := by omega
    simp only [h0, if_false, List.cons_append]
    obtain ⟨h1, h2⟩ := one_back k (e8 n ++ r) b
    obtain ⟨h3, h4⟩ := e8_back hn r b
    rw [h1, h2, h3, h4, hm, if_neg h0]
    exact ⟨rfl, if_neg h0⟩
theorem lns_back {l : List Ln} (hk : ∀ x ∈ l, lnOk x = true ∧ i64B x.n) (r : List Int) (b : Bool) : lnsV l.length ⟨l.flatMap encLn ++ r, b⟩ = l ∧ lnsS l.length ⟨l.flatMap encLn ++ r, b⟩ = ⟨r, b⟩ := by
  induction l with
  | nil => exact ⟨rfl, rfl⟩
  | cons x l ih =>
    rw [List.length_cons, lnsV_cons, lnsS_cons, List.flatMap_cons, List.append_assoc]
    obtain ⟨h1, h2⟩ := ln_back (hk x (by simp)).1 (hk x (by simp)).2 (l.flatMap encLn ++ r) b
    obtain ⟨h3, h4⟩ := ih fun y hy => hk y (by simp [hy])
    rw [h1, h2, h3, h4]
    exact ⟨rfl, rfl⟩
theorem nms_back {l : List Int} (hk : ∀ x ∈ l, i64B x) (r : List Int) (b : Bool) : nmsV l.length ⟨l.flatMap e8 ++ r, b⟩ = l ∧ nmsS l.length ⟨l.flatMap e8 ++ r, b⟩ = ⟨r, b⟩ := by
  induction l with
  | nil => exact ⟨rfl, rfl⟩
  | cons x l ih =>
    rw [List.length_cons, Nat.add_comm, (nms_add _ _).1, (nms_add _ _).2, List.flatMap_cons, List.append_assoc]
    obtain ⟨h1, h2⟩ := e8_back (hk x (by simp)) (l.flatMap e8 ++ r) b
    obtain ⟨h3, h4⟩ := ih fun y hy => hk y (by simp [hy])
    rw [h1, h2, h3, h4]
    exact ⟨rfl, rfl⟩
theorem lat_mem {l : List Ln} {x : Ln} (h : x ∈ l) : ∃ i, i < l.length ∧ lat l i = x := by
  obtain ⟨i, hi, e⟩ := List.getElem_of_mem h
  exact ⟨i, hi, by rw [lat_eq hi]; exact e⟩
theorem first_lt {s : Sty} (h : FormedP s) : 0 ≤ first s ∧ first s ≤ 63 ∧ (first s % 2 == 1) = s.shown ∧ first s / 2 % 4 = s.pos ∧ (first s / 8 % 2 == 1) = s.rtl ∧ (first s / 16 % 2 == 1) = s.hasz ∧ (first s / 32 % 2 == 1) = s.clip := by
  obtain ⟨_, _, _, _, h0, h1, _⟩ := h
  obtain ⟨shown, pos, lens, bord, rtl, hasz, z, clip, back, line⟩ := s
  simp only [first, bitN] at *
  cases shown <;> cases rtl <;> cases hasz <;> cases clip <;> simp <;> omega
/-- From its own bytes, whatever stands behind, a valid style is taken as it was. -/
theorem get_back {s : Sty} (hs : OkS s) (hf : FormedP s) (r : List Int) : getOk ⟨encS s ++ r, false⟩ = true ∧ getV ⟨encS s ++ r, false⟩ = s ∧ getE ⟨encS s ++ r, false⟩ = ⟨r, false⟩ := by
  obtain ⟨f0, f1, f2, f3, f4, f5, f6⟩ := first_lt hf
  obtain ⟨F, hF⟩ : ∃ F, first s = F := ⟨_, rfl⟩
  rw [hF] at f0 f1 f2 f3 f4 f5 f6
  have hm : F % 256 = F := by omega
  obtain ⟨T, hT⟩ : ∃ T : StIn, (⟨encS s ++ r, false⟩ : StIn) = T := ⟨_, rfl⟩
  have e0 : T = ⟨F % 256 :: (s.lens.flatMap encLn ++ (s.bord.flatMap e8 ++ ((if s.hasz then e8 s.z else []) ++ (e8 s.back ++ (e8 s.line ++ r))))), false⟩ := by
    rw [← hT, ← hF]; simp [encS, List.append_assoc]
  obtain ⟨a1, a2⟩ := one_back F (s.lens.flatMap encLn ++ (s.bord.flatMap e8 ++ ((if s.hasz then e8 s.z else []) ++ (e8 s.back ++ (e8 s.line ++ r))))) false
  have b1 : rF T = F := by rw [rF, e0]; exact a1.trans hm
  have b2 : adv 1 T = ⟨s.lens.flatMap encLn ++ (s.bord.flatMap e8 ++ ((if s.hasz then e8 s.z else []) ++ (e8 s.back ++ (e8 s.line ++ r)))), false⟩ := by rw [e0]; exact a2
  obtain ⟨c1, c2⟩ := lns_back (l := s.lens) (fun x hx => by
    obtain ⟨i, hi, rfl⟩ := lat_mem hx
    exact ⟨hf.1 i (by rw [hs.full.lens] at hi; exact hi), (hs.lens _ hx).2⟩) (s.bord.flatMap e8 ++ ((if s.hasz then e8 s.z else []) ++ (e8 s.back ++ (e8 s.line ++ r)))) false
  rw [hs.full.lens] at c1 c2
  obtain ⟨d1, d2⟩ := nms_back (l := s.bord) hs.bord ((if s.hasz then e8 s.z else []) ++ (e8 s.back ++ (e8 s.line ++ r))) false
  rw [hs.full.bord] at d1 d2
  have b3 : rL T = ⟨s.bord.flatMap e8 ++ ((if s.hasz then e8 s.z else []) ++ (e8 s.back ++ (e8 s.line ++ r))), false⟩ := by rw [rL, b2]; exact c2
  have b4 : rB T = ⟨(if s.hasz then e8 s.z else []) ++ (e8 s.back ++ (e8 s.line ++ r)), false⟩ := by rw [rB, b3]; exact d2
  have b5 : rHas T = s.hasz := by rw [rHas, b1]; exact f5
  have hz : rZ T = s.z ∧ rZS T = ⟨e8 s.back ++ (e8 s.line ++ r), false⟩ := by
    rw [rZ, rZS, b5, b4]
    cases hh : s.hasz with
    | true => simpa using e8_back hs.z (e8 s.back ++ (e8 s.line ++ r)) false
    | false =>
      have := hf.2.2.2.2.2.2.2.2
      rw [hh] at this
      simp at this
      simp [this]
  obtain ⟨g1, g2⟩ := e8_back hs.back (e8 s.line ++ r) false
  obtain ⟨g3, g4⟩ := e8_back hs.line r false
  have hraw : rawS T = s := by
    rw [rawS, b1, b2, c1, b3, d1, hz.1, hz.2, g1, g2, g3]
    obtain ⟨shown, pos, lens, bord, rtl, hasz, z, clip, back, line⟩ := s
    have k1 : lens.length = 18 := hs.full.lens
    have k2 : bord.length = 4 := hs.full.bord
    simp only at f2 f3 f4 f5 f6
    simp [mkS, k1, k2, f2, f3, f4, f5, f6]
  have hE : rawE T = ⟨r, false⟩ := by rw [rawE, hz.2, g2, g4]
  have hok : getOk T = true := by
    have hff : formedB s = true := decide_eq_true hf
    have hd : decide (63 < F) = false := decide_eq_false (by omega)
    rw [getOk, hE, hraw, b1, hff, hd]
    rfl
  rw [hT]
  exact ⟨hok, by rw [getV, if_pos hok, hraw], by rw [getE, if_pos hok, hE]⟩
theorem encS_pos (s : Sty) : 0 < (encS s).length := by simp [encS]
theorem e8_ok (v : Int) : Bytes8 (e8 v) := be_ok _ 8
theorem e8_len (v : Int) : (e8 v).length = 8 := be_length _ 8
theorem encLn_ok (x : Ln) : Bytes8 (encLn x) := by
  intro y hy
  unfold encLn at hy
  rcases List.mem_cons.1 hy with rfl | h
  · omega
  · split at h
    · cases h
    · exact e8_ok _ _ h
theorem encLn_len (x : Ln) : (encLn x).length ≤ 9 := by
  unfold encLn
  split <;> simp [e8_len]
theorem flat_ok {α : Type} {f : α → List Int} (h : ∀ x, Bytes8 (f x)) (l : List α) : Bytes8 (l.flatMap f) := by
  intro y hy
  obtain ⟨x, _, hx⟩ := List.mem_flatMap.1 hy
  exact h x y hx
theorem flat_len {α : Type} {f : α → List Int} {m : Nat} (h : ∀ x, (f x).length ≤ m) (l : List α) : (l.flatMap f).length ≤ m * l.length := by
  induction l with
  | nil => simp
  | cons a l ih =>
    have := h a
    rw [List.flatMap_cons, List.length_append, List.length_cons, Nat.mul_succ]; omega
theorem encS_ok (s : Sty) : Bytes8 (encS s) := by
  unfold encS
  refine Bytes8.append (fun x hx => by simp at hx; omega) ((flat_ok encLn_ok _).append ((flat_ok e8_ok _).append (Bytes8.append ?_ ((e8_ok _).append (e8_ok _)))))
  split
  · exact e8_ok _
  · exact Bytes8.nil
theorem encS_len {s : Sty} (h : Full s) : (encS s).length ≤ 219 := by
  have h1 := flat_len (f := encLn) encLn_len s.lens
  have h2 := flat_len (f := e8) (m := 8) (fun x => by rw [e8_len]; omega) s.bord
  rw [h.lens] at h1
  rw [h.bord] at h2
  unfold encS
  simp only [List.length_append, e8_len, List.length_cons, List.length_nil]
  split
  · rw [e8_len]; omega
  · simp only [List.length_nil]; omega
theorem wrap64_ok (x : Int) : i64B (wrap64 x) := by unfold wrap64 i64B; omega
theorem n8_ok (s : StIn) : i64B (n8 s) := wrap64_ok _
theorem lnV_ok {s : StIn} (h : Bytes8 s.l) : i64B (lnV s).k ∧ i64B (lnV s).n := by
  have := tk1_lt h
  unfold lnV
  split
  · simp [i64B]
  · exact ⟨by simp only [i64B]; omega, n8_ok _⟩
theorem lnsV_ok {s : StIn} (h : Bytes8 s.l) (n : Nat) : ∀ x ∈ lnsV n s, i64B x.k ∧ i64B x.n := by
  induction n with
  | zero => intro x hx; cases hx
  | succ n ih =>
    intro x hx
    rw [lnsV] at hx
    rcases List.mem_append.1 hx with h1 | h1
    · exact ih x h1
    · rw [List.mem_singleton] at h1
      subst h1
      exact lnV_ok (lnsS_ok h n)
theorem nmsV_ok (s : StIn) (n : Nat) : ∀ x ∈ nmsV n s, i64B x := by
  induction n with
  | zero => intro x hx; cases hx
  | succ n ih =>
    intro x hx
    rw [nmsV] at hx
    rcases List.mem_append.1 hx with h1 | h1
    · exact ih x h1
    · rw [List.mem_singleton] at h1
      subst h1
      exact n8_ok _
theorem rawS_ok {s : StIn} (h : Bytes8 s.l) : OkS (rawS s) := by
  have d : (rawS s).lens = lnsV 18 (adv 1 s) := by simp [rawS, mkS, lnsV_length]
  have d2 : (rawS s).bord = nmsV 4 (rL s) := by simp [rawS, mkS, nmsV_length]
  refine ⟨rawS_full s, ?_, by rw [d]; exact lnsV_ok (adv_ok h 1) 18, by rw [d2]; exact nmsV_ok _ 4, ?_, n8_ok _, n8_ok _⟩
  · show i64B (rF s / 2 % 4)
    unfold i64B; omega
  · show i64B (rZ s)
    unfold rZ; split
    · exact n8_ok _
    · unfold i64B; omega
/-- Bytes of a style that end too early are none. -/
theorem get_cut {s : Sty} (hs : OkS s) (hf : FormedP s) {n : Nat} (hn : n < (encS s).length) : getOk ⟨(encS s).take n, false⟩ = false := by
  cases hg : getOk ⟨(encS s).take n, false⟩ with
  | false => rfl
  | true =>
    exfalso
    obtain ⟨_, h2, h3, h4⟩ := get_eats (s := ⟨(encS s).take n, false⟩) ((encS_ok s).take n) hg
    have hv : getV ⟨(encS s).take n, false⟩ = rawS ⟨(encS s).take n, false⟩ := if_pos hg
    obtain ⟨_, _, k3⟩ := get_back (rawS_ok (s := ⟨(encS s).take n, false⟩) ((encS_ok s).take n)) (of_decide_eq_true (by rw [hv] at h4; exact h4)) ((getE ⟨(encS s).take n, false⟩).l ++ (encS s).drop n)
    obtain ⟨_, _, j3⟩ := get_back hs hf []
    rw [hv] at h2
    have e : encS (rawS ⟨(encS s).take n, false⟩) ++ ((getE ⟨(encS s).take n, false⟩).l ++ (encS s).drop n) = encS s ++ [] := by
      rw [← List.append_assoc]
      have h2' : (encS s).take n = encS (rawS ⟨(encS s).take n, false⟩) ++ (getE ⟨(encS s).take n, false⟩).l := h2
      rw [← h2', List.take_append_drop, List.append_nil]
    rw [e, j3] at k3
    have k4 : ([] : List Int) = (getE ⟨(encS s).take n, false⟩).l ++ (encS s).drop n := congrArg StIn.l k3
    have k5 := congrArg List.length k4
    simp at k5
    omega
end Go.Proofs.Ytlnnaegmcopiiaa
