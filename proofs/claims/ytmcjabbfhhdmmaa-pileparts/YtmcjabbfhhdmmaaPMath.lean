/- Piles as plain mathematics: what Stack makes of a list of children, and what the reference makes of it; no conditions beyond those written in each theorem. -/
import Derived.Test.YtmcjabbfhhdmmaaStrut
namespace Go.Proofs.Ytmcjabbfhhdmmaa
set_option maxRecDepth 100000
/-- A child. -/
structure Ch where
  top : St
  bot : St
  inn : St
  thr : Bool
  high : Int
/-- A pile. -/
structure Pi where
  y : List Int
  edge : Int
  top : St
  cur : St
  att : Bool
def zS : St := ⟨0, 0⟩
def zeroC : Ch := ⟨zS, zS, zS, false, 0⟩
def zeroP : Pi := ⟨[], 0, zS, zS, false⟩
/-- The child at k. -/
def cat (l : List Ch) (k : Nat) : Ch := l.getD k zeroC
theorem cat_eq {l : List Ch} {k : Nat} (h : k < l.length) : cat l k = l[k] := by unfold cat; simp [h]
theorem take_cat {l : List Ch} {k : Nat} (h : k < l.length) : l.take (k + 1) = l.take k ++ [cat l k] := by rw [List.take_succ_eq_append_getElem h, cat_eq h]
theorem drop_cat {l : List Ch} {k : Nat} (h : k < l.length) : l.drop k = cat l k :: l.drop (k + 1) := by rw [cat_eq h]; exact List.drop_eq_getElem_cons h
/-- The strut that the position of a child asks for. -/
def byS (c : Ch) : St := if c.thr then c.inn else c.top
def gapN (u : St) (c : Ch) : Int := valN (joinS u (byS c))
def gapB (u : St) (c : Ch) : Bool := valB (joinS u (byS c))
/-- Where a child below others stands. -/
def posN (e : Int) (u : St) (c : Ch) : Int := if gapB u c then sumN [e, gapN u c] else 0
def posB (e : Int) (u : St) (c : Ch) : Bool := gapB u c && sumB [e, gapN u c]
/-- A child at the top. -/
def topP (p : Pi) (c : Ch) : Pi := if c.thr then ⟨p.y ++ [0], p.edge, joinS p.top c.top, p.cur, p.att⟩ else ⟨p.y ++ [0], c.high, joinS p.top c.top, c.bot, false⟩
def topB (c : Ch) : Bool := c.thr || fitsB c.high
/-- A child below others. -/
def lowP (p : Pi) (c : Ch) : Pi := if c.thr then ⟨p.y ++ [posN p.edge p.cur c], p.edge, p.top, joinS p.cur c.top, p.att⟩ else ⟨p.y ++ [posN p.edge p.cur c], sumN [posN p.edge p.cur c, c.high], p.top, c.bot, p.att⟩
def lowB (p : Pi) (c : Ch) : Bool := posB p.edge p.cur c && (c.thr || sumB [posN p.edge p.cur c, c.high])
def addP (p : Pi) (c : Ch) : Pi := if p.att then topP p c else lowP p c
def addB (p : Pi) (c : Ch) : Bool := if p.att then topB c else lowB p c
/-- All children of a list, one after the other. -/
def runP (p : Pi) : List Ch → Option Pi
  | [] => some p
  | c :: l => if addB p c then runP (addP p c) l else none
def runL (p : Pi) : List Ch → Option Pi
  | [] => some p
  | c :: l => if lowB p c then runL (lowP p c) l else none
theorem runP_append (p : Pi) (a b : List Ch) : runP p (a ++ b) = (runP p a).bind fun q => runP q b := by
  induction a generalizing p with
  | nil => rfl
  | cons c l ih =>
    simp only [List.cons_append, runP]
    split
    · exact ih _
    · rfl
theorem runL_append (p : Pi) (a b : List Ch) : runL p (a ++ b) = (runL p a).bind fun q => runL q b := by
  induction a generalizing p with
  | nil => rfl
  | cons c l ih =>
    simp only [List.cons_append, runL]
    split
    · exact ih _
    · rfl
theorem runP_next {p q : Pi} {l : List Ch} {k : Nat} (hk : k < l.length) (h : runP p (l.take k) = some q) (hb : addB q (cat l k) = true) : runP p (l.take (k + 1)) = some (addP q (cat l k)) := by
  rw [take_cat hk, runP_append, h]; simp [runP, hb]
theorem runP_stop {p q : Pi} {l : List Ch} {k : Nat} (hk : k < l.length) (h : runP p (l.take k) = some q) (hb : addB q (cat l k) = false) : runP p l = none := by
  have e : l = l.take k ++ (cat l k :: l.drop (k + 1)) := by rw [← drop_cat hk, List.take_append_drop]
  rw [e, runP_append, h]; simp [runP, hb]
theorem runL_next {p q : Pi} {l : List Ch} {k : Nat} (hk : k < l.length) (h : runL p (l.take k) = some q) (hb : lowB q (cat l k) = true) : runL p (l.take (k + 1)) = some (lowP q (cat l k)) := by
  rw [take_cat hk, runL_append, h]; simp [runL, hb]
theorem runL_stop {p q : Pi} {l : List Ch} {k : Nat} (hk : k < l.length) (h : runL p (l.take k) = some q) (hb : lowB q (cat l k) = false) : runL p l = none := by
  have e : l = l.take k ++ (cat l k :: l.drop (k + 1)) := by rw [← drop_cat hk, List.take_append_drop]
  rw [e, runL_append, h]; simp [runL, hb]
def openP (o : Bool) : Pi := ⟨[], 0, zS, zS, o⟩
/-- What Stack answers. -/
def stkO (l : List Ch) (o : Bool) : Option Pi := runP (openP o) l
def stkP (l : List Ch) (o : Bool) : Pi := (stkO l o).getD zeroP
def stkB (l : List Ch) (o : Bool) : Bool := (stkO l o).isSome
theorem stk_some {l : List Ch} {o : Bool} {q : Pi} (h : stkO l o = some q) : stkP l o = q ∧ stkB l o = true := by unfold stkP stkB; rw [h]; exact ⟨rfl, rfl⟩
theorem stk_none {l : List Ch} {o : Bool} (h : stkO l o = none) : stkP l o = zeroP ∧ stkB l o = false := by unfold stkP stkB; rw [h]; exact ⟨rfl, rfl⟩
/-! The length of a pile. -/
theorem addP_len (p : Pi) (c : Ch) : (addP p c).y.length = p.y.length + 1 := by
  unfold addP topP lowP
  split <;> split <;> simp
theorem lowP_len (p : Pi) (c : Ch) : (lowP p c).y.length = p.y.length + 1 := by
  unfold lowP
  split <;> simp
theorem runP_len {p q : Pi} {l : List Ch} (h : runP p l = some q) : q.y.length = p.y.length + l.length := by
  induction l generalizing p with
  | nil => simp [runP] at h; subst h; simp
  | cons c l ih =>
    simp only [runP] at h
    split at h
    · have := ih h
      rw [addP_len] at this
      simp; omega
    · cases h
theorem runL_len {p q : Pi} {l : List Ch} (h : runL p l = some q) : q.y.length = p.y.length + l.length := by
  induction l generalizing p with
  | nil => simp [runL] at h; subst h; simp
  | cons c l ih =>
    simp only [runL] at h
    split at h
    · have := ih h
      rw [lowP_len] at this
      simp; omega
    · cases h
/-! The reference's two parts. -/
/-- How many are at the top. -/
def topK : List Ch → Nat
  | [] => 0
  | c :: l => if c.thr then topK l + 1 else 1
def topN (l : List Ch) (o : Bool) : Nat := if o then topK l else 0
theorem topK_le (l : List Ch) : topK l ≤ l.length := by
  induction l with
  | nil => exact Nat.le_refl _
  | cons c l ih => simp only [topK, List.length_cons]; split <;> omega
theorem topN_le (l : List Ch) (o : Bool) : topN l o ≤ l.length := by
  unfold topN; split
  · exact topK_le l
  · omega
theorem topK_step {l : List Ch} {k : Nat} (hk : k < l.length) : topK (l.drop k) = if (cat l k).thr then topK (l.drop (k + 1)) + 1 else 1 := by rw [drop_cat hk]; rfl
/-- A child at the top, as the reference lays it. -/
def refTop (p : Pi) (c : Ch) : Pi := if c.thr then ⟨p.y ++ [0], p.edge, joinS p.top c.top, p.cur, p.att⟩ else ⟨p.y ++ [0], c.high, joinS p.top c.top, c.bot, p.att⟩
def refTops (p : Pi) (l : List Ch) : Pi := l.foldl refTop p
theorem refTops_next {l : List Ch} {k : Nat} (p : Pi) (hk : k < l.length) : refTops p (l.take (k + 1)) = refTop (refTops p (l.take k)) (cat l k) := by
  unfold refTops; rw [take_cat hk, List.foldl_append]; rfl
theorem refTop_len (p : Pi) (c : Ch) : (refTop p c).y.length = p.y.length + 1 := by unfold refTop; split <;> simp
theorem refTops_len (p : Pi) (l : List Ch) : (refTops p l).y.length = p.y.length + l.length := by
  induction l generalizing p with
  | nil => rfl
  | cons c l ih => show (refTops (refTop p c) l).y.length = _; rw [ih, refTop_len]; simp; omega
/-- Whether all are at the top. -/
def attB (l : List Ch) (o : Bool) : Bool := o && (decide (topN l o = 0) || (cat l (topN l o - 1)).thr)
theorem topK_last (l : List Ch) : (decide (topK l = 0) || (cat l (topK l - 1)).thr) = l.all (fun c => c.thr) := by
  induction l with
  | nil => rfl
  | cons c l ih =>
    simp only [topK, List.all_cons]
    by_cases hc : c.thr = true
    · simp only [hc, if_true, Bool.true_and, Nat.add_sub_cancel]
      rw [← ih]
      match l with
      | [] => simp [topK, cat, hc]
      | d :: r =>
        have hp : 0 < topK (d :: r) := by simp only [topK]; split <;> omega
        obtain ⟨m, hm⟩ : ∃ m, topK (d :: r) = m + 1 := ⟨topK (d :: r) - 1, by omega⟩
        rw [hm]
        simp [cat]
    · have hc' : c.thr = false := by simpa using hc
      simp [hc', cat]
theorem att_open (l : List Ch) : attB l true = l.all (fun c => c.thr) := by
  unfold attB topN; simp only [if_true, Bool.true_and]; exact topK_last l
theorem att_shut (l : List Ch) : attB l false = false := by unfold attB; simp
/-- The reference's answer. -/
def refQ (l : List Ch) (o : Bool) : Pi := refTops ⟨[], 0, zS, zS, attB l o⟩ (l.take (topN l o))
def refO (l : List Ch) (o : Bool) : Option Pi := if fitsB (refQ l o).edge then runL (refQ l o) (l.drop (topN l o)) else none
theorem lowP_att (p : Pi) (c : Ch) : (lowP p c).att = p.att := by unfold lowP; split <;> rfl
theorem run_shut (p : Pi) (h : p.att = false) (l : List Ch) : runP p l = runL p l := by
  induction l generalizing p with
  | nil => rfl
  | cons c l ih =>
    have e1 : addB p c = lowB p c := by unfold addB; rw [h]; rfl
    have e2 : addP p c = lowP p c := by unfold addP; rw [h]; rfl
    simp only [runP, runL, e1, e2]
    split
    · exact ih _ (by rw [lowP_att, h])
    · rfl
theorem run_open (y : List Int) (e : Int) (t u : St) (he : fitsB e = true) (l : List Ch) :
    runP ⟨y, e, t, u, true⟩ l = (if fitsB (refTops ⟨y, e, t, u, l.all (fun c => c.thr)⟩ (l.take (topK l))).edge then runL (refTops ⟨y, e, t, u, l.all (fun c => c.thr)⟩ (l.take (topK l))) (l.drop (topK l)) else none) := by
  induction l generalizing y e t u with
  | nil => simp [runP, topK, refTops, runL, he]
  | cons c l ih =>
    cases hc : c.thr
    · have ea : (c :: l).all (fun c => c.thr) = false := by simp [hc]
      have e0 : addB ⟨y, e, t, u, true⟩ c = fitsB c.high := by simp [addB, topB, hc]
      have e1 : addP ⟨y, e, t, u, true⟩ c = ⟨y ++ [0], c.high, joinS t c.top, c.bot, false⟩ := by simp [addP, topP, hc]
      have e2 : refTop ⟨y, e, t, u, false⟩ c = ⟨y ++ [0], c.high, joinS t c.top, c.bot, false⟩ := by simp [refTop, hc]
      have e3 : refTops ⟨y, e, t, u, false⟩ ((c :: l).take (topK (c :: l))) = ⟨y ++ [0], c.high, joinS t c.top, c.bot, false⟩ := by
        simp only [topK, hc, Bool.false_eq_true, if_false, List.take_succ_cons, List.take_zero]
        exact e2
      have e4 : (c :: l).drop (topK (c :: l)) = l := by simp [topK, hc]
      rw [ea, e3, e4]
      simp only [runP, e0, e1]
      rw [run_shut _ rfl]
    · have ea : (c :: l).all (fun c => c.thr) = l.all (fun c => c.thr) := by simp [hc]
      have e0 : addB ⟨y, e, t, u, true⟩ c = true := by simp [addB, topB, hc]
      have e1 : addP ⟨y, e, t, u, true⟩ c = ⟨y ++ [0], e, joinS t c.top, u, true⟩ := by simp [addP, topP, hc]
      have e2 : ∀ b, refTop ⟨y, e, t, u, b⟩ c = ⟨y ++ [0], e, joinS t c.top, u, b⟩ := fun b => by simp [refTop, hc]
      have e3 : ∀ b, refTops ⟨y, e, t, u, b⟩ ((c :: l).take (topK (c :: l))) = refTops ⟨y ++ [0], e, joinS t c.top, u, b⟩ (l.take (topK l)) := fun b => by
        simp only [topK, hc, if_true, List.take_succ_cons]
        show refTops (refTop _ c) _ = _
        rw [e2]
      have e4 : (c :: l).drop (topK (c :: l)) = l.drop (topK l) := by simp [topK, hc]
      rw [ea, e3, e4]
      simp only [runP, e0, e1, if_true]
      exact ih _ _ _ _ he
theorem fits_zero : fitsB 0 = true := by decide
theorem stk_ref (l : List Ch) (o : Bool) : stkO l o = refO l o := by
  unfold stkO refO refQ openP
  cases o
  · rw [att_shut, run_shut _ rfl]
    simp [topN, refTops, fits_zero]
  · rw [att_open]
    exact run_open _ _ _ _ fits_zero l
end Go.Proofs.Ytmcjabbfhhdmmaa
