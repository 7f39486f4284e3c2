/- Texts of the proof, merged: Box, PMath, All. -/
import Derived.Test.YteplmjgohnbpbaaM11
import Derived.Test.YteplmjgohnbpbaaM10
import Derived.Test.YteplmjgohnbpbaaM12
/- Plain mathematics of layer 13 (what results for a width; what is solved) and the values of its structs; no conditions. -/
namespace Go.Proofs.Yteplmjgohnbpbaa
open Go.ChangeShapes Go.WideShapes Go.ChangeAt Go.RowKit
set_option maxRecDepth 100000
abbrev szv (s : Sz) : Value := .agg #[.bool s.au, .int .i64 s.n]
/-- What is known of a box. -/
structure Bx where
  base : Int
  lf : Sz
  wd : Sz
  rt : Sz
  ar : Int
  rtl : Bool
  lo : Int
  hi : Int
abbrev bxl (b : Bx) : List Value := [.int .i64 b.base, .bool b.lf.au, .int .i64 b.lf.n, .bool b.wd.au, .int .i64 b.wd.n, .bool b.rt.au, .int .i64 b.rt.n, .int .i64 b.ar, .bool b.rtl, .int .i64 b.lo, .int .i64 b.hi]
abbrev bxv (b : Bx) : Value := .agg #[.int .i64 b.base, .bool b.lf.au, .int .i64 b.lf.n, .bool b.wd.au, .int .i64 b.wd.n, .bool b.rt.au, .int .i64 b.rt.n, .int .i64 b.ar, .bool b.rtl, .int .i64 b.lo, .int .i64 b.hi]
/-- Three numbers. -/
structure O3 where
  l : Int
  w : Int
  r : Int
abbrev o3l (o : O3) : List Value := [.int .i64 o.l, .int .i64 o.w, .int .i64 o.r]
abbrev o3v (o : O3) : Value := .agg #[.int .i64 o.l, .int .i64 o.w, .int .i64 o.r]
def zO : O3 := ⟨0, 0, 0⟩
/-- Which margins take the rest t. -/
def tkL (b : Bx) (t : Int) : Bool := if t < 0 then b.rtl else if b.lf.au = false ∧ b.rt.au = false then b.rtl else b.lf.au
def tkR (b : Bx) (t : Int) : Bool := if t < 0 then !b.rtl else if b.lf.au = false ∧ b.rt.au = false then !b.rtl else b.rt.au
/-- What results for the width s, the rest being t. -/
def fillR (b : Bx) (s : Sz) (t : Int) : O3 :=
  if s.au then ⟨orV b.lf 0, t, orV b.rt 0⟩
  else if tkL b t then (if tkR b t then ⟨halfI t, orV s 0, wrap64 (t - halfI t)⟩ else ⟨wrap64 (orV b.lf 0 + t), orV s 0, orV b.rt 0⟩)
  else ⟨orV b.lf 0, orV s 0, wrap64 (orV b.rt 0 + t)⟩
/-- The rest, as int64 has it. -/
def restW (b : Bx) (s : Sz) : Int := wrap64 (wrap64 (wrap64 (wrap64 (b.base - b.ar) - orV b.lf 0) - orV s 0) - orV b.rt 0)
def fillW (b : Bx) (s : Sz) : O3 := fillR b s (restW b s)
def fitO (o : O3) : Bool := fitsB o.l && fitsB o.w && fitsB o.r
def tryB (b : Bx) (s : Sz) : Bool := fitO (fillW b s)
def tryO (b : Bx) (s : Sz) : O3 := if tryB b s then fillW b s else zO
def tryN (b : Bx) (s : Sz) : Int := if tryB b s then (fillW b s).w else 0
/-- All that is given fits (the width is a result). -/
def okF (b : Bx) : Bool := fitsB b.base && fitsB b.ar && fitsB (orV b.lf 0) && fitsB (orV b.rt 0)
/-- The width that is tried in place of s. -/
def nextHi (b : Bx) (s : Sz) : Sz := if tryB b s = true ∧ b.hi < (fillW b s).w then ⟨false, b.hi⟩ else s
def nextLo (b : Bx) (s : Sz) : Sz := if tryB b s = true ∧ (fillW b s).w < b.lo then ⟨false, b.lo⟩ else s
def lastS (b : Bx) : Sz := nextLo b (nextHi b b.wd)
def solB (b : Bx) : Bool := okF b && tryB b (lastS b)
def solO (b : Bx) : O3 := if solB b then fillW b (lastS b) else zO
theorem half_eq (n : Int) (w : World) : Calls Try.prog 103 #[.int .i64 n] w fun e w' => e = .returned (.int .i64 (halfI n)) ∧ w' = w := (half_any n w).mono fun _ _ h => ⟨h.1, h.2.symm⟩
theorem Blk.rules3 {w : World} {B : Nat} {t : TypeId} {x y z : Value} (h : Blk w B [x, y, z] t) : ∀ w', Seen w w' → w'.cell? ⟨B, 0, none⟩ = some x ∧ w'.cell? ⟨B, 1, none⟩ = some y ∧ w'.cell? ⟨B, 2, none⟩ = some z ∧ (∀ o, w'.frozen? ⟨B, o, none⟩ = false) :=
  fun _ hs => ⟨(h.seen hs).cell 0, (h.seen hs).cell 1, (h.seen hs).cell 2, (h.seen hs).free⟩
theorem ld28 {w : World} {A : Nat} {l m r : Int} (h : Blk w A [.int .i64 l, .int .i64 m, .int .i64 r] 130) : (Instr.loadAt 130 (.pointer (some ⟨A, 0, none⟩))).run Try.prog w = .ok (.agg #[.int .i64 l, .int .i64 m, .int .i64 r]) w := by
  have ra := h.rules3 _ (Seen.refl _)
  go_simp
theorem st28 {w : World} {A : Nat} {x y z : Value} (l m r : Int) (h : Blk w A [x, y, z] 130) : (Instr.storeAt 130 (.pointer (some ⟨A, 0, none⟩)) (.agg #[.int .i64 l, .int .i64 m, .int .i64 r])).run Try.prog w = .ok () (((w.setCell ⟨A, 0, none⟩ (.int .i64 l)).setCell ⟨A, 1, none⟩ (.int .i64 m)).setCell ⟨A, 2, none⟩ (.int .i64 r)) := by
  have ra := h.rules3 _ (Seen.refl _)
  go_simp
theorem ldk0 {w : World} {A : Nat} {t : TypeId} {l m r : Int} (h : Blk w A [.int .i64 l, .int .i64 m, .int .i64 r] t) : (Instr.loadAt 2 (.pointer (some ⟨A, 0, none⟩))).run Try.prog w = .ok (.int .i64 l) w := by
  have ra := h.rules3 _ (Seen.refl _)
  go_simp
theorem ldk1 {w : World} {A : Nat} {t : TypeId} {l m r : Int} (h : Blk w A [.int .i64 l, .int .i64 m, .int .i64 r] t) : (Instr.loadAt 2 (.pointer (some ⟨A, 1, none⟩))).run Try.prog w = .ok (.int .i64 m) w := by
  have ra := h.rules3 _ (Seen.refl _)
  go_simp
theorem ldk2 {w : World} {A : Nat} {t : TypeId} {l m r : Int} (h : Blk w A [.int .i64 l, .int .i64 m, .int .i64 r] t) : (Instr.loadAt 2 (.pointer (some ⟨A, 2, none⟩))).run Try.prog w = .ok (.int .i64 r) w := by
  have ra := h.rules3 _ (Seen.refl _)
  go_simp
theorem Blk.rulesB {w : World} {B : Nat} {t : TypeId} {b : Bx} (h : Blk w B (bxl b) t) : ∀ w', Seen w w' → w'.cell? ⟨B, 0, none⟩ = some (.int .i64 b.base) ∧ w'.cell? ⟨B, 1, none⟩ = some (.bool b.lf.au) ∧ w'.cell? ⟨B, 2, none⟩ = some (.int .i64 b.lf.n) ∧ w'.cell? ⟨B, 3, none⟩ = some (.bool b.wd.au) ∧ w'.cell? ⟨B, 4, none⟩ = some (.int .i64 b.wd.n) ∧ w'.cell? ⟨B, 5, none⟩ = some (.bool b.rt.au) ∧ w'.cell? ⟨B, 6, none⟩ = some (.int .i64 b.rt.n) ∧ w'.cell? ⟨B, 7, none⟩ = some (.int .i64 b.ar) ∧ w'.cell? ⟨B, 8, none⟩ = some (.bool b.rtl) ∧ w'.cell? ⟨B, 9, none⟩ = some (.int .i64 b.lo) ∧ w'.cell? ⟨B, 10, none⟩ = some (.int .i64 b.hi) ∧ (∀ o, w'.frozen? ⟨B, o, none⟩ = false) :=
  fun _ hs => ⟨(h.seen hs).cell 0, (h.seen hs).cell 1, (h.seen hs).cell 2, (h.seen hs).cell 3, (h.seen hs).cell 4, (h.seen hs).cell 5, (h.seen hs).cell 6, (h.seen hs).cell 7, (h.seen hs).cell 8, (h.seen hs).cell 9, (h.seen hs).cell 10, (h.seen hs).free⟩
theorem Seen.drewN {W w : World} (h : Seen W w) (n : Nat) : Seen W (w.drewN n) := by
  induction n with
  | zero => exact h
  | succ n ih => exact ih.drew
set_option maxHeartbeats 1000000 in
theorem takers_any (b : Bx) (t : Int) (w : World) :
    Calls Try.prog 102 #[bxv b, .int .i64 t] w fun e w' => e = .returned (.tuple #[.bool (tkL b t), .bool (tkR b t)]) ∧ Below w.heap.size w w' := by
  obtain ⟨base, ⟨la, ln⟩, ⟨wa, wn⟩, ⟨ra, rn⟩, ar, rtl, lo, hi⟩ := b
  obtain ⟨xl, hxl⟩ : ∃ x, tkL ⟨base, ⟨la, ln⟩, ⟨wa, wn⟩, ⟨ra, rn⟩, ar, rtl, lo, hi⟩ t = x := ⟨_, rfl⟩
  obtain ⟨xr, hxr⟩ : ∃ x, tkR ⟨base, ⟨la, ln⟩, ⟨wa, wn⟩, ⟨ra, rn⟩, ar, rtl, lo, hi⟩ t = x := ⟨_, rfl⟩
  rw [hxl, hxr]
  have HL : Hid ((if t < 0 then rtl else if la = false ∧ ra = false then rtl else la) = xl) := hxl
  have HR : Hid ((if t < 0 then !rtl else if la = false ∧ ra = false then !rtl else ra) = xr) := hxr
  clear hxl hxr
  by_cases ht : t < 0
  · rw [if_pos ht] at HL HR
    go_enter Try.func102, Try.ntmps102
    go_wp2_with fail
    go_quiet (fail)
    go_wp2_with fail
    go_returns
    exact ⟨by rw [← HL.out, ← HR.out]; rfl, Seen.drewN (by unfold Seen; go_grown) _⟩
  · rw [if_neg ht] at HL HR
    cases la <;> cases ra
    all_goals
      simp only [reduceCtorEq, and_self, and_false, false_and, if_true, if_false] at HL HR
      go_enter Try.func102, Try.ntmps102
      go_wp2_with fail
      go_quiet (fail)
      go_wp2_with fail
      go_returns
      exact ⟨by rw [← HL.out, ← HR.out]; rfl, Seen.drewN (by unfold Seen; go_grown) _⟩
end Go.Proofs.Yteplmjgohnbpbaa

/- Piles as plain mathematics: what Stack makes of a list of children, and what the reference makes of it; no conditions beyond those written in each theorem. -/
namespace Go.Proofs.Yteplmjgohnbpbaa
set_option maxRecDepth 100000
/-- A child. -/
structure Ch where
  top : St
  bot : St
  inn : St
  thr : Bool
  high : Int
/-- A pile. -/
structure Pi where
  y : List Int
  edge : Int
  top : St
  cur : St
  att : Bool
def zSt : St := ⟨0, 0⟩
def zeroC : Ch := ⟨zSt, zSt, zSt, false, 0⟩
def zPi : Pi := ⟨[], 0, zSt, zSt, false⟩
/-- The child at k. -/
def cat (l : List Ch) (k : Nat) : Ch := l.getD k zeroC
theorem cat_eq {l : List Ch} {k : Nat} (h : k < l.length) : cat l k = l[k] := by unfold cat; simp [h]
theorem take_cat {l : List Ch} {k : Nat} (h : k < l.length) : l.take (k + 1) = l.take k ++ [cat l k] := by rw [List.take_succ_eq_append_getElem h, cat_eq h]
theorem drop_cat {l : List Ch} {k : Nat} (h : k < l.length) : l.drop k = cat l k :: l.drop (k + 1) := by rw [cat_eq h]; exact List.drop_eq_getElem_cons h
/-- The strut that the position of a child asks for. -/
def byS (c : Ch) : St := if c.thr then c.inn else c.top
def gapN (u : St) (c : Ch) : Int := valN (joinS u (byS c))
def gapB (u : St) (c : Ch) : Bool := valB (joinS u (byS c))
/-- Where a child below others stands. -/
def posN (e : Int) (u : St) (c : Ch) : Int := if gapB u c then sumN [e, gapN u c] else 0
def posB (e : Int) (u : St) (c : Ch) : Bool := gapB u c && sumB [e, gapN u c]
/-- A child at the top. -/
def topP (p : Pi) (c : Ch) : Pi := if c.thr then ⟨p.y ++ [0], p.edge, joinS p.top c.top, p.cur, p.att⟩ else ⟨p.y ++ [0], c.high, joinS p.top c.top, c.bot, false⟩
def topB (c : Ch) : Bool := c.thr || fitsB c.high
/-- A child below others. -/
def lowP (p : Pi) (c : Ch) : Pi := if c.thr then ⟨p.y ++ [posN p.edge p.cur c], p.edge, p.top, joinS p.cur c.top, p.att⟩ else ⟨p.y ++ [posN p.edge p.cur c], sumN [posN p.edge p.cur c, c.high], p.top, c.bot, p.att⟩
def lowB (p : Pi) (c : Ch) : Bool := posB p.edge p.cur c && (c.thr || sumB [posN p.edge p.cur c, c.high])
def addP (p : Pi) (c : Ch) : Pi := if p.att then topP p c else lowP p c
def addB (p : Pi) (c : Ch) : Bool := if p.att then topB c else lowB p c
/-- All children of a list, one after the other. -/
def runP (p : Pi) : List Ch → Option Pi
  | [] => some p
  | c :: l => if addB p c then runP (addP p c) l else none
def runL (p : Pi) : List Ch → Option Pi
  | [] => some p
  | c :: l => if lowB p c then runL (lowP p c) l else none
theorem runP_append (p : Pi) (a b : List Ch) : runP p (a ++ b) = (runP p a).bind fun q => runP q b := by
  induction a generalizing p with
  | nil => rfl
  | cons c l ih =>
    simp only [List.cons_append, runP]
    split
    · exact ih _
    · rfl
theorem runL_append (p : Pi) (a b : List Ch) : runL p (a ++ b) = (runL p a).bind fun q => runL q b := by
  induction a generalizing p with
  | nil => rfl
  | cons c l ih =>
    simp only [List.cons_append, runL]
    split
    · exact ih _
    · rfl
theorem runP_next {p q : Pi} {l : List Ch} {k : Nat} (hk : k < l.length) (h : runP p (l.take k) = some q) (hb : addB q (cat l k) = true) : runP p (l.take (k + 1)) = some (addP q (cat l k)) := by
  rw [take_cat hk, runP_append, h]; simp [runP, hb]
theorem runP_stop {p q : Pi} {l : List Ch} {k : Nat} (hk : k < l.length) (h : runP p (l.take k) = some q) (hb : addB q (cat l k) = false) : runP p l = none := by
  have e : l = l.take k ++ (cat l k :: l.drop (k + 1)) := by rw [← drop_cat hk, List.take_append_drop]
  rw [e, runP_append, h]; simp [runP, hb]
theorem runL_next {p q : Pi} {l : List Ch} {k : Nat} (hk : k < l.length) (h : runL p (l.take k) = some q) (hb : lowB q (cat l k) = true) : runL p (l.take (k + 1)) = some (lowP q (cat l k)) := by
  rw [take_cat hk, runL_append, h]; simp [runL, hb]
theorem runL_stop {p q : Pi} {l : List Ch} {k : Nat} (hk : k < l.length) (h : runL p (l.take k) = some q) (hb : lowB q (cat l k) = false) : runL p l = none := by
  have e : l = l.take k ++ (cat l k :: l.drop (k + 1)) := by rw [← drop_cat hk, List.take_append_drop]
  rw [e, runL_append, h]; simp [runL, hb]
def openP (o : Bool) : Pi := ⟨[], 0, zSt, zSt, o⟩
/-- What Stack answers. -/
def stkO (l : List Ch) (o : Bool) : Option Pi := runP (openP o) l
def stkP (l : List Ch) (o : Bool) : Pi := (stkO l o).getD zPi
def stkB (l : List Ch) (o : Bool) : Bool := (stkO l o).isSome
theorem stk_some {l : List Ch} {o : Bool} {q : Pi} (h : stkO l o = some q) : stkP l o = q ∧ stkB l o = true := by unfold stkP stkB; rw [h]; exact ⟨rfl, rfl⟩
theorem stk_none {l : List Ch} {o : Bool} (h : stkO l o = none) : stkP l o = zPi ∧ stkB l o = false := by unfold stkP stkB; rw [h]; exact ⟨rfl, rfl⟩
/-! The length of a pile. -/
theorem addP_len (p : Pi) (c : Ch) : (addP p c).y.length = p.y.length + 1 := by
  unfold addP topP lowP
  split <;> split <;> simp
theorem lowP_len (p : Pi) (c : Ch) : (lowP p c).y.length = p.y.length + 1 := by
  unfold lowP
  split <;> simp
theorem runP_len {p q : Pi} {l : List Ch} (h : runP p l = some q) : q.y.length = p.y.length + l.length := by
  induction l generalizing p with
  | nil => simp [runP] at h; subst h; simp
  | cons c l ih =>
    simp only [runP] at h
    split at h
    · have := ih h
      rw [addP_len] at this
      simp; omega
    · cases h
theorem runL_len {p q : Pi} {l : List Ch} (h : runL p l = some q) : q.y.length = p.y.length + l.length := by
  induction l generalizing p with
  | nil => simp [runL] at h; subst h; simp
  | cons c l ih =>
    simp only [runL] at h
    split at h
    · have := ih h
      rw [lowP_len] at this
      simp; omega
    · cases h
/-! The reference's two parts. -/
/-- How many are at the top. -/
def topK : List Ch → Nat
  | [] => 0
  | c :: l => if c.thr then topK l + 1 else 1
def topN (l : List Ch) (o : Bool) : Nat := if o then topK l else 0
theorem topK_le (l : List Ch) : topK l ≤ l.length := by
  induction l with
  | nil => exact Nat.le_refl _
  | cons c l ih => simp only [topK, List.length_cons]; split <;> omega
theorem topN_le (l : List Ch) (o : Bool) : topN l o ≤ l.length := by
  unfold topN; split
  · exact topK_le l
  · omega
theorem topK_step {l : List Ch} {k : Nat} (hk : k < l.length) : topK (l.drop k) = if (cat l k).thr then topK (l.drop (k + 1)) + 1 else 1 := by rw [drop_cat hk]; rfl
/-- A child at the top, as the reference lays it. -/
def refTop (p : Pi) (c : Ch) : Pi := if c.thr then ⟨p.y ++ [0], p.edge, joinS p.top c.top, p.cur, p.att⟩ else ⟨p.y ++ [0], c.high, joinS p.top c.top, c.bot, p.att⟩
def refTops (p : Pi) (l : List Ch) : Pi := l.foldl refTop p
theorem refTops_next {l : List Ch} {k : Nat} (p : Pi) (hk : k < l.length) : refTops p (l.take (k + 1)) = refTop (refTops p (l.take k)) (cat l k) := by
  unfold refTops; rw [take_cat hk, List.foldl_append]; rfl
theorem refTop_len (p : Pi) (c : Ch) : (refTop p c).y.length = p.y.length + 1 := by unfold refTop; split <;> simp
theorem refTops_len (p : Pi) (l : List Ch) : (refTops p l).y.length = p.y.length + l.length := by
  induction l generalizing p with
  | nil => rfl
  | cons c l ih => show (refTops (refTop p c) l).y.length = _; rw [ih, refTop_len]; simp; omega
/-- Whether all are at the top. -/
def attB (l : List Ch) (o : Bool) : Bool := o && (decide (topN l o = 0) || (cat l (topN l o - 1)).thr)
theorem topK_last (l : List Ch) : (decide (topK l = 0) || (cat l (topK l - 1)).thr) = l.all (fun c => c.thr) := by
  induction l with
  | nil => rfl
  | cons c l ih =>
    simp only [topK, List.all_cons]
    by_cases hc : c.thr = true
    · simp only [hc, if_true, Bool.true_and, Nat.add_sub_cancel]
      rw [← ih]
      match l with
      | [] => simp [topK, cat, hc]
      | d :: r =>
        have hp : 0 < topK (d :: r) := by simp only [topK]; split <;> omega
        obtain ⟨m, hm⟩ : ∃ m, topK (d :: r) = m + 1 := ⟨topK (d :: r) - 1, by omega⟩
        rw [hm]
        simp [cat]
    · have hc' : c.thr = false := by simpa using hc
      simp [hc', cat]
theorem att_open (l : List Ch) : attB l true = l.all (fun c => c.thr) := by
  unfold attB topN; simp only [if_true, Bool.true_and]; exact topK_last l
theorem att_shut (l : List Ch) : attB l false = false := by unfold attB; simp
/-- The reference's answer. -/
def refQ (l : List Ch) (o : Bool) : Pi := refTops ⟨[], 0, zSt, zSt, attB l o⟩ (l.take (topN l o))
def refO (l : List Ch) (o : Bool) : Option Pi := if fitsB (refQ l o).edge then runL (refQ l o) (l.drop (topN l o)) else none
theorem lowP_att (p : Pi) (c : Ch) : (lowP p c).att = p.att := by unfold lowP; split <;> rfl
theorem run_shut (p : Pi) (h : p.att = false) (l : List Ch) : runP p l = runL p l := by
  induction l generalizing p with
  | nil => rfl
  | cons c l ih =>
    have e1 : addB p c = lowB p c := by unfold addB; rw [h]; rfl
    have e2 : addP p c = lowP p c := by unfold addP; rw [h]; rfl
    simp only [runP, runL, e1, e2]
    split
    · exact ih _ (by rw [lowP_att, h])
    · rfl
theorem run_open (y : List Int) (e : Int) (t u : St) (he : fitsB e = true) (l : List Ch) :
    runP ⟨y, e, t, u, true⟩ l = (if fitsB (refTops ⟨y, e, t, u, l.all (fun c => c.thr)⟩ (l.take (topK l))).edge then runL (refTops ⟨y, e, t, u, l.all (fun c => c.thr)⟩ (l.take (topK l))) (l.drop (topK l)) else none) := by
  induction l generalizing y e t u with
  | nil => simp [runP, topK, refTops, runL, he]
  | cons c l ih =>
    cases hc : c.thr
    · have ea : (c :: l).all (fun c => c.thr) = false := by simp [hc]
      have e0 : addB ⟨y, e, t, u, true⟩ c = fitsB c.high := by simp [addB, topB, hc]
      have e1 : addP ⟨y, e, t, u, true⟩ c = ⟨y ++ [0], c.high, joinS t c.top, c.bot, false⟩ := by simp [addP, topP, hc]
      have e2 : refTop ⟨y, e, t, u, false⟩ c = ⟨y ++ [0], c.high, joinS t c.top, c.bot, false⟩ := by simp [refTop, hc]
      have e3 : refTops ⟨y, e, t, u, false⟩ ((c :: l).take (topK (c :: l))) = ⟨y ++ [0], c.high, joinS t c.top, c.bot, false⟩ := by
        simp only [topK, hc, Bool.false_eq_true, if_false, List.take_succ_cons, List.take_zero]
        exact e2
      have e4 : (c :: l).drop (topK (c :: l)) = l := by simp [topK, hc]
      rw [ea, e3, e4]
      simp only [runP, e0, e1]
      rw [run_shut _ rfl]
    · have ea : (c :: l).all (fun c => c.thr) = l.all (fun c => c.thr) := by simp [hc]
      have e0 : addB ⟨y, e, t, u, true⟩ c = true := by simp [addB, topB, hc]
      have e1 : addP ⟨y, e, t, u, true⟩ c = ⟨y ++ [0], e, joinS t c.top, u, true⟩ := by simp [addP, topP, hc]
      have e2 : ∀ b, refTop ⟨y, e, t, u, b⟩ c = ⟨y ++ [0], e, joinS t c.top, u, b⟩ := fun b => by simp [refTop, hc]
      have e3 : ∀ b, refTops ⟨y, e, t, u, b⟩ ((c :: l).take (topK (c :: l))) = refTops ⟨y ++ [0], e, joinS t c.top, u, b⟩ (l.take (topK l)) := fun b => by
        simp only [topK, hc, if_true, List.take_succ_cons]
        show refTops (refTop _ c) _ = _
        rw [e2]
      have e4 : (c :: l).drop (topK (c :: l)) = l.drop (topK l) := by simp [topK, hc]
      rw [ea, e3, e4]
      simp only [runP, e0, e1, if_true]
      exact ih _ _ _ _ he
theorem fits_zero : fitsB 0 = true := by decide
theorem stk_ref (l : List Ch) (o : Bool) : stkO l o = refO l o := by
  unfold stkO refO refQ openP
  cases o
  · rw [att_shut, run_shut _ rfl]
    simp [topN, refTops, fits_zero]
  · rw [att_open]
    exact run_open _ _ _ _ fits_zero l
end Go.Proofs.Yteplmjgohnbpbaa

/- Margins that meet, as mathematics, and the contract of the reference's All; no conditions beyond those written in each theorem. -/
namespace Go.Proofs.Yteplmjgohnbpbaa
open Go.ChangeShapes Go.WideShapes Go.ChangeAt Go.RowKit
set_option maxRecDepth 100000
set_option linter.unusedVariables false
/-- The greatest above 0, the least below it. -/
def mx : List Int → Int
  | [] => 0
  | x :: r => max x (mx r)
def mn : List Int → Int
  | [] => 0
  | x :: r => min x (mn r)
theorem mx_pos (l : List Int) : 0 ≤ mx l := by
  induction l with
  | nil => exact Int.le_refl _
  | cons x r ih => simp only [mx]; omega
theorem mn_neg (l : List Int) : mn l ≤ 0 := by
  induction l with
  | nil => exact Int.le_refl _
  | cons x r ih => simp only [mn]; omega
theorem mx_append (a b : List Int) : mx (a ++ b) = max (mx a) (mx b) := by
  have hb := mx_pos b
  induction a with
  | nil => simp only [List.nil_append, mx]; omega
  | cons x r ih => simp only [List.cons_append, mx, ih]; omega
theorem mn_append (a b : List Int) : mn (a ++ b) = min (mn a) (mn b) := by
  have hb := mn_neg b
  induction a with
  | nil => simp only [List.nil_append, mn]; omega
  | cons x r ih => simp only [List.cons_append, mn, ih]; omega
def allS (l : List Int) : St := ⟨mx l, mn l⟩
theorem all_append (a b : List Int) : allS (a ++ b) = joinS (allS a) (allS b) := by
  unfold allS joinS
  rw [mx_append, mn_append]
theorem all_one (m : Int) : allS [m] = ofM m := rfl
theorem joinS_comm (a b : St) : joinS b a = joinS a b := by
  unfold joinS
  rw [show max b.p a.p = max a.p b.p by omega, show min b.n a.n = min a.n b.n by omega]
theorem take_one {zs : List Int} {k : Nat} (h : k < zs.length) : zs.take (k + 1) = zs.take k ++ [zat zs k] := by
  rw [List.take_succ_eq_append_getElem h, zat_eq h]
theorem mx_next {zs : List Int} {k : Nat} (h : k < zs.length) : mx (zs.take (k + 1)) = max (mx (zs.take k)) (zat zs k) := by
  have := mx_pos (zs.take k)
  rw [take_one h, mx_append]
  simp only [mx]; omega
theorem mn_next {zs : List Int} {k : Nat} (h : k < zs.length) : mn (zs.take (k + 1)) = min (mn (zs.take k)) (zat zs k) := by
  have := mn_neg (zs.take k)
  rw [take_one h, mn_append]
  simp only [mn]; omega
theorem Blk.int2 {w : World} {B : Nat} {a b c d : Int} {t : TypeId} (h : Blk w B [.int .i64 a, .int .i64 b] t) (h1 : a = c) (h2 : b = d) : Blk w B [.int .i64 c, .int .i64 d] t := by
  subst h1 h2; exact h
theorem heap_drewN (w : World) (n : Nat) : (w.drewN n).heap = w.heap := by
  induction n with
  | zero => rfl
  | succ n ih => exact ih
theorem Blk.drewN {w : World} {B : Nat} {l : List Value} {t : TypeId} (h : Blk w B l t) (n : Nat) : Blk (w.drewN n) B l t := by
  unfold Blk; rw [heap_drewN]; exact h
theorem below_drewN {b : Nat} {w v : World} (h : Below b w v) (n : Nat) : Below b w (v.drewN n) := by
  induction n with
  | zero => exact h
  | succ n ih => exact ih.drew
end Go.Proofs.Yteplmjgohnbpbaa
