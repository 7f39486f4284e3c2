/- Texts of the proof, merged: Same, Laws, FRm, RefKin, RefKin2, FRb. -/
import Derived.Test.YtngeaigkafamiaaGreatM17
import Derived.Test.YtngeaigkafamiaaGreatM12
import Derived.Test.YtngeaigkafamiaaGreatM15
import Derived.Test.YtngeaigkafamiaaGreatM5
import Derived.Test.YtngeaigkafamiaaGreatM10
import Derived.Deep.DeepCutAuto
namespace Go.Proofs.YtngeaigkafamiaaGreat
open Go.ChangeShapes Go.WideShapes Go.ChangeAt Go.RowKit
set_option maxRecDepth 100000
set_option linter.unusedVariables false
def restI (b : Bx) (s : Sz) : Int := b.base - b.ar - orV b.lf 0 - orV s 0 - orV b.rt 0
theorem restW_is {b : Bx} {s : Sz} (h : okF b = true) (h1 : fitsB (orV s 0) = true) : restW b s = restI b s := by
  obtain ⟨⟨b1, b2⟩, ⟨b3, b4⟩, ⟨b5, b6⟩, ⟨b7, b8⟩⟩ := okF_parts h
  obtain ⟨n1, n2⟩ := fitsB_iff.1 h1
  unfold restW restI
  rw [w64 (n := b.base - b.ar) (by omega) (by omega), w64 (n := b.base - b.ar - orV b.lf 0) (by omega) (by omega), w64 (n := b.base - b.ar - orV b.lf 0 - orV s 0) (by omega) (by omega), w64 (by omega) (by omega)]
theorem orV_au (n : Int) : orV ⟨true, n⟩ 0 = 0 := rfl
theorem orV_no (n : Int) : orV ⟨false, n⟩ 0 = n := rfl
theorem fits0 : fitsB 0 = true := by decide
theorem fitsB_no {n : Int} (h : fitsB n = false) : ¬ (-1125899906842624 ≤ n ∧ n ≤ 1125899906842624) := fun g => by rw [fitsB_iff.2 g] at h; cases h
theorem try_no {b : Bx} {s : Sz} (h : okF b = true) (h1 : fitsB (wN b s) = false) : tryB b s = false := by
  unfold tryB fitO
  have hw : fitsB (fillW b s).w = false := by
    unfold wN at h1
    obtain ⟨sa, sn⟩ := s
    cases sa with
    | true =>
      have e := restW_is (s := ⟨true, sn⟩) h (by rw [orV_au]; exact fits0)
      unfold restI at e
      rw [orV_au] at e
      have ef : (fillW b ⟨true, sn⟩).w = restW b ⟨true, sn⟩ := rfl
      rw [ef, e]
      simp only [if_true] at h1
      rw [show b.base - b.ar - orV b.lf 0 - 0 - orV b.rt 0 = b.base - b.ar - orV b.lf 0 - orV b.rt 0 by omega]
      exact h1
    | false =>
      have ef : (fillW b ⟨false, sn⟩).w = sn := by
        unfold fillW fillR
        simp only [Bool.false_eq_true, if_false, orV_no]
        split
        · split <;> rfl
        · rfl
      rw [ef]
      simpa using h1
  rw [hw]
  simp
theorem fill_is {b : Bx} {s : Sz} (h : okF b = true) (h1 : fitsB (wN b s) = true) : fillW b s = refAO b s := by
  obtain ⟨⟨b1, b2⟩, ⟨b3, b4⟩, ⟨b5, b6⟩, ⟨b7, b8⟩⟩ := okF_parts h
  obtain ⟨n1, n2⟩ := fitsB_iff.1 h1
  unfold refAO
  rw [if_pos h1]
  obtain ⟨sa, sn⟩ := s
  cases sa with
  | true =>
    have e := restW_is (s := ⟨true, sn⟩) h (by rw [orV_au]; exact fits0)
    unfold restI at e
    rw [orV_au] at e
    have hs : stay b ⟨true, sn⟩ = false := by simp [stay]
    have hw : wN b ⟨true, sn⟩ = b.base - b.ar - orV b.lf 0 - orV b.rt 0 := rfl
    have ef : fillW b ⟨true, sn⟩ = ⟨orV b.lf 0, restW b ⟨true, sn⟩, orV b.rt 0⟩ := rfl
    rw [hs, hw, ef, e]
    unfold refI
    simp only [Bool.false_and, Bool.false_eq_true, if_false, Bool.not_false, Bool.true_and, Bool.false_or]
    cases b.rtl
    · simp only [Bool.false_eq_true, if_false]
      congr 1
      · omega
      · omega
    · simp only [if_true]
      congr 1
      · omega
      · omega
  | false =>
    have hw : wN b ⟨false, sn⟩ = sn := rfl
    rw [hw] at h1 n1 n2
    have e := restW_is (s := ⟨false, sn⟩) h (by rw [orV_no]; exact h1)
    unfold restI at e
    rw [orV_no] at e
    obtain ⟨t, ht⟩ : ∃ t, restW b ⟨false, sn⟩ = t := ⟨_, rfl⟩
    rw [ht] at e
    have hs : stay b ⟨false, sn⟩ = decide (0 ≤ t) := by
      unfold stay
      rw [hw]
      by_cases h0 : 0 ≤ t
      · rw [decide_eq_true h0, decide_eq_false (by omega)]; rfl
      · rw [decide_eq_false h0, decide_eq_true (by omega)]; rfl
    have ef : fillW b ⟨false, sn⟩ = fillR b ⟨false, sn⟩ t := by unfold fillW; rw [ht]
    rw [ef, hs, hw]
    unfold fillR refI
    simp only [Bool.false_eq_true, if_false, orV_no]
    by_cases h0 : 0 ≤ t
    · have hl : tkL b t = if b.lf.au = false ∧ b.rt.au = false then b.rtl else b.lf.au := by unfold tkL; rw [if_neg (by omega)]
      have hr : tkR b t = if b.lf.au = false ∧ b.rt.au = false then !b.rtl else b.rt.au := by unfold tkR; rw [if_neg (by omega)]
      rw [hl, hr, decide_eq_true h0]
      simp only [Bool.true_and]
      cases hla : b.lf.au <;> cases hra : b.rt.au
      · cases hrt : b.rtl
        · simp
          rw [w64 (by omega) (by omega)]
          omega
        · simp
          rw [w64 (by omega) (by omega)]
          omega
      · simp
        rw [w64 (by omega) (by omega)]
        omega
      · simp
        rw [w64 (by omega) (by omega)]
        omega
      · have hl0 : orV b.lf 0 = 0 := by unfold orV; rw [hla]; rfl
        have hr0 : orV b.rt 0 = 0 := by unfold orV; rw [hra]; rfl
        have hh : halfI t = t / 2 := rfl
        have et : b.base - b.ar - sn = t := by omega
        simp [et]
        rw [w64 (by omega) (by omega)]
    · have hl : tkL b t = b.rtl := by unfold tkL; rw [if_pos (by omega)]
      have hr : tkR b t = !b.rtl := by unfold tkR; rw [if_pos (by omega)]
      rw [hl, hr, decide_eq_false h0]
      cases hrt : b.rtl
      · simp
        rw [w64 (by omega) (by omega)]
        omega
      · simp
        rw [w64 (by omega) (by omega)]
        omega
theorem try_is {b : Bx} (s : Sz) (h : okF b = true) : tryB b s = refB b s ∧ (tryB b s = true → fillW b s = refAO b s) := by
  cases h1 : fitsB (wN b s) with
  | false =>
    have e := try_no h h1
    refine ⟨?_, fun g => by rw [e] at g; cases g⟩
    rw [e]
    unfold refB
    rw [h1]; rfl
  | true =>
    have e := fill_is h h1
    refine ⟨?_, fun _ => e⟩
    have hw : (refAO b s).w = wN b s := by
      unfold refAO
      rw [if_pos h1]
      unfold refI
      split
      · rfl
      · split <;> rfl
    unfold tryB refB fitO
    rw [e, h1, hw, h1]
    simp
end Go.Proofs.YtngeaigkafamiaaGreat
namespace Go.Proofs.YtngeaigkafamiaaGreat
open Go.ChangeShapes Go.WideShapes Go.ChangeAt Go.RowKit
set_option maxRecDepth 100000
set_option linter.unusedVariables false
theorem fill_w {b : Bx} {n : Int} : (fillW b ⟨false, n⟩).w = n := by
  unfold fillW fillR
  simp only [Bool.false_eq_true, if_false, orV_no]
  split
  · split <;> rfl
  · rfl
theorem sol_parts {b : Bx} (h : solB b = true) : okF b = true ∧ tryB b (lastS b) = true ∧ solO b = fillW b (lastS b) := by
  have h' := h
  unfold solB at h'
  simp only [Bool.and_eq_true] at h'
  exact ⟨h'.1, h'.2, by unfold solO; rw [h]; rfl⟩
theorem fit_parts {b : Bx} {s : Sz} (h : tryB b s = true) : fitsB (fillW b s).l = true ∧ fitsB (fillW b s).w = true ∧ fitsB (fillW b s).r = true := by
  unfold tryB fitO at h
  simp only [Bool.and_eq_true] at h
  exact ⟨h.1.1, h.1.2, h.2⟩
end Go.Proofs.YtngeaigkafamiaaGreat
namespace Go.Proofs.YtngeaigkafamiaaGreat
open Go.ChangeShapes Go.WideShapes Go.ChangeAt Go.RowKit
set_option maxRecDepth 100000
def fit50 (x : Int) : Prop := -1125899906842624 ≤ x ∧ x ≤ 1125899906842624
theorem fit50_zero : fit50 0 := ⟨by decide, by decide⟩
theorem of_fit (k n b : Int) (has : Bool) : fit50 (ofS k n b has).n := by
  unfold ofS
  by_cases h0 : k = 0
  · rw [if_pos h0]; exact fit50_zero
  · rw [if_neg h0]
    by_cases h1 : k = 1
    · rw [if_pos h1]
      show fit50 (if fitsB n then n else 0)
      cases hf : fitsB n
      · exact fit50_zero
      · exact fitsB_iff.1 hf
    · rw [if_neg h1]
      by_cases h2 : k = 2
      · rw [if_pos h2]
        cases has
        · exact fit50_zero
        · show fit50 (partN b n)
          unfold partN
          cases hp : partB b n
          · exact fit50_zero
          · unfold partB at hp
            rw [Bool.and_eq_true] at hp
            exact fitsB_iff.1 hp.2
      · rw [if_neg h2]; exact fit50_zero
theorem of_pos {k n b : Int} {has : Bool} (hn : 0 ≤ n) (hb : has = true → 0 ≤ b) : 0 ≤ (ofS k n b has).n := by
  unfold ofS
  by_cases h0 : k = 0
  · rw [if_pos h0]; exact Int.le_refl 0
  · rw [if_neg h0]
    by_cases h1 : k = 1
    · rw [if_pos h1]
      show 0 ≤ (if fitsB n then n else 0)
      cases fitsB n
      · exact Int.le_refl 0
      · exact hn
    · rw [if_neg h1]
      by_cases h2 : k = 2
      · rw [if_pos h2]
        cases has
        · exact Int.le_refl 0
        · show 0 ≤ partN b n
          unfold partN
          cases partB b n
          · exact Int.le_refl 0
          · show 0 ≤ partV b n
            unfold partV
            exact Int.ediv_nonneg (Int.mul_nonneg (hb rfl) hn) (by decide)
      · rw [if_neg h2]; exact Int.le_refl 0
theorem of_or (k n b : Int) (has : Bool) (d : Int) : orV (ofS k n b has) d = ofOrV k n b has d := by
  unfold ofOrV
  cases hb : ofB k n b has
  · show _ = (0 : Int)
    unfold ofB at hb
    unfold ofS orV
    by_cases h0 : k = 0
    · rw [if_pos h0] at hb; cases hb
    · rw [if_neg h0] at hb
      rw [if_neg h0]
      by_cases h1 : k = 1
      · rw [if_pos h1] at hb
        rw [if_pos h1, hb]; rfl
      · rw [if_neg h1] at hb
        rw [if_neg h1]
        by_cases h2 : k = 2
        · rw [if_pos h2] at hb
          rw [if_pos h2]
          cases has
          · cases hb
          · show partN b n = 0
            have hb' : partB b n = false := hb
            unfold partN; rw [hb']; rfl
        · rw [if_neg h2]; rfl
  · rfl
theorem of_known {k n b : Int} (hk : k ≠ 0) : (ofS k n b true).au = false := by
  unfold ofS
  rw [if_neg hk]
  by_cases h1 : k = 1
  · rw [if_pos h1]
  · rw [if_neg h1]
    by_cases h2 : k = 2
    · rw [if_pos h2]; rfl
    · rw [if_neg h2]
theorem ofOr_in {k n b : Int} {has : Bool} {d : Int} (hd : fit50 d) : fit50 (ofOrV k n b has d) := by
  rw [← of_or]; unfold orV
  split
  · exact hd
  · exact of_fit k n b has
theorem ofOr_pos {k n b : Int} {has : Bool} {d : Int} (hn : 0 ≤ n) (hb : has = true → 0 ≤ b) (hd : 0 ≤ d) : 0 ≤ ofOrV k n b has d := by
  rw [← of_or]; unfold orV
  split
  · exact hd
  · exact of_pos hn hb
theorem pad_kind {s : Sty} (hs : formedB s = true) : ((pd4 s).a.k ≠ 0 ∧ 0 ≤ (pd4 s).a.n) ∧ ((pd4 s).b.k ≠ 0 ∧ 0 ≤ (pd4 s).b.n) ∧ ((pd4 s).c.k ≠ 0 ∧ 0 ≤ (pd4 s).c.n) ∧ ((pd4 s).d.k ≠ 0 ∧ 0 ≤ (pd4 s).d.n) := by
  have h := (of_decide_eq_true hs : FormedP s).2.2.1
  exact ⟨h 0 (by decide), h 1 (by decide), h 2 (by decide), h 3 (by decide)⟩
theorem side_pad {q : Ln4} {x : Ln} {b : Int} (hk : x.k ≠ 0) (hn : 0 ≤ x.n) (hb : 0 ≤ b) : (sideS q b x).au = false ∧ 0 ≤ (sideS q b x).n ∧ fit50 (sideS q b x).n ∧ orV (sideS q b x) 0 = (sideS q b x).n := by
  unfold sideS
  cases sidesB q b
  · exact ⟨rfl, Int.le_refl 0, fit50_zero, rfl⟩
  · have e : (sOf x b).au = false := of_known hk
    refine ⟨e, of_pos hn (fun _ => hb), of_fit _ _ _ _, ?_⟩
    show orV (sOf x b) 0 = _
    unfold orV; rw [e]; rfl
theorem side_in (q : Ln4) (x : Ln) (b : Int) : fit50 (sideS q b x).n := by
  unfold sideS
  cases sidesB q b
  · exact fit50_zero
  · exact of_fit _ _ _ _
theorem or_in {s : Sz} (h : fit50 s.n) : fit50 (orV s 0) := by
  unfold orV; split
  · exact fit50_zero
  · exact h
theorem bord_pos {s : Sty} (hs : formedB s = true) : 0 ≤ (bd4 s).a ∧ 0 ≤ (bd4 s).b ∧ 0 ≤ (bd4 s).c ∧ 0 ≤ (bd4 s).d := by
  have h := (of_decide_eq_true hs : FormedP s).2.2.2.1
  exact ⟨h 0 (by decide), h 1 (by decide), h 2 (by decide), h 3 (by decide)⟩
theorem size_pos {s : Sty} (hs : formedB s = true) {i : Nat} (h1 : 4 ≤ i) (h2 : i < 10) : 0 ≤ (lat s.lens i).n := by
  have h := (of_decide_eq_true hs : FormedP s).2.1 (i - 4) (by omega)
  rwa [show 4 + (i - 4) = i by omega] at h
theorem frame_is {s : Sty} {c : Ct} (h : frB s c = true) : frF s c = withO (fr0 s c) (solO (acIn s (fr0 s c) (sds (mg4 s) c.w) c)) ∧ solB (acIn s (fr0 s c) (sds (mg4 s) c.w) c) = true := by
  unfold frB acB acG at h
  simp only [Bool.and_eq_true] at h
  obtain ⟨h1, ⟨h2, h3, h4, h5⟩, h6⟩ := h
  have hg : acG s (fr0 s c) c = true := by unfold acG; simp only [Bool.and_eq_true]; exact ⟨h2, h3, h4, h5⟩
  refine ⟨?_, h6⟩
  unfold frF acO
  rw [if_pos h1, if_pos hg]
theorem solve_low {b : Bx} (h : solB b = true) : b.lo ≤ (solO b).w ∧ (solO b).w ≤ 1125899906842624 := by
  obtain ⟨k1, k2, k3⟩ := sol_parts h
  obtain ⟨f1, f2, f3⟩ := fit_parts k2
  rw [k3]
  refine ⟨?_, (fitsB_iff.1 f2).2⟩
  by_cases hc : tryB b (nextHi b b.wd) = true ∧ (fillW b (nextHi b b.wd)).w < b.lo
  · have e : lastS b = ⟨false, b.lo⟩ := by unfold lastS nextLo; rw [if_pos hc]
    rw [e, fill_w]; exact Int.le_refl _
  · have e : lastS b = nextHi b b.wd := by unfold lastS nextLo; rw [if_neg hc]
    rw [e] at k2 ⊢
    rcases Int.lt_or_le (fillW b (nextHi b b.wd)).w b.lo with h1 | h1
    · exact absurd ⟨k2, h1⟩ hc
    · exact h1
theorem rng_parts {c : Ct} (h : rngB c = true) : 0 ≤ c.w ∧ c.w ≤ 1125899906842624 ∧ ((!c.h.au) = true → 0 ≤ c.h.n) := by
  unfold rngB at h
  simp only [Bool.and_eq_true, decide_eq_true_eq] at h
  obtain ⟨h1, h2, h3, h4⟩ := h
  refine ⟨h1, h2, fun ha => ?_⟩
  unfold orV at h3
  rw [if_neg (by simpa using ha)] at h3
  exact h3
theorem rng_in {s : Sty} {c : Ct} (hs : formedB s = true) (hr : rngB c = true) (hf : frB s c = true) : rngB (ctIn s (frF s c) (htsF s c.h)) = true := by
  obtain ⟨r1, r2, r3⟩ := rng_parts hr
  obtain ⟨e, hsol⟩ := frame_is hf
  obtain ⟨w1, w2⟩ := solve_low hsol
  have hlo : 0 ≤ (acIn s (fr0 s c) (sds (mg4 s) c.w) c).lo := ofOr_pos (size_pos hs (by decide) (by decide)) (fun _ => r1) (Int.le_refl 0)
  have hw : (ctIn s (frF s c) (htsF s c.h)).w = (solO (acIn s (fr0 s c) (sds (mg4 s) c.w) c)).w := by rw [e]; rfl
  have hl : 0 ≤ (htsF s c.h).lo := ofOr_pos (size_pos hs (by decide) (by decide)) r3 (Int.le_refl 0)
  have hl2 : fit50 (htsF s c.h).lo := ofOr_in fit50_zero
  have hh2 : fit50 (htsF s c.h).hi := ofOr_in ⟨by decide, by decide⟩
  have hin : 0 ≤ orV (ctIn s (frF s c) (htsF s c.h)).h 0 ∧ orV (ctIn s (frF s c) (htsF s c.h)).h 0 ≤ 1125899906842624 := by
    show 0 ≤ orV (innS (htsF s c.h)) 0 ∧ orV (innS (htsF s c.h)) 0 ≤ 1125899906842624
    unfold innS
    cases ha : (htsF s c.h).own.au
    · show 0 ≤ outN (htsF s c.h) 0 ∧ outN (htsF s c.h) 0 ≤ 1125899906842624
      unfold outN clampI
      have := hl2.2
      have := hh2.2
      omega
    · have e0 : orV (htsF s c.h).own 0 = 0 := by unfold orV; rw [ha]; rfl
      show 0 ≤ orV (htsF s c.h).own 0 ∧ orV (htsF s c.h).own 0 ≤ _
      rw [e0]
      decide
  unfold rngB
  rw [hw]
  simp only [Bool.and_eq_true, decide_eq_true_eq]
  exact ⟨by omega, w2, hin.1, hin.2⟩
structure StOK (s : St) : Prop where
  p : 0 ≤ s.p ∧ s.p ≤ 1125899906842624
  n : -1125899906842624 ≤ s.n ∧ s.n ≤ 0
structure ChOK (c : Ch) : Prop where
  top : StOK c.top
  bot : StOK c.bot
  inn : StOK c.inn
theorem st_zero : StOK zSt := ⟨by decide, by decide⟩
theorem st_join {a b : St} (h : StOK a) (k : StOK b) : StOK (joinS a b) := by
  obtain ⟨⟨h1, h2⟩, ⟨h3, h4⟩⟩ := h
  obtain ⟨⟨k1, k2⟩, ⟨k3, k4⟩⟩ := k
  refine ⟨?_, ?_⟩ <;> unfold joinS <;> simp only <;> omega
theorem st_of {m : Int} (h : fit50 m) : StOK (ofM m) := by
  obtain ⟨h1, h2⟩ := h
  refine ⟨?_, ?_⟩ <;> unfold ofM <;> simp only <;> omega
theorem st_value {s : St} (h : StOK s) : valB s = true := by
  obtain ⟨⟨h1, h2⟩, ⟨h3, h4⟩⟩ := h
  unfold valB sumB
  have f1 : fitsB s.p = true := fitsB_iff.2 ⟨by omega, h2⟩
  have f2 : fitsB s.n = true := fitsB_iff.2 ⟨h3, by omega⟩
  have f3 : fitsB (isum [s.p, s.n]) = true := fitsB_iff.2 (by simp [isum]; omega)
  simp [f1, f2, f3]
theorem join_zero {s : St} (h : StOK s) : joinS s zSt = s := by
  obtain ⟨⟨h1, h2⟩, ⟨h3, h4⟩⟩ := h
  unfold joinS zSt
  cases s
  simp only at *
  congr 1 <;> omega
structure PiOK (p : Pi) : Prop where
  top : StOK p.top
  cur : StOK p.cur
  att : p.att = true → p.edge = 0 ∧ p.cur = zSt
theorem pi_open (o : Bool) : PiOK (openP o) := ⟨st_zero, st_zero, fun _ => ⟨rfl, rfl⟩⟩
theorem pi_add {p : Pi} {c : Ch} (h : PiOK p) (k : ChOK c) : PiOK (addP p c) := by
  unfold addP topP lowP
  cases ha : p.att <;> cases hc : c.thr <;> simp only [if_true, if_false, Bool.false_eq_true]
  · exact ⟨h.top, k.bot, fun e => by cases e⟩
  · exact ⟨h.top, st_join h.cur k.top, fun e => by cases e⟩
  · exact ⟨st_join h.top k.top, k.bot, fun e => by cases e⟩
  · exact ⟨st_join h.top k.top, h.cur, fun _ => h.att ha⟩
theorem pi_run {l : List Ch} : ∀ {p q : Pi}, PiOK p → (∀ c ∈ l, ChOK c) → runP p l = some q → PiOK q := by
  induction l with
  | nil => intro p q h _ e; simp [runP] at e; subst e; exact h
  | cons c l ih =>
    intro p q h k e
    simp only [runP] at e
    split at e
    · exact ih (pi_add h (k c List.mem_cons_self)) (fun d hd => k d (List.mem_cons_of_mem _ hd)) e
    · cases e
theorem att_run {l : List Ch} : ∀ {p q : Pi}, p.att = false → runP p l = some q → q.att = false := by
  induction l with
  | nil => intro p q h e; simp [runP] at e; subst e; exact h
  | cons c l ih =>
    intro p q h e
    simp only [runP] at e
    split at e
    · refine ih ?_ e
      unfold addP
      rw [h]
      exact (lowP_att p c).trans h
    · cases e
theorem boxes_all {B : Int → Ct → Option Bo} {c : Ct} {P : Bo → Prop} (h : ∀ k b, B k c = some b → P b) : ∀ {K : List Int} {bs : List Bo}, boxesO B c K = some bs → ∀ b ∈ bs, P b := by
  intro K
  induction K with
  | nil => intro bs e b hb; simp [boxesO] at e; subst e; cases hb
  | cons k r ih =>
    intro bs e b hb
    unfold boxesO at e
    split at e
    · cases e
    · rename_i b1 h1
      split at e
      · cases e
      · rename_i l hl
        simp at e
        subst e
        rcases List.mem_cons.1 hb with rfl | hm
        · exact h k _ h1
        · exact ih hl b hm
theorem cont_ok {B : Int → Ct → Option Bo} {K : List Int} {c : Ct} {e : En} {a : La} (hB : ∀ k b, B k c = some b → ChOK b.f.ch) (h : contO B K c e = some a) : PiOK a.p ∧ (a.p.att = true → e.top = true) ∧ (K = [] → a.p = openP e.top) ∧ a.p.y.length = K.length := by
  unfold contO at h
  split at h
  · cases h
  · rename_i bs hbs
    split at h
    · cases h
    · rename_i p hp
      split at h
      · simp at h
        subst h
        have hlen : bs.length = K.length := by
          clear hp
          induction K generalizing bs with
          | nil => simp [boxesO] at hbs; subst hbs; rfl
          | cons k r ih =>
            unfold boxesO at hbs
            split at hbs
            · cases hbs
            · split at hbs
              · cases hbs
              · rename_i l hl
                simp at hbs
                subst hbs
                simp [ih _ hl]
        refine ⟨pi_run (pi_open e.top) (fun ch hch => ?_) hp, fun ha => ?_, fun hk => ?_, ?_⟩
        · obtain ⟨b, hb, rfl⟩ := List.mem_map.1 hch
          exact boxes_all hB hbs b hb
        · cases ho : e.top with
          | true => rfl
          | false =>
            have hp' := hp
            unfold stkO at hp'
            rw [ho] at hp'
            have : p.att = false := att_run rfl hp'
            rw [show (p.att = true) from ha] at this
            cases this
        · subst hk
          simp [boxesO] at hbs
          subst hbs
          simp [stkO, runP] at hp
          exact hp.symm
        · have := runP_len (show runP (openP e.top) _ = some p from hp)
          rw [this, List.length_map, hlen]
          simp [openP]
      · cases h
theorem box_ch {l : List Nd} : ∀ (k : Nat) {n : Int} {c : Ct} {b : Bo}, boxO l k n c = some b → ChOK b.f.ch := by
  intro k
  induction k with
  | zero => intro n c b h; simp [boxO] at h
  | succ k ih =>
    intro n c b h
    unfold boxO at h
    split at h
    · split at h
      · cases h
      · rename_i a ha
        split at h
        · simp at h
          subst h
          obtain ⟨hp, _⟩ := cont_ok (fun q b' hb => ih hb) ha
          rename_i hfr _ _ _
          have hfr' := hfr
          rw [Bool.and_eq_true] at hfr'
          obtain ⟨e, _⟩ := frame_is hfr'.1
          have hm : ∀ hi, (doneF (frF (styAt l n) c) (htsF (styAt l n) c.h) hi).mg = (frF (styAt l n) c).mg := fun _ => rfl
          have ma : fit50 (frF (styAt l n) c).mg.a := by rw [e]; exact or_in (side_in _ _ _)
          have mc : fit50 (frF (styAt l n) c).mg.c := by rw [e]; exact or_in (side_in _ _ _)
          unfold chO
          rw [hm]
          refine ⟨?_, ?_, st_join (st_of ma) hp.top⟩
          · show StOK (if _ then _ else _)
            split
            · exact st_join (st_join (st_of ma) hp.top) (st_of mc)
            · exact st_join (st_of ma) hp.top
          · show StOK (if _ then _ else _)
            split
            · exact st_join (st_join (st_of ma) hp.top) (st_of mc)
            · split
              · exact st_join (st_of mc) hp.cur
              · exact st_of mc
        · cases h
    · cases h
end Go.Proofs.YtngeaigkafamiaaGreat
namespace Go.Proofs.YtngeaigkafamiaaGreat
open Go.ChangeShapes Go.WideShapes Go.ChangeAt Go.RowKit
set_option maxRecDepth 100000
theorem At.shown {w : World} {b o : Nat} {x : Nd} (h : At w b o x) : w.cell? ⟨b, o, none⟩ = some (.bool x.s.shown) := h.sty 0 _ (stl0 _)
theorem At.pos {w : World} {b o : Nat} {x : Nd} (h : At w b o x) : w.cell? ⟨b, o + 1, none⟩ = some (.int .i64 x.s.pos) := h.sty 1 _ (stl1 _)
theorem inB_no {l : List Nd} {n : Int} (h : inB l n = false) : n < 0 ∨ (l.length : Int) ≤ n := by
  unfold inB at h
  rw [Bool.and_eq_false_iff, decide_eq_false_iff_not, decide_eq_false_iff_not] at h
  omega
set_option maxHeartbeats 4000000 in
theorem refMade_any (ad : Option Addr) (n c : Nat) (l : List Nd) (m : Int) (w : World) (h : NS w ad n l) (hf : FormedT l) (hn : n ≤ 1000000) :
    Calls Tryz.prog 21 #[.slice ad n c, .int .i64 m] w fun e w' => e = .returned (.bool (inB l m && madeB l m)) ∧ w' = w := by
  have HN : Hid (l.length = n) := h.1
  cases hb : inB l m
  · have hno := inB_no hb
    rw [HN.out] at hno
    clear h hf hb
    rcases Int.lt_or_le m 0 with hm | hm
    · go_enter Tryz.func21, Tryz.ntmps21
      go_wp2_with fail
      go_ret
      exact ⟨rfl, rfl⟩
    · have hm0 : ¬ m < 0 := by omega
      have hm1 : (n : Int) ≤ m := by omega
      clear hno
      go_enter Tryz.func21, Tryz.ntmps21
      go_wp2_with fail
      go_ret
      exact ⟨rfl, rfl⟩
  · obtain ⟨k, hk, rfl⟩ := inB_iff.1 hb
    rw [Bool.true_and]
    have hkn : k < n := by have := HN.out; omega
    obtain ⟨b, off, rfl, hc⟩ := h.ats (by omega)
    have HC := Lib.hid hc
    have HF := Lib.hid hf
    clear h hf hb hc hk
    have hk0 : ¬ (k : Int) < 0 := by omega
    have hk1 : ¬ (n : Int) ≤ (k : Int) := by omega
    have hk2 : (k : Int) < (n : Int) := by omega
    go_enter Tryz.func21, Tryz.ntmps21
    go_wp2_with fail
    go_loopw [1] (fun x wr => ∃ j : Nat, x = .int .i64 (upN l j k) ∧ wr = w ∧ ∀ i, i < j → 0 ≤ upN l i k ∧ shownB l (upN l i k) = true) (fun x _ => (intOf x + 1).toNat)
    case atStart => exact ⟨0, rfl, rfl, fun j hj => absurd hj (by omega)⟩
    case round =>
      obtain ⟨j, rfl, rfl, hall⟩ := hrel
      have HA := Lib.hid hall
      clear hall
      obtain ⟨u1, u2, u3⟩ := HF.out.low.up (m := (k : Int)) (by omega) (by have := HN.out; omega) j
      have hnext : Hid (upN l (j + 1) (k : Int) = par l (upN l j k)) := rfl
      obtain ⟨A, hA⟩ : ∃ A, upN l j (k : Int) = A := ⟨_, rfl⟩
      rw [hA] at u1 u2 u3 hnext ⊢
      have HAA := Lib.hid hA
      clear hA
      by_cases hge : 0 ≤ A
      · obtain ⟨x, rfl⟩ := Int.eq_ofNat_of_zero_le hge
        have ca := (HC.out x (by omega)).par
        have cs := (HC.out x (by omega)).shown
        have ha' : (x : Int) < (n : Int) := by omega
        have HSH : Hid (shownB l (x : Int) = (nd l x).s.shown) := rfl
        obtain ⟨b1, hb1⟩ : ∃ b1, (nd l x).s.shown = b1 := ⟨_, rfl⟩
        rw [hb1] at cs HSH
        clear hb1 u3
        cases b1
        · have e1 : Hid (madeB l (k : Int) = false) := decide_eq_false fun hall => by
            have hd : j < deep l k := by
              have hsp := deep_spec (m := (k : Int)) (n := l.length) (Nat.le_refl _) HF.out.low (by omega) (by have := HN.out; omega)
              rcases Nat.lt_or_ge j (deep l k) with h | h
              · exact h
              · exfalso
                rcases Nat.eq_or_lt_of_le h with h | h
                · have := hsp.1
                  rw [h, HAA.out] at this; omega
                · have := (HA.out _ h).1
                  have := hsp.1
                  omega
            have := hall j hd
            rw [HAA.out, HSH.out] at this
            cases this
          go_wp2_with fail
          go_ret
          rw [e1.out]
          exact ⟨rfl, rfl⟩
        · go_wp2_with fail
          refine ⟨⟨j + 1, ?_, trivial, fun i hi => ?_⟩, ?_⟩
          · rw [hnext.out, par_nat]
          · rcases Nat.lt_or_ge i j with h | h
            · exact HA.out i h
            · obtain rfl : i = j := by omega
              rw [HAA.out]; exact ⟨hge, HSH.out⟩
          · have := HF.out.low.par (m := (x : Int)) (by omega) (by have := HN.out; omega)
            rw [par_nat] at this
            simp [intOf]; omega
      · have e1 : Hid (madeB l (k : Int) = true) := decide_eq_true fun i hi => by
          have := deep_is (m := (k : Int)) (n := l.length) (Nat.le_refl _) HF.out.low (by omega) (by have := HN.out; omega) (k := j) (by rw [HAA.out]; omega) fun i hi => (HA.out i hi).1
          rw [this] at hi
          exact (HA.out i hi).2
        clear u3
        go_wp2_with fail
        go_ret
        rw [e1.out]
        exact ⟨rfl, rfl⟩
set_option maxHeartbeats 4000000 in
theorem refOut_any (ad : Option Addr) (n c : Nat) (l : List Nd) (m : Int) (w : World) (h : NS w ad n l) (hf : FormedT l) (hn : n ≤ 1000000) :
    Calls Tryz.prog 55 #[.slice ad n c, .int .i64 m] w fun e w' => e = .returned (.bool (inB l m && outB l m)) ∧ w' = w := by
  have HN : Hid (l.length = n) := h.1
  have HM := Lib.hid (refMade_any ad n c l m w h hf hn)
  by_cases h0 : 0 < m
  · cases hb : inB l m
    · rw [hb] at HM
      clear h hf hb
      go_enter Tryz.func55, Tryz.ntmps55
      go_wp2_with (go_at_call 21; refine HM.out.mono ?_; clear HM; rintro e w1 ⟨rfl, rfl⟩)
      go_ret
      exact ⟨rfl, rfl⟩
    · rw [hb, Bool.true_and] at HM
      rw [Bool.true_and]
      obtain ⟨k, hk, rfl⟩ := inB_iff.1 hb
      have hkn : k < n := by have := HN.out; omega
      have hk2 : (k : Int) < (n : Int) := by omega
      obtain ⟨b, off, rfl, hc⟩ := h.ats (by omega)
      have cp := (hc k hkn).pos
      have e1 : Hid (outB l (k : Int) = (madeB l k && decide (2 ≤ (nd l k).s.pos))) := by
        unfold Hid outB
        rw [decide_eq_true h0, Bool.true_and, Int.toNat_natCast]
      obtain ⟨P, hP⟩ : ∃ P, (nd l k).s.pos = P := ⟨_, rfl⟩
      rw [hP] at cp e1
      obtain ⟨A, hA⟩ : ∃ A, madeB l (k : Int) = A := ⟨_, rfl⟩
      rw [hA] at HM e1
      clear h hf hb hc hk hP hA
      cases A
      · go_enter Tryz.func55, Tryz.ntmps55
        go_wp2_with (go_at_call 21; refine HM.out.mono ?_; clear HM; rintro e w1 ⟨rfl, rfl⟩)
        go_ret
        rw [e1.out]
        exact ⟨rfl, rfl⟩
      · go_enter Tryz.func55, Tryz.ntmps55
        go_wp2_with (go_at_call 21; refine HM.out.mono ?_; clear HM; rintro e w1 ⟨rfl, rfl⟩)
        go_ret
        rw [e1.out]
        exact ⟨by simp, rfl⟩
  · have e1 : Hid (outB l m = false) := by
      unfold Hid outB
      rw [decide_eq_false h0, Bool.false_and]
    clear h hf HM
    go_enter Tryz.func55, Tryz.ntmps55
    go_wp2_with fail
    go_ret
    rw [e1.out, Bool.and_false]
    exact ⟨rfl, rfl⟩
end Go.Proofs.YtngeaigkafamiaaGreat
namespace Go.Proofs.YtngeaigkafamiaaGreat
open Go.ChangeShapes Go.WideShapes Go.ChangeAt Go.RowKit
set_option maxRecDepth 100000
set_option maxHeartbeats 8000000 in
theorem refFlow_any (ad : Option Addr) (n c : Nat) (l : List Nd) (m : Int) (w : World) (h : NS w ad n l) (hf : FormedT l) (hn : n ≤ 1000000) :
    Calls Tryz.prog 51 #[.slice ad n c, .int .i64 m] w (RowI w (flowTo l m n)) := by
  have HN : Hid (l.length = n) := h.1
  have HS := Lib.hid h
  have HMD : Hid (∀ w', Seen w w' → ∀ k : Nat, k < n → Calls Tryz.prog 21 #[.slice ad n c, .int .i64 k] w' fun e w'' => e = .returned (.bool (madeB l k)) ∧ w'' = w') := fun w' h' k hk => by
    have := refMade_any ad n c l k w' (h.seen h') hf hn
    rw [inB_nat (by have := HN.out; omega), Bool.true_and] at this
    exact this
  have HOD : Hid (∀ w', Seen w w' → ∀ k : Nat, k < n → Calls Tryz.prog 55 #[.slice ad n c, .int .i64 k] w' fun e w'' => e = .returned (.bool (outB l k)) ∧ w'' = w') := fun w' h' k hk => by
    have := refOut_any ad n c l k w' (h.seen h') hf hn
    rw [inB_nat (by have := HN.out; omega), Bool.true_and] at this
    exact this
  clear h hf
  go_enter Tryz.func51, Tryz.ntmps51
  go_wp2_with fail
  go_loopw [5, 9] (fun s x wr => ∃ k : Nat, x = .int .i64 k ∧ k ≤ n ∧ RI wr w.heap.size s (flowTo l m k) ∧ Seen w wr) (fun _ x _ => n - (intOf x).toNat)
  case atStart => exact ⟨0, rfl, by omega, RI.nil _ _, Seen.refl _⟩
  case round =>
    obtain ⟨k, rfl, hk, hrow, hs⟩ := hrel
    have S1 := Lib.hid hs
    have HR := Lib.hid hrow
    clear hs hrow
    have hlen := flow_length l m k
    have HST : Hid (flowTo l m (k + 1) = flowTo l m k ++ (if kidB l m k && flowF l k then [(k : Int)] else [])) := flow_step l m k
    by_cases hlt : k < n
    · have hk' : (k : Int) < (n : Int) := by omega
      have HM1 := Lib.hid (HMD.out _ S1.out k hlt)
      have HO1 := Lib.hid (HOD.out _ S1.out k hlt)
      obtain ⟨b, off, rfl, hc⟩ := HS.out.ats (by omega)
      have cp := ((hc k hlt).seen S1.out).par
      clear hc
      unfold kidB flowF at HST
      obtain ⟨P, hP⟩ : ∃ P, (nd l k).p = P := ⟨_, rfl⟩
      rw [hP] at cp HST
      clear hP
      obtain ⟨A, hA⟩ : ∃ A, madeB l (k : Int) = A := ⟨_, rfl⟩
      obtain ⟨O, hO⟩ : ∃ O, outB l (k : Int) = O := ⟨_, rfl⟩
      rw [hA] at HM1 HST
      rw [hO] at HO1 HST
      clear hA hO
      rcases Nat.eq_zero_or_pos k with h0 | h0
      · subst h0
        clear HM1 HO1
        go_wp2_with fail
        go_roundw
        case rel =>
          refine ⟨0 + 1, by go_num, by omega, ?_, S1.out⟩
          rw [HST.out]
          simpa using HR.out
        case measure => simp [intOf]; omega
      · have hk0 : (k : Int) > 0 := by omega
        have ek : Hid (decide (0 < k) = true) := decide_eq_true h0
        rw [ek.out, Bool.true_and] at HST
        cases hq : (P == m)
        · rw [hq] at HST
          clear HM1 HO1
          go_wp2_with fail
          go_roundw
          case rel =>
            refine ⟨k + 1, by go_num, by omega, ?_, S1.out⟩
            rw [HST.out]
            simpa using HR.out
          case measure => simp [intOf]; omega
        · rw [hq] at HST
          cases A
          · clear HO1
            go_wp2_with (go_at_call 21; refine HM1.out.mono ?_; clear HM1; rintro e w3 ⟨rfl, rfl⟩)
            go_roundw
            case rel =>
              refine ⟨k + 1, by go_num, by omega, ?_, S1.out⟩
              rw [HST.out]
              simpa using HR.out
            case measure => simp [intOf]; omega
          · cases O
            · go_wp2_with (first
                | (go_at_call 21; refine HM1.out.mono ?_; clear HM1; rintro e w3 ⟨rfl, rfl⟩)
                | (go_at_call 55; refine HO1.out.mono ?_; clear HO1; rintro e w3 ⟨rfl, rfl⟩)
                | (at_builtin; refine wpList_pushI rfl (.tmp 34) (.tmp 36) rfl w.heap.size u5 (flowTo l m k) k rfl rfl HR.out (by omega) S1.out.size ?_; intro v3 w3 hr3 hb3; have R3 := Lib.hid hr3; have S3 : Hid (Seen w w3) := Below.trans S1.out hb3; clear hr3 hb3))
              go_roundw
              case rel =>
                refine ⟨k + 1, by go_num, by omega, ?_, S3.out⟩
                rw [HST.out]
                exact R3.out
              case measure => simp [intOf]; omega
            · go_wp2_with (first
                | (go_at_call 21; refine HM1.out.mono ?_; clear HM1; rintro e w3 ⟨rfl, rfl⟩)
                | (go_at_call 55; refine HO1.out.mono ?_; clear HO1; rintro e w3 ⟨rfl, rfl⟩))
              go_roundw
              case rel =>
                refine ⟨k + 1, by go_num, by omega, ?_, S1.out⟩
                rw [HST.out]
                simpa using HR.out
              case measure => simp [intOf]; omega
    · have hk' : ¬ (k : Int) < (n : Int) := by omega
      obtain rfl : k = n := by omega
      go_wp2_with fail
      go_ret
      exact ⟨_, rfl, HR.out, S1.out⟩
end Go.Proofs.YtngeaigkafamiaaGreat
namespace Go.Proofs.YtngeaigkafamiaaGreat
open Go.ChangeShapes Go.WideShapes Go.ChangeAt Go.RowKit
set_option maxRecDepth 100000
theorem ldSz {w : World} {X o : Nat} {a : Bool} {n : Int} (h : w.rangeAt X o [.bool a, .int .i64 n]) : (Instr.loadAt 58 (.pointer (some ⟨X, o, none⟩))).run Tryz.prog w = .ok (.agg #[.bool a, .int .i64 n]) w :=
  run_loadAt_mid w X o 58 _ _ h Tryz.underlying58 rfl (by show _ = some 2; kernel_rfl)
set_option maxHeartbeats 2000000 in
theorem refBounds_any (k n k' n' b : Int) (has : Bool) (w : World) :
    Calls Tryz.prog 26 #[.agg #[.int .i64 k, .int .i64 n], .agg #[.int .i64 k', .int .i64 n'], .int .i64 b, .bool has] w fun e w' => e = .returned (.tuple #[.int .i64 (ofOrV k n b has 0), .int .i64 (ofOrV k' n' b has 1125899906842624), .bool (ofB k n b has && ofB k' n' b has)]) ∧ Seen w w' := by
  have OF := fun w => refOf_any k n b has w
  have OG := fun w => refOf_any k' n' b has w
  have OR := fun s m w => refOr_any s m w
  have H1 := Lib.hid (of_or k n b has 0)
  have H2 := Lib.hid (of_or k' n' b has 1125899906842624)
  obtain ⟨⟨sa, sn⟩, hs⟩ : ∃ s, ofS k n b has = s := ⟨_, rfl⟩
  obtain ⟨⟨ta, tn⟩, ht⟩ : ∃ s, ofS k' n' b has = s := ⟨_, rfl⟩
  obtain ⟨p, hp⟩ : ∃ s, ofB k n b has = s := ⟨_, rfl⟩
  obtain ⟨q, hq⟩ : ∃ s, ofB k' n' b has = s := ⟨_, rfl⟩
  rw [hs, hp] at OF
  rw [ht, hq] at OG
  rw [hs] at H1
  rw [ht] at H2
  rw [← H1.out, ← H2.out, hp, hq]
  clear H1 H2 hs ht hp hq
  obtain ⟨W, hW⟩ : ∃ W, W = (w.alloc (.cells #[.int .i64 k, .int .i64 n] 63)).alloc (.cells #[.int .i64 k', .int .i64 n'] 63) := ⟨_, rfl⟩
  have r0 := (show Blk W w.heap.size [.int .i64 k, .int .i64 n] 63 by rw [hW]; exact (Blk.new w _ _).alloc _).rules2
  have r1 := (show Blk W (w.heap.size + 1) [.int .i64 k', .int .i64 n'] 63 by rw [hW]; simpa using Blk.new (w.alloc (.cells #[.int .i64 k, .int .i64 n] 63)) [.int .i64 k', .int .i64 n'] 63).rules2
  have SW : Hid (Seen w W) := by rw [hW]; exact ((Seen.refl w).alloc _).alloc _
  have c0 := r0 W (Seen.refl W)
  go_enter Tryz.func26, Tryz.ntmps26
  go_upto_region 1 with fail
  rw [← hW]
  clear hW
  go_upto_region 3 with (first
    | (go_at_call 25; refine (OF _).mono ?_; clear OF c0; rintro e w2 ⟨rfl, hb⟩; have S2 : Hid (Seen W w2) := hb; clear hb
       obtain ⟨W2, hW2⟩ : ∃ x, x = w2.alloc (.cells #[.bool sa, .int .i64 sn] 58) := ⟨_, rfl⟩
       have K2 := Lib.hid (show Blk W2 w2.heap.size [.bool sa, .int .i64 sn] 58 by rw [hW2]; exact Blk.new _ _ _)
       have S3 : Hid (Seen W W2) := by rw [hW2]; exact S2.out.alloc _
       have c1 := fun o => r1 (w2.alloc o) (S2.out.alloc o))
    | (go_at_call 25; rw [← hW2]; clear hW2 c1; refine (OG _).mono ?_; clear OG; rintro e w4 ⟨rfl, hb⟩; have S4 : Hid (Seen W2 w4) := hb; clear hb
       obtain ⟨W4, hW4⟩ : ∃ x, x = w4.alloc (.cells #[.bool ta, .int .i64 tn] 58) := ⟨_, rfl⟩
       have K4 := Lib.hid (show Blk W4 w4.heap.size [.bool ta, .int .i64 tn] 58 by rw [hW4]; exact Blk.new _ _ _)
       have S5 : Hid (Seen W2 W4) := by rw [hW4]; exact S4.out.alloc _))
  rw [← hW4]
  clear hW4
  have K5 := Lib.hid (K2.out.seen S5.out)
  have S6 := Lib.hid (SW.out.trans (S3.out.trans S5.out))
  have acc0 : Seen W4 W4.drew := (Seen.refl W4).drew
  clear S2 S4 r0 r1
  cases p
  · refine wp_region_held_drew (S := fun w' => Seen W4 w') (by kernel_rfl) acc0 (fun _ => ?_)
    refine ZU 0 (some 29) (.agg #[.bool sa, .int .i64 sn]) (fun _ hS => run_by (Instr.loadAt 58 (.pointer (some ⟨w2.heap.size, 0, none⟩))) (by kernel_rfl) (ldSz ((K5.out.seen hS).mid 0 2))) acc0 ?_
    simp only [Z1,Z2,Z3,Z4]
    refine ZU 2 (some 31) (.agg #[.bool ta, .int .i64 tn]) (fun _ hS => run_by (Instr.loadAt 58 (.pointer (some ⟨w4.heap.size, 0, none⟩))) (by kernel_rfl) (ldSz ((K4.out.seen hS).mid 0 2))) acc0 ?_
    simp only [Z1,Z2,Z3,Z4]
    refine ZT 4 (some 33) (.bool false) acc0 ?_
    simp only [Z1,Z2,Z3,Z4]
    refine ZC 1 (some 30) 30 #[.agg #[.bool sa, .int .i64 sn], .int .i64 0] ?_
    refine (OR ⟨sa, sn⟩ 0 _).mono ?_
    rintro e wd1 ⟨rfl, hb⟩
    have acc1 : Seen W4 wd1 := Seen.next acc0 hb
    clear hb
    refine ⟨_, rfl, acc1, ?_⟩
    simp only [Z1,Z2,Z3,Z4]
    refine ZC 3 (some 32) 30 #[.agg #[.bool ta, .int .i64 tn], .int .i64 1125899906842624] ?_
    refine (OR ⟨ta, tn⟩ 1125899906842624 _).mono ?_
    rintro e wd2 ⟨rfl, hb⟩
    have acc2 : Seen W4 wd2 := Seen.next acc1 hb
    clear hb
    refine ⟨_, rfl, acc2, ?_⟩
    simp only [Z1,Z2,Z3,Z4]
    refine ZT 5 (some 34) (.bool false) acc2 ?_
    simp only [Z1,Z2,Z3,Z4]
    refine ZN 6 (some 35) acc2 ?_
    simp only [Z1,Z2,Z3,Z4]
    refine ZT 7 (some 36) (.bool false) acc2 ?_
    simp only [Z1,Z2,Z3,Z4]
    refine ZT 8 (some 8) (.int .i64 (orV ⟨sa, sn⟩ 0)) acc2 ?_
    simp only [Z1,Z2,Z3,Z4]
    refine ZT 9 (some 9) (.int .i64 (orV ⟨ta, tn⟩ 1125899906842624)) acc2 ?_
    simp only [Z1,Z2,Z3,Z4]
    refine ZT 10 (some 10) (.bool false) acc2 ?_
    simp only [Z1,Z2,Z3,Z4]
    refine wpAnyH_done (by kernel_rfl) ?_ _
    have z1 := acc2
    go_wp2_with fail
    go_returns
    exact ⟨rfl, S6.out.trans z1⟩
  · cases q
    · refine wp_region_held_drew (S := fun w' => Seen W4 w') (by kernel_rfl) acc0 (fun _ => ?_)
      refine ZU 0 (some 29) (.agg #[.bool sa, .int .i64 sn]) (fun _ hS => run_by (Instr.loadAt 58 (.pointer (some ⟨w2.heap.size, 0, none⟩))) (by kernel_rfl) (ldSz ((K5.out.seen hS).mid 0 2))) acc0 ?_
      simp only [Z1,Z2,Z3,Z4]
      refine ZU 2 (some 31) (.agg #[.bool ta, .int .i64 tn]) (fun _ hS => run_by (Instr.loadAt 58 (.pointer (some ⟨w4.heap.size, 0, none⟩))) (by kernel_rfl) (ldSz ((K4.out.seen hS).mid 0 2))) acc0 ?_
      simp only [Z1,Z2,Z3,Z4]
      refine ZT 4 (some 33) (.bool true) acc0 ?_
      simp only [Z1,Z2,Z3,Z4]
      refine ZC 1 (some 30) 30 #[.agg #[.bool sa, .int .i64 sn], .int .i64 0] ?_
      refine (OR ⟨sa, sn⟩ 0 _).mono ?_
      rintro e wd1 ⟨rfl, hb⟩
      have acc1 : Seen W4 wd1 := Seen.next acc0 hb
      clear hb
      refine ⟨_, rfl, acc1, ?_⟩
      simp only [Z1,Z2,Z3,Z4]
      refine ZC 3 (some 32) 30 #[.agg #[.bool ta, .int .i64 tn], .int .i64 1125899906842624] ?_
      refine (OR ⟨ta, tn⟩ 1125899906842624 _).mono ?_
      rintro e wd2 ⟨rfl, hb⟩
      have acc2 : Seen W4 wd2 := Seen.next acc1 hb
      clear hb
      refine ⟨_, rfl, acc2, ?_⟩
      simp only [Z1,Z2,Z3,Z4]
      refine ZT 5 (some 34) (.bool true) acc2 ?_
      simp only [Z1,Z2,Z3,Z4]
      refine ZT 6 (some 35) (.bool false) acc2 ?_
      simp only [Z1,Z2,Z3,Z4]
      refine ZT 7 (some 36) (.bool false) acc2 ?_
      simp only [Z1,Z2,Z3,Z4]
      refine ZT 8 (some 8) (.int .i64 (orV ⟨sa, sn⟩ 0)) acc2 ?_
      simp only [Z1,Z2,Z3,Z4]
      refine ZT 9 (some 9) (.int .i64 (orV ⟨ta, tn⟩ 1125899906842624)) acc2 ?_
      simp only [Z1,Z2,Z3,Z4]
      refine ZT 10 (some 10) (.bool false) acc2 ?_
      simp only [Z1,Z2,Z3,Z4]
      refine wpAnyH_done (by kernel_rfl) ?_ _
      have z1 := acc2
      go_wp2_with fail
      go_returns
      exact ⟨rfl, S6.out.trans z1⟩
    · refine wp_region_held_drew (S := fun w' => Seen W4 w') (by kernel_rfl) acc0 (fun _ => ?_)
      refine ZU 0 (some 29) (.agg #[.bool sa, .int .i64 sn]) (fun _ hS => run_by (Instr.loadAt 58 (.pointer (some ⟨w2.heap.size, 0, none⟩))) (by kernel_rfl) (ldSz ((K5.out.seen hS).mid 0 2))) acc0 ?_
      simp only [Z1,Z2,Z3,Z4]
      refine ZU 2 (some 31) (.agg #[.bool ta, .int .i64 tn]) (fun _ hS => run_by (Instr.loadAt 58 (.pointer (some ⟨w4.heap.size, 0, none⟩))) (by kernel_rfl) (ldSz ((K4.out.seen hS).mid 0 2))) acc0 ?_
      simp only [Z1,Z2,Z3,Z4]
      refine ZT 4 (some 33) (.bool true) acc0 ?_
      simp only [Z1,Z2,Z3,Z4]
      refine ZC 1 (some 30) 30 #[.agg #[.bool sa, .int .i64 sn], .int .i64 0] ?_
      refine (OR ⟨sa, sn⟩ 0 _).mono ?_
      rintro e wd1 ⟨rfl, hb⟩
      have acc1 : Seen W4 wd1 := Seen.next acc0 hb
      clear hb
      refine ⟨_, rfl, acc1, ?_⟩
      simp only [Z1,Z2,Z3,Z4]
      refine ZC 3 (some 32) 30 #[.agg #[.bool ta, .int .i64 tn], .int .i64 1125899906842624] ?_
      refine (OR ⟨ta, tn⟩ 1125899906842624 _).mono ?_
      rintro e wd2 ⟨rfl, hb⟩
      have acc2 : Seen W4 wd2 := Seen.next acc1 hb
      clear hb
      refine ⟨_, rfl, acc2, ?_⟩
      simp only [Z1,Z2,Z3,Z4]
      refine ZT 5 (some 34) (.bool true) acc2 ?_
      simp only [Z1,Z2,Z3,Z4]
      refine ZT 6 (some 35) (.bool true) acc2 ?_
      simp only [Z1,Z2,Z3,Z4]
      refine ZT 7 (some 36) (.bool true) acc2 ?_
      simp only [Z1,Z2,Z3,Z4]
      refine ZT 8 (some 8) (.int .i64 (orV ⟨sa, sn⟩ 0)) acc2 ?_
      simp only [Z1,Z2,Z3,Z4]
      refine ZT 9 (some 9) (.int .i64 (orV ⟨ta, tn⟩ 1125899906842624)) acc2 ?_
      simp only [Z1,Z2,Z3,Z4]
      refine ZT 10 (some 10) (.bool true) acc2 ?_
      simp only [Z1,Z2,Z3,Z4]
      refine wpAnyH_done (by kernel_rfl) ?_ _
      have z1 := acc2
      go_wp2_with fail
      go_returns
      exact ⟨rfl, S6.out.trans z1⟩
end Go.Proofs.YtngeaigkafamiaaGreat

