/- Texts of the proof, merged: Same, Laws, OpenI, PArgs, PIs. -/
import Derived.Test.YteplmjgohnbpbaaM43
import Derived.Test.YteplmjgohnbpbaaM11
import Derived.Test.YteplmjgohnbpbaaM1
import Derived.ShutString
import Derived.ChangeOld
import Derived.Test.YteplmjgohnbpbaaM15
import Derived.Test.YteplmjgohnbpbaaM29
/- Plain mathematics: what the reference answers is what the program answers; no conditions. -/
namespace Go.Proofs.Yteplmjgohnbpbaa
open Go.ChangeShapes Go.WideShapes Go.ChangeAt Go.RowKit
set_option maxRecDepth 100000
set_option linter.unusedVariables false
/-- The rest without wrapping. -/
def restI (b : Bx) (s : Sz) : Int := b.base - b.ar - orV b.lf 0 - orV s 0 - orV b.rt 0
theorem restW_is {b : Bx} {s : Sz} (h : okF b = true) (h1 : fitsB (orV s 0) = true) : restW b s = restI b s := by
  obtain ⟨⟨b1, b2⟩, ⟨b3, b4⟩, ⟨b5, b6⟩, ⟨b7, b8⟩⟩ := okF_parts h
  obtain ⟨n1, n2⟩ := fitsB_iff.1 h1
  unfold restW restI
  rw [w64 (n := b.base - b.ar) (by omega) (by omega), w64 (n := b.base - b.ar - orV b.lf 0) (by omega) (by omega), w64 (n := b.base - b.ar - orV b.lf 0 - orV s 0) (by omega) (by omega), w64 (by omega) (by omega)]
theorem orV_au (n : Int) : orV ⟨true, n⟩ 0 = 0 := rfl
theorem orV_no (n : Int) : orV ⟨false, n⟩ 0 = n := rfl
theorem fits0 : fitsB 0 = true := by decide
theorem fitsB_no {n : Int} (h : fitsB n = false) : ¬ (-1125899906842624 ≤ n ∧ n ≤ 1125899906842624) := fun g => by rw [fitsB_iff.2 g] at h; cases h
/-- The width asked doesn't fit: the program says no. -/
theorem try_no {b : Bx} {s : Sz} (h : okF b = true) (h1 : fitsB (wN b s) = false) : tryB b s = false := by
  unfold tryB fitO
  have hw : fitsB (fillW b s).w = false := by
    unfold wN at h1
    obtain ⟨sa, sn⟩ := s
    cases sa with
    | true =>
      have e := restW_is (s := ⟨true, sn⟩) h (by rw [orV_au]; exact fits0)
      unfold restI at e
      rw [orV_au] at e
      have ef : (fillW b ⟨true, sn⟩).w = restW b ⟨true, sn⟩ := rfl
      rw [ef, e]
      simp only [if_true] at h1
      rw [show b.base - b.ar - orV b.lf 0 - 0 - orV b.rt 0 = b.base - b.ar - orV b.lf 0 - orV b.rt 0 by omega]
      exact h1
    | false =>
      have ef : (fillW b ⟨false, sn⟩).w = sn := by
        unfold fillW fillR
        simp only [Bool.false_eq_true, if_false, orV_no]
        split
        · split <;> rfl
        · rfl
      rw [ef]
      simpa using h1
  rw [hw]
  simp
/-- It fits: the same results. -/
theorem fill_is {b : Bx} {s : Sz} (h : okF b = true) (h1 : fitsB (wN b s) = true) : fillW b s = refAO b s := by
  obtain ⟨⟨b1, b2⟩, ⟨b3, b4⟩, ⟨b5, b6⟩, ⟨b7, b8⟩⟩ := okF_parts h
  obtain ⟨n1, n2⟩ := fitsB_iff.1 h1
  unfold refAO
  rw [if_pos h1]
  obtain ⟨sa, sn⟩ := s
  cases sa with
  | true =>
    have e := restW_is (s := ⟨true, sn⟩) h (by rw [orV_au]; exact fits0)
    unfold restI at e
    rw [orV_au] at e
    have hs : stay b ⟨true, sn⟩ = false := by simp [stay]
    have hw : wN b ⟨true, sn⟩ = b.base - b.ar - orV b.lf 0 - orV b.rt 0 := rfl
    have ef : fillW b ⟨true, sn⟩ = ⟨orV b.lf 0, restW b ⟨true, sn⟩, orV b.rt 0⟩ := rfl
    rw [hs, hw, ef, e]
    unfold refI
    simp only [Bool.false_and, Bool.false_eq_true, if_false, Bool.not_false, Bool.true_and, Bool.false_or]
    cases b.rtl
    · simp only [Bool.false_eq_true, if_false]
      congr 1
      · omega
      · omega
    · simp only [if_true]
      congr 1
      · omega
      · omega
  | false =>
    have hw : wN b ⟨false, sn⟩ = sn := rfl
    rw [hw] at h1 n1 n2
    have e := restW_is (s := ⟨false, sn⟩) h (by rw [orV_no]; exact h1)
    unfold restI at e
    rw [orV_no] at e
    obtain ⟨t, ht⟩ : ∃ t, restW b ⟨false, sn⟩ = t := ⟨_, rfl⟩
    rw [ht] at e
    have hs : stay b ⟨false, sn⟩ = decide (0 ≤ t) := by
      unfold stay
      rw [hw]
      by_cases h0 : 0 ≤ t
      · rw [decide_eq_true h0, decide_eq_false (by omega)]; rfl
      · rw [decide_eq_false h0, decide_eq_true (by omega)]; rfl
    have ef : fillW b ⟨false, sn⟩ = fillR b ⟨false, sn⟩ t := by unfold fillW; rw [ht]
    rw [ef, hs, hw]
    unfold fillR refI
    simp only [Bool.false_eq_true, if_false, orV_no]
    by_cases h0 : 0 ≤ t
    · have hl : tkL b t = if b.lf.au = false ∧ b.rt.au = false then b.rtl else b.lf.au := by unfold tkL; rw [if_neg (by omega)]
      have hr : tkR b t = if b.lf.au = false ∧ b.rt.au = false then !b.rtl else b.rt.au := by unfold tkR; rw [if_neg (by omega)]
      rw [hl, hr, decide_eq_true h0]
      simp only [Bool.true_and]
      cases hla : b.lf.au <;> cases hra : b.rt.au
      · cases hrt : b.rtl
        · simp
          rw [w64 (by omega) (by omega)]
          omega
        · simp
          rw [w64 (by omega) (by omega)]
          omega
      · simp
        rw [w64 (by omega) (by omega)]
        omega
      · simp
        rw [w64 (by omega) (by omega)]
        omega
      · have hl0 : orV b.lf 0 = 0 := by unfold orV; rw [hla]; rfl
        have hr0 : orV b.rt 0 = 0 := by unfold orV; rw [hra]; rfl
        have hh : halfI t = t / 2 := rfl
        have et : b.base - b.ar - sn = t := by omega
        simp [et]
        rw [w64 (by omega) (by omega)]
    · have hl : tkL b t = b.rtl := by unfold tkL; rw [if_pos (by omega)]
      have hr : tkR b t = !b.rtl := by unfold tkR; rw [if_pos (by omega)]
      rw [hl, hr, decide_eq_false h0]
      cases hrt : b.rtl
      · simp
        rw [w64 (by omega) (by omega)]
        omega
      · simp
        rw [w64 (by omega) (by omega)]
        omega
theorem try_is {b : Bx} (s : Sz) (h : okF b = true) : tryB b s = refB b s ∧ (tryB b s = true → fillW b s = refAO b s) := by
  cases h1 : fitsB (wN b s) with
  | false =>
    have e := try_no h h1
    refine ⟨?_, fun g => by rw [e] at g; cases g⟩
    rw [e]
    unfold refB
    rw [h1]; rfl
  | true =>
    have e := fill_is h h1
    refine ⟨?_, fun _ => e⟩
    have hw : (refAO b s).w = wN b s := by
      unfold refAO
      rw [if_pos h1]
      unfold refI
      split
      · rfl
      · split <;> rfl
    unfold tryB refB fitO
    rw [e, h1, hw, h1]
    simp
end Go.Proofs.Yteplmjgohnbpbaa

/- Plain mathematics of the laws about sums and about what is kept; no conditions. -/
namespace Go.Proofs.Yteplmjgohnbpbaa
open Go.ChangeShapes Go.WideShapes Go.ChangeAt Go.RowKit
set_option maxRecDepth 100000
set_option linter.unusedVariables false
theorem fill_w {b : Bx} {n : Int} : (fillW b ⟨false, n⟩).w = n := by
  unfold fillW fillR
  simp only [Bool.false_eq_true, if_false, orV_no]
  split
  · split <;> rfl
  · rfl
theorem sol_parts {b : Bx} (h : solB b = true) : okF b = true ∧ tryB b (lastS b) = true ∧ solO b = fillW b (lastS b) := by
  have h' := h
  unfold solB at h'
  simp only [Bool.and_eq_true] at h'
  exact ⟨h'.1, h'.2, by unfold solO; rw [h]; rfl⟩
/-- All fits: together they are as wide as the container. -/
theorem sum_is {b : Bx} {s : Sz} (hok : okF b = true) (h : tryB b s = true) : (fillW b s).l + b.ar + (fillW b s).w + (fillW b s).r = b.base := by
  cases h1 : fitsB (wN b s) with
  | false => rw [try_no hok h1] at h; cases h
  | true =>
    rw [fill_is hok h1]
    unfold refAO
    rw [if_pos h1]
    unfold refI
    split
    · simp only; omega
    · split
      · simp only; omega
      · simp only; omega
theorem fit_parts {b : Bx} {s : Sz} (h : tryB b s = true) : fitsB (fillW b s).l = true ∧ fitsB (fillW b s).w = true ∧ fitsB (fillW b s).r = true := by
  unfold tryB fitO at h
  simp only [Bool.and_eq_true] at h
  exact ⟨h.1.1, h.1.2, h.2⟩
theorem between {b : Bx} (h : tryB b (lastS b) = true) (hl : b.lo ≤ b.hi) : b.lo ≤ (fillW b (lastS b)).w ∧ (fillW b (lastS b)).w ≤ b.hi := by
  unfold lastS at h ⊢
  obtain ⟨s, hs⟩ : ∃ s, nextHi b b.wd = s := ⟨_, rfl⟩
  rw [hs] at h ⊢
  by_cases h1 : tryB b s = true ∧ (fillW b s).w < b.lo
  · have e : nextLo b s = ⟨false, b.lo⟩ := lo_yes h1.1 h1.2
    rw [e, fill_w]
    exact ⟨Int.le_refl _, hl⟩
  · have e : nextLo b s = s := lo_no h1
    rw [e] at h ⊢
    refine ⟨Int.not_lt.1 (fun g => h1 ⟨h, g⟩), ?_⟩
    by_cases h2 : tryB b b.wd = true ∧ b.hi < (fillW b b.wd).w
    · have e2 : s = ⟨false, b.hi⟩ := hs.symm.trans (hi_yes h2.1 h2.2)
      rw [e2, fill_w]
      exact Int.le_refl _
    · have e2 : s = b.wd := hs.symm.trans (hi_no h2)
      rw [e2] at h ⊢
      exact Int.not_lt.1 (fun g => h2 ⟨h, g⟩)
/-- What AcrossSums asks. -/
theorem sums_math {b : Bx} (h : solB b = true) (hl : b.lo ≤ b.hi) : ((solO b).l + b.ar + (solO b).w + (solO b).r = b.base ∧ b.lo ≤ (solO b).w ∧ (solO b).w ≤ b.hi) ∧
    ((-1125899906842624 ≤ (solO b).l ∧ (solO b).l ≤ 1125899906842624) ∧ (-1125899906842624 ≤ (solO b).w ∧ (solO b).w ≤ 1125899906842624) ∧ (-1125899906842624 ≤ b.ar ∧ b.ar ≤ 1125899906842624) ∧ (-1125899906842624 ≤ b.base ∧ b.base ≤ 1125899906842624)) := by
  obtain ⟨h1, h2, h3⟩ := sol_parts h
  obtain ⟨f1, f2, f3⟩ := fit_parts h2
  obtain ⟨g1, g2, -, -⟩ := okF_parts h1
  rw [h3]
  exact ⟨⟨sum_is h1 h2, between h2 hl⟩, fitsB_iff.1 f1, fitsB_iff.1 f2, g2, g1⟩
/-- What stays of the margins. -/
theorem kept_lr (b : Bx) (s : Sz) : (b.lf.au = true ∨ (fillW b s).l = b.lf.n ∨ b.rtl = true) ∧ (b.rt.au = true ∨ (fillW b s).r = b.rt.n ∨ b.rtl = false) := by
  unfold fillW
  obtain ⟨t, ht⟩ : ∃ t, restW b s = t := ⟨_, rfl⟩
  rw [ht]
  unfold fillR
  obtain ⟨base, ⟨la, ln⟩, wd, ⟨ra, rn⟩, ar, rtl, lo, hi⟩ := b
  cases s.au
  · simp only [Bool.false_eq_true, if_false]
    unfold tkL tkR orV
    by_cases h0 : t < 0
    · simp only [if_pos h0]
      cases la <;> cases ra <;> cases rtl <;> simp
    · simp only [if_neg h0]
      cases la <;> cases ra <;> cases rtl <;> simp
  · simp only [if_true]
    unfold orV
    cases la <;> cases ra <;> simp
/-- What stays of the width. -/
theorem kept_w (b : Bx) : b.wd.au = true ∨ (fillW b (lastS b)).w = b.wd.n ∨ (fillW b (lastS b)).w = b.lo ∨ (fillW b (lastS b)).w = b.hi := by
  unfold lastS
  obtain ⟨s, hs⟩ : ∃ s, nextHi b b.wd = s := ⟨_, rfl⟩
  rw [hs]
  by_cases h1 : tryB b s = true ∧ (fillW b s).w < b.lo
  · rw [lo_yes h1.1 h1.2, fill_w]
    exact .inr (.inr (.inl rfl))
  · rw [lo_no h1]
    by_cases h2 : tryB b b.wd = true ∧ b.hi < (fillW b b.wd).w
    · have e2 : s = ⟨false, b.hi⟩ := hs.symm.trans (hi_yes h2.1 h2.2)
      rw [e2, fill_w]
      exact .inr (.inr (.inr rfl))
    · have e2 : s = b.wd := hs.symm.trans (hi_no h2)
      rw [e2]
      cases ha : b.wd.au with
      | true => exact .inl rfl
      | false =>
        refine .inr (.inl ?_)
        rw [sz_false ha, fill_w]
end Go.Proofs.Yteplmjgohnbpbaa

/- Slices of integers that came in, opened: any kind of integer. No number of a seat in it; no conditions beyond those written in each theorem. -/
namespace Go.Proofs.Yteplmjgohnbpbaa
open Go.ChangeShapes Go.WideShapes Go.ChangeAt Go.RowKit Go.Joins
set_option maxRecDepth 100000
/-- A slice of integers reads as this list. -/
def KS (k : IntKind) (w : World) (a : Option Addr) (n : Nat) (zs : List Int) : Prop :=
  zs.length = n ∧ (0 < n → ∃ b off, a = some ⟨b, off, none⟩ ∧ ∀ i, i < n → w.cell? ⟨b, off + i, none⟩ = some (.int k (zs.getD i 0)))
theorem KS.seen {k : IntKind} {w w' : World} {a : Option Addr} {n : Nat} {zs : List Int} (h : KS k w a n zs) (hs : Seen w w') : KS k w' a n zs := by
  refine ⟨h.1, fun h0 => ?_⟩
  obtain ⟨b, off, e, hc⟩ := h.2 h0
  exact ⟨b, off, e, fun i hi => hs.cell (hc i hi)⟩
theorem open_ks {P : Program} {H : Type} {enc : TypeId × Value → H} {w : World} {base : Nat} {spare : Nat → Bool} {held : Bool} {r : Reach} {b0 : Nat} {v : Value} {d : DataW H} {p : List MemPlace} {t e : TypeId} {k : IntKind}
    (ht : P.underlying t = some (.slice e)) (he : P.underlying e = some (.int k)) (hc : P.cellsOf e = 1) (hv : Value.okWide P w r b0 t v) (h : DataW.Trod enc P w base spare held t v d p) :
    ∃ (a : Option Addr) (n c : Nat) (zs : List Int), v = .slice a n c ∧ KS k w a n zs ∧ (∀ z ∈ zs, (Lit.int k z).wf = true) := by
  obtain ⟨a0, len0, cap0, rfl⟩ := okWide_slice ht hv
  obtain ⟨fuel, hf⟩ := h
  rcases open_ints ht he hc hf with ⟨hcs, _⟩ | ⟨x, l, c, z, hcs, _, hl, hm, hz, _, hcell, hwz⟩
  · simp [Value.cells] at hcs
    obtain ⟨rfl, rfl, rfl⟩ := hcs
    exact ⟨none, 0, 0, [], rfl, ⟨rfl, fun h => absurd h (by decide)⟩, fun z hz => by cases hz⟩
  · simp [Value.cells] at hcs
    obtain ⟨rfl, rfl, rfl⟩ := hcs
    have hz' : len0 ≤ z.length := by
      rw [hz]
      split <;> omega
    refine ⟨some x, len0, cap0, z.take len0, rfl, ⟨by simp only [List.length_take]; omega, fun h0 => ?_⟩, fun y hy => hwz y (List.mem_of_mem_take hy)⟩
    obtain ⟨b, off, spot⟩ := x
    have hc := hcell 0 (by omega)
    have hspot : spot = none := by simpa [Addr.add] using World.cell?_spot hc
    subst hspot
    refine ⟨b, off, rfl, fun i hi => ?_⟩
    have h1 := hcell i (by omega)
    have e1 : (z.take len0).getD i 0 = z.getD i 0 := by simp [List.getD_eq_getElem?_getD, List.getElem?_take_of_lt hi]
    rw [e1, ← h1]
    congr 1
    unfold Addr.add
    split <;> simp_all
end Go.Proofs.Yteplmjgohnbpbaa

/- Arguments that came in, opened: a slice of children, a slice of uint16, a Boolean; no conditions beyond those written in each theorem. -/
namespace Go.Proofs.Yteplmjgohnbpbaa
open Go.ChangeShapes Go.WideShapes Go.ChangeAt Go.RowKit Go.Joins
set_option maxRecDepth 100000
theorem ZS_seen {w w' : World} {a : Option Addr} {n : Nat} {zs : List Int} (h : ZI w a n zs) (hs : Seen w w') : ZI w' a n zs := by
  refine ⟨h.1, fun h0 => ?_⟩
  obtain ⟨b, off, e, hc⟩ := h.2 h0
  exact ⟨b, off, e, fun i hi => hs.cell (hc i hi)⟩
section
variable {H : Type} {enc : TypeId × Value → H} {w : World} {base : Nat} {spare : Nat → Bool} {held : Bool} {r : Reach} {b0 : Nat} {v : Value} {d : DataW H} {p : List MemPlace}
theorem open_booP (hv : Value.okWide Try.prog w r b0 4 v) (h : DataW.Trod enc Try.prog w base spare held 4 v d p) : ∃ b : Bool, v = .bool b ∧ True := by
  obtain ⟨b, rfl, _, _⟩ := open_bool Try.underlying4 hv h
  exact ⟨b, rfl, trivial⟩
theorem c32 : Try.prog.cellsOf 45 = 8 := by kernel_rfl
theorem list8 {α : Type} {l : List α} (h : l.length = 8) : ∃ c0 c1 c2 c3 c4 c5 c6 c7, l = [c0, c1, c2, c3, c4, c5, c6, c7] := by
  match l, h with
  | [c0, c1, c2, c3, c4, c5, c6, c7], _ => exact ⟨c0, c1, c2, c3, c4, c5, c6, c7, rfl⟩
theorem trod_child {fuel : Nat} {x : DataW H × List MemPlace} {cs : List Value} (h : DataW.trod enc Try.prog w base spare held fuel 45 cs = some x) : ∃ q : Ch, cs = chl q ∧ True := by
  obtain ⟨xs, n, _, _, hl, hxl, hf⟩ := DataW.trod_struct Try.underlying45 h
  rw [c32] at hl
  obtain ⟨c0, c1, c2, c3, c4, c5, c6, c7, rfl⟩ := list8 hl
  obtain ⟨u0, e0, f0⟩ := trod_atom (d := 4) (i := 0) (a := .int .i64) (by kernel_rfl) h
  obtain ⟨u1, e1, f1⟩ := trod_atom (d := 4) (i := 1) (a := .int .i64) (by kernel_rfl) h
  obtain ⟨u2, e2, f2⟩ := trod_atom (d := 4) (i := 2) (a := .int .i64) (by kernel_rfl) h
  obtain ⟨u3, e3, f3⟩ := trod_atom (d := 4) (i := 3) (a := .int .i64) (by kernel_rfl) h
  obtain ⟨u4, e4, f4⟩ := trod_atom (d := 4) (i := 4) (a := .int .i64) (by kernel_rfl) h
  obtain ⟨u5, e5, f5⟩ := trod_atom (d := 4) (i := 5) (a := .int .i64) (by kernel_rfl) h
  obtain ⟨u6, e6, f6⟩ := trod_atom (d := 4) (i := 6) (a := .bool) (by kernel_rfl) h
  obtain ⟨u7, e7, f7⟩ := trod_atom (d := 4) (i := 7) (a := .int .i64) (by kernel_rfl) h
  obtain ⟨n0, rfl, _⟩ := fits_i64 f0
  obtain ⟨n1, rfl, _⟩ := fits_i64 f1
  obtain ⟨n2, rfl, _⟩ := fits_i64 f2
  obtain ⟨n3, rfl, _⟩ := fits_i64 f3
  obtain ⟨n4, rfl, _⟩ := fits_i64 f4
  obtain ⟨n5, rfl, _⟩ := fits_i64 f5
  obtain ⟨n6, rfl⟩ := f6
  obtain ⟨n7, rfl, _⟩ := fits_i64 f7
  simp at e0 e1 e2 e3 e4 e5 e6 e7
  subst e0 e1 e2 e3 e4 e5 e6 e7
  exact ⟨⟨⟨n0, n1⟩, ⟨n2, n3⟩, ⟨n4, n5⟩, n6, n7⟩, rfl, trivial⟩
/-- A slice of children that came in. -/
structure Kids where
  a : Option Addr
  n : Nat
  c : Nat
  l : List Ch
def okK (w : World) (q : Kids) : Prop := CS w q.a q.n q.l ∧ (q.a = none → q.c = 0)
theorem open_kids (hv : Value.okWide Try.prog w r b0 113 v) (h : DataW.Trod enc Try.prog w base spare held 113 v d p) : ∃ q : Kids, v = .slice q.a q.n q.c ∧ okK w q := by
  obtain ⟨a, n, c, l, rfl, h1, _, _, h2⟩ := open_list chl (fun _ => True) zeroC Try.underlying113 c32 (by omega) chl_length (fun _ _ _ hx => trod_child hx) hv h
  exact ⟨⟨a, n, c, l⟩, rfl, h1, h2⟩
/-- A slice of uint16 that came in. -/
structure Us where
  a : Option Addr
  n : Nat
  c : Nat
  l : List Int
def okU (w : World) (q : Us) : Prop := KS .u16 w q.a q.n q.l ∧ ∀ z ∈ q.l, 0 ≤ z ∧ z ≤ 65535
end
end Go.Proofs.Yteplmjgohnbpbaa

/- Contracts of the law package's Of and Is; no conditions beyond those written in each theorem. -/
namespace Go.Proofs.Yteplmjgohnbpbaa
open Go.ChangeShapes Go.WideShapes Go.ChangeAt Go.RowKit
set_option maxRecDepth 100000
set_option linter.unusedVariables false
theorem chOf_any (c : Ch) (w : World) : Calls Try.prog 13 #[chv c] w fun e w' => e = .returned (chv c) ∧ Seen w w' := by
  obtain ⟨⟨tp, tn⟩, ⟨bp, bn⟩, ⟨ip, inn⟩, thr, hi⟩ := c
  go_enter Try.func13, Try.ntmps13
  go_wp2_with fail
  go_returns
  exact ⟨rfl, by unfold Seen; go_grown⟩
theorem neq_st (w : World) (a b : Int) : (binOp .neq 43 (.agg #[.int .i64 a, .int .i64 b]) (.agg #[.int .i64 a, .int .i64 b])).run Try.prog w = .ok (.bool false) w := by go_simp
end Go.Proofs.Yteplmjgohnbpbaa
