/- Texts of the proof, merged: RefFor. -/
import Derived.Test.YteplmjgohnbpbaaM22
import Derived.Deep.DeepCutAuto
/- Contract of the reference's For; no conditions beyond those written in each theorem. -/
namespace Go.Proofs.Yteplmjgohnbpbaa
open Go.ChangeShapes Go.WideShapes Go.ChangeAt Go.RowKit
set_option maxRecDepth 100000
set_option linter.unusedVariables false
/-- The width that is asked, as a number. -/
def wN (b : Bx) (s : Sz) : Int := if s.au then b.base - b.ar - orV b.lf 0 - orV b.rt 0 else s.n
/-- What results for it, as the reference has it. -/
def refI (b : Bx) (la ra : Bool) (L R n : Int) : O3 :=
  if la && ra then ⟨halfI (b.base - b.ar - n), n, (b.base - b.ar - n) - halfI (b.base - b.ar - n)⟩
  else if la || (!ra && b.rtl) then ⟨b.base - b.ar - n - R, n, R⟩ else ⟨L, n, b.base - b.ar - n - L⟩
def stay (b : Bx) (s : Sz) : Bool := !s.au && !decide (orV b.lf 0 + b.ar + wN b s + orV b.rt 0 > b.base)
def refAO (b : Bx) (s : Sz) : O3 := if fitsB (wN b s) then refI b (stay b s && b.lf.au) (stay b s && b.rt.au) (orV b.lf 0) (orV b.rt 0) (wN b s) else zO
def refB (b : Bx) (s : Sz) : Bool := fitsB (wN b s) && fitsB (refAO b s).l && fitsB (refAO b s).r
/-- The worlds of the reference's For: its boxes, and l and r in the blocks A and B. -/
structure FS (w0 : World) (b : Bx) (A B : Nat) (s l r : Sz) (wx : World) : Prop where
  kb : Blk wx w0.heap.size (bxl b) 36
  ks : Blk wx (w0.heap.size + 1) [.bool s.au, .int .i64 s.n] 34
  ko : Blk wx (w0.heap.size + 1 + 1) [.int .i64 0, .int .i64 0, .int .i64 0] 31
  ka : Blk wx A [.bool l.au, .int .i64 l.n] 34
  kr : Blk wx B [.bool r.au, .int .i64 r.n] 34
  hA : w0.heap.size + 1 + 1 < A
  hB : w0.heap.size + 1 + 1 < B
  ne : A ≠ B
  seen : Seen w0 wx
theorem FS.next {w0 : World} {b : Bx} {A B : Nat} {s l r : Sz} {wx wy : World} (h : FS w0 b A B s l r wx) (k : Seen wx wy) : FS w0 b A B s l r wy :=
  ⟨h.kb.seen k, h.ks.seen k, h.ko.seen k, h.ka.seen k, h.kr.seen k, h.hA, h.hB, h.ne, h.seen.trans k⟩
theorem Blk.two {w : World} {B : Nat} {t : TypeId} {x y : Value} (h : Blk w B [x, y] t) (u v : Value) : Blk ((w.setCell ⟨B, 0, none⟩ u).setCell ⟨B, 1, none⟩ v) B [u, v] t := (h.set 0 u).set 1 v
theorem Blk.oth2 {w : World} {B C : Nat} {t : TypeId} {l : List Value} (h : Blk w B l t) (hn : C ≠ B) (u v : Value) : Blk ((w.setCell ⟨C, 0, none⟩ u).setCell ⟨C, 1, none⟩ v) B l t := (h.other (p := ⟨C, 0, none⟩) hn u).other (p := ⟨C, 1, none⟩) hn v
theorem Seen.set2 {W w' : World} {A : Nat} {x y : Value} (h : Seen W w') (hA : W.heap.size ≤ A) : Seen W ((w'.setCell ⟨A, 0, none⟩ x).setCell ⟨A, 1, none⟩ y) := (Below.setCell h hA _).setCell hA _
theorem FS.setL {w0 : World} {b : Bx} {A B : Nat} {s l r : Sz} {wx : World} (h : FS w0 b A B s l r wx) (x : Bool) (n : Int) : FS w0 b A B s ⟨x, n⟩ r ((wx.setCell ⟨A, 0, none⟩ (.bool x)).setCell ⟨A, 1, none⟩ (.int .i64 n)) := by
  have h1 := h.hA
  have h2 := h.ne
  exact ⟨h.kb.oth2 (by omega) _ _, h.ks.oth2 (by omega) _ _, h.ko.oth2 (by omega) _ _, h.ka.two _ _, h.kr.oth2 h2 _ _, h.hA, h.hB, h.ne, h.seen.set2 (by omega)⟩
theorem FS.setR {w0 : World} {b : Bx} {A B : Nat} {s l r : Sz} {wx : World} (h : FS w0 b A B s l r wx) (x : Bool) (n : Int) : FS w0 b A B s l ⟨x, n⟩ ((wx.setCell ⟨B, 0, none⟩ (.bool x)).setCell ⟨B, 1, none⟩ (.int .i64 n)) := by
  have h1 := h.hB
  have h2 := h.ne
  exact ⟨h.kb.oth2 (by omega) _ _, h.ks.oth2 (by omega) _ _, h.ko.oth2 (by omega) _ _, h.ka.oth2 (Ne.symm h2) _ _, h.kr.two _ _, h.hA, h.hB, h.ne, h.seen.set2 (by omega)⟩
theorem FS.setS {w0 : World} {b : Bx} {A B : Nat} {s l r : Sz} {wx : World} (h : FS w0 b A B s l r wx) (x : Bool) (n : Int) : FS w0 b A B ⟨x, n⟩ l r ((wx.setCell ⟨w0.heap.size + 1, 0, none⟩ (.bool x)).setCell ⟨w0.heap.size + 1, 1, none⟩ (.int .i64 n)) := by
  have h1 := h.hB
  have h2 := h.hA
  exact ⟨h.kb.oth2 (by omega) _ _, h.ks.two _ _, h.ko.oth2 (by omega) _ _, h.ka.oth2 (by omega) _ _, h.kr.oth2 (by omega) _ _, h.hA, h.hB, h.ne, h.seen.set2 (by omega)⟩
/-- The cells, as rules for every later world. -/
theorem FS.rules {w0 : World} {b : Bx} {A B : Nat} {s l r : Sz} {wx : World} (h : FS w0 b A B s l r wx) : ∀ w', Seen wx w' →
    (w'.cell? ⟨A, 0, none⟩ = some (.bool l.au) ∧ w'.cell? ⟨A, 1, none⟩ = some (.int .i64 l.n) ∧ (∀ o, w'.frozen? ⟨A, o, none⟩ = false)) ∧ (w'.cell? ⟨B, 0, none⟩ = some (.bool r.au) ∧ w'.cell? ⟨B, 1, none⟩ = some (.int .i64 r.n) ∧ (∀ o, w'.frozen? ⟨B, o, none⟩ = false))
    ∧ (w'.cell? ⟨w0.heap.size + 1, 0, none⟩ = some (.bool s.au) ∧ w'.cell? ⟨w0.heap.size + 1, 1, none⟩ = some (.int .i64 s.n) ∧ (∀ o, w'.frozen? ⟨w0.heap.size + 1, o, none⟩ = false)) :=
  fun w' k => ⟨h.ka.rules2 w' k, h.kr.rules2 w' k, h.ks.rules2 w' k⟩
theorem fitsB_iff {n : Int} : fitsB n = true ↔ -1125899906842624 ≤ n ∧ n ≤ 1125899906842624 := by unfold fitsB; simp
theorem okF_parts {b : Bx} (h : okF b = true) : (-1125899906842624 ≤ b.base ∧ b.base ≤ 1125899906842624) ∧ (-1125899906842624 ≤ b.ar ∧ b.ar ≤ 1125899906842624) ∧ (-1125899906842624 ≤ orV b.lf 0 ∧ orV b.lf 0 ≤ 1125899906842624) ∧ (-1125899906842624 ≤ orV b.rt 0 ∧ orV b.rt 0 ≤ 1125899906842624) := by
  unfold okF at h
  simp only [Bool.and_eq_true, fitsB_iff] at h
  exact ⟨h.1.1.1, h.1.1.2, h.1.2, h.2⟩
theorem w64 {n : Int} (h1 : -9223372036854775808 ≤ n) (h2 : n ≤ 9223372036854775807) : wrap64 n = n := by unfold wrap64; omega
theorem wi64 {n : Int} (h1 : -9223372036854775808 ≤ n) (h2 : n ≤ 9223372036854775807) : IntKind.i64.wrap n = n := IntWalk.i64_in _ (by omega)
theorem sz_false {s : Sz} (h : s.au = false) : s = ⟨false, s.n⟩ := by obtain ⟨a, n⟩ := s; simp only at h; subst h; rfl
end Go.Proofs.Yteplmjgohnbpbaa
