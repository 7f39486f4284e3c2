/- Plain mathematics of layer 13 (what results for a width; what is solved) and the values of its structs; no conditions. -/
import Derived.Test.YtimnhognjkgohaaBase
import Derived.Test.YtimnhognjkgohaaBlk
namespace Go.Proofs.Ytimnhognjkgohaa
open Go.ChangeShapes Go.WideShapes Go.ChangeAt Go.RowKit
set_option maxRecDepth 100000
/-- A size: auto, or a number. -/
structure Sz where
  au : Bool
  n : Int
deriving DecidableEq
abbrev szv (s : Sz) : Value := .agg #[.bool s.au, .int .i64 s.n]
def orV (s : Sz) (n : Int) : Int := if s.au then n else s.n
/-- What is known of a box. -/
structure Bx where
  base : Int
  lf : Sz
  wd : Sz
  rt : Sz
  ar : Int
  rtl : Bool
  lo : Int
  hi : Int
abbrev bxl (b : Bx) : List Value := [.int .i64 b.base, .bool b.lf.au, .int .i64 b.lf.n, .bool b.wd.au, .int .i64 b.wd.n, .bool b.rt.au, .int .i64 b.rt.n, .int .i64 b.ar, .bool b.rtl, .int .i64 b.lo, .int .i64 b.hi]
abbrev bxv (b : Bx) : Value := .agg #[.int .i64 b.base, .bool b.lf.au, .int .i64 b.lf.n, .bool b.wd.au, .int .i64 b.wd.n, .bool b.rt.au, .int .i64 b.rt.n, .int .i64 b.ar, .bool b.rtl, .int .i64 b.lo, .int .i64 b.hi]
/-- Three numbers. -/
structure O3 where
  l : Int
  w : Int
  r : Int
abbrev o3l (o : O3) : List Value := [.int .i64 o.l, .int .i64 o.w, .int .i64 o.r]
abbrev o3v (o : O3) : Value := .agg #[.int .i64 o.l, .int .i64 o.w, .int .i64 o.r]
def zO : O3 := ⟨0, 0, 0⟩
/-- Which margins take the rest t. -/
def tkL (b : Bx) (t : Int) : Bool := if t < 0 then b.rtl else if b.lf.au = false ∧ b.rt.au = false then b.rtl else b.lf.au
def tkR (b : Bx) (t : Int) : Bool := if t < 0 then !b.rtl else if b.lf.au = false ∧ b.rt.au = false then !b.rtl else b.rt.au
/-- What results for the width s, the rest being t. -/
def fillR (b : Bx) (s : Sz) (t : Int) : O3 :=
  if s.au then ⟨orV b.lf 0, t, orV b.rt 0⟩
  else if tkL b t then (if tkR b t then ⟨halfI t, orV s 0, wrap64 (t - halfI t)⟩ else ⟨wrap64 (orV b.lf 0 + t), orV s 0, orV b.rt 0⟩)
  else ⟨orV b.lf 0, orV s 0, wrap64 (orV b.rt 0 + t)⟩
/-- The rest, as int64 has it. -/
def restW (b : Bx) (s : Sz) : Int := wrap64 (wrap64 (wrap64 (wrap64 (b.base - b.ar) - orV b.lf 0) - orV s 0) - orV b.rt 0)
def fillW (b : Bx) (s : Sz) : O3 := fillR b s (restW b s)
def fitO (o : O3) : Bool := fitsB o.l && fitsB o.w && fitsB o.r
def tryB (b : Bx) (s : Sz) : Bool := fitO (fillW b s)
def tryO (b : Bx) (s : Sz) : O3 := if tryB b s then fillW b s else zO
def tryN (b : Bx) (s : Sz) : Int := if tryB b s then (fillW b s).w else 0
/-- All that is given fits (the width is a result). -/
def okF (b : Bx) : Bool := fitsB b.base && fitsB b.ar && fitsB (orV b.lf 0) && fitsB (orV b.rt 0)
/-- The width that is tried in place of s. -/
def nextHi (b : Bx) (s : Sz) : Sz := if tryB b s = true ∧ b.hi < (fillW b s).w then ⟨false, b.hi⟩ else s
def nextLo (b : Bx) (s : Sz) : Sz := if tryB b s = true ∧ (fillW b s).w < b.lo then ⟨false, b.lo⟩ else s
def lastS (b : Bx) : Sz := nextLo b (nextHi b b.wd)
def solB (b : Bx) : Bool := okF b && tryB b (lastS b)
def solO (b : Bx) : O3 := if solB b then fillW b (lastS b) else zO
theorem or_any (s : Sz) (n : Int) (w : World) :
    Calls Try.prog 17 #[szv s, .int .i64 n] w fun e w' => e = .returned (.int .i64 (orV s n)) ∧ Below w.heap.size w w' := by
  obtain ⟨a, m⟩ := s
  cases a
  all_goals
    go_enter Try.func17, Try.ntmps17
    go_wp2
    go_ret
    exact ⟨rfl, by go_grown⟩
theorem refOr_any (s : Sz) (n : Int) (w : World) :
    Calls Try.prog 13 #[szv s, .int .i64 n] w fun e w' => e = .returned (.int .i64 (orV s n)) ∧ Below w.heap.size w w' := by
  obtain ⟨a, m⟩ := s
  cases a
  all_goals
    go_enter Try.func13, Try.ntmps13
    go_wp2
    go_ret
    exact ⟨rfl, by go_grown⟩
theorem fits_eq (n : Int) (w : World) : Calls Try.prog 16 #[.int .i64 n] w fun e w' => e = .returned (.bool (fitsB n)) ∧ w' = w := (fits_any n w).mono fun _ _ h => ⟨h.1, h.2.symm⟩
theorem refFits_eq (n : Int) (w : World) : Calls Try.prog 14 #[.int .i64 n] w fun e w' => e = .returned (.bool (fitsB n)) ∧ w' = w := (refFits_any n w).mono fun _ _ h => ⟨h.1, h.2.symm⟩
theorem half_eq (n : Int) (w : World) : Calls Try.prog 24 #[.int .i64 n] w fun e w' => e = .returned (.int .i64 (halfI n)) ∧ w' = w := (half_any n w).mono fun _ _ h => ⟨h.1, h.2.symm⟩
theorem Blk.rules3 {w : World} {B : Nat} {t : TypeId} {x y z : Value} (h : Blk w B [x, y, z] t) : ∀ w', Seen w w' → w'.cell? ⟨B, 0, none⟩ = some x ∧ w'.cell? ⟨B, 1, none⟩ = some y ∧ w'.cell? ⟨B, 2, none⟩ = some z ∧ (∀ o, w'.frozen? ⟨B, o, none⟩ = false) :=
  fun _ hs => ⟨(h.seen hs).cell 0, (h.seen hs).cell 1, (h.seen hs).cell 2, (h.seen hs).free⟩
theorem ld28 {w : World} {A : Nat} {l m r : Int} (h : Blk w A [.int .i64 l, .int .i64 m, .int .i64 r] 28) : (Instr.loadAt 28 (.pointer (some ⟨A, 0, none⟩))).run Try.prog w = .ok (.agg #[.int .i64 l, .int .i64 m, .int .i64 r]) w := by
  have ra := h.rules3 _ (Seen.refl _)
  go_simp
theorem st28 {w : World} {A : Nat} {x y z : Value} (l m r : Int) (h : Blk w A [x, y, z] 28) : (Instr.storeAt 28 (.pointer (some ⟨A, 0, none⟩)) (.agg #[.int .i64 l, .int .i64 m, .int .i64 r])).run Try.prog w = .ok () (((w.setCell ⟨A, 0, none⟩ (.int .i64 l)).setCell ⟨A, 1, none⟩ (.int .i64 m)).setCell ⟨A, 2, none⟩ (.int .i64 r)) := by
  have ra := h.rules3 _ (Seen.refl _)
  go_simp
theorem ld31 {w : World} {A : Nat} {l m r : Int} (h : Blk w A [.int .i64 l, .int .i64 m, .int .i64 r] 31) : (Instr.loadAt 31 (.pointer (some ⟨A, 0, none⟩))).run Try.prog w = .ok (.agg #[.int .i64 l, .int .i64 m, .int .i64 r]) w := by
  have ra := h.rules3 _ (Seen.refl _)
  go_simp
theorem st31 {w : World} {A : Nat} {x y z : Value} (l m r : Int) (h : Blk w A [x, y, z] 31) : (Instr.storeAt 31 (.pointer (some ⟨A, 0, none⟩)) (.agg #[.int .i64 l, .int .i64 m, .int .i64 r])).run Try.prog w = .ok () (((w.setCell ⟨A, 0, none⟩ (.int .i64 l)).setCell ⟨A, 1, none⟩ (.int .i64 m)).setCell ⟨A, 2, none⟩ (.int .i64 r)) := by
  have ra := h.rules3 _ (Seen.refl _)
  go_simp
theorem ldk0 {w : World} {A : Nat} {t : TypeId} {l m r : Int} (h : Blk w A [.int .i64 l, .int .i64 m, .int .i64 r] t) : (Instr.loadAt 2 (.pointer (some ⟨A, 0, none⟩))).run Try.prog w = .ok (.int .i64 l) w := by
  have ra := h.rules3 _ (Seen.refl _)
  go_simp
theorem ldk1 {w : World} {A : Nat} {t : TypeId} {l m r : Int} (h : Blk w A [.int .i64 l, .int .i64 m, .int .i64 r] t) : (Instr.loadAt 2 (.pointer (some ⟨A, 1, none⟩))).run Try.prog w = .ok (.int .i64 m) w := by
  have ra := h.rules3 _ (Seen.refl _)
  go_simp
theorem ldk2 {w : World} {A : Nat} {t : TypeId} {l m r : Int} (h : Blk w A [.int .i64 l, .int .i64 m, .int .i64 r] t) : (Instr.loadAt 2 (.pointer (some ⟨A, 2, none⟩))).run Try.prog w = .ok (.int .i64 r) w := by
  have ra := h.rules3 _ (Seen.refl _)
  go_simp
theorem Blk.rulesB {w : World} {B : Nat} {t : TypeId} {b : Bx} (h : Blk w B (bxl b) t) : ∀ w', Seen w w' → w'.cell? ⟨B, 0, none⟩ = some (.int .i64 b.base) ∧ w'.cell? ⟨B, 1, none⟩ = some (.bool b.lf.au) ∧ w'.cell? ⟨B, 2, none⟩ = some (.int .i64 b.lf.n) ∧ w'.cell? ⟨B, 3, none⟩ = some (.bool b.wd.au) ∧ w'.cell? ⟨B, 4, none⟩ = some (.int .i64 b.wd.n) ∧ w'.cell? ⟨B, 5, none⟩ = some (.bool b.rt.au) ∧ w'.cell? ⟨B, 6, none⟩ = some (.int .i64 b.rt.n) ∧ w'.cell? ⟨B, 7, none⟩ = some (.int .i64 b.ar) ∧ w'.cell? ⟨B, 8, none⟩ = some (.bool b.rtl) ∧ w'.cell? ⟨B, 9, none⟩ = some (.int .i64 b.lo) ∧ w'.cell? ⟨B, 10, none⟩ = some (.int .i64 b.hi) ∧ (∀ o, w'.frozen? ⟨B, o, none⟩ = false) :=
  fun _ hs => ⟨(h.seen hs).cell 0, (h.seen hs).cell 1, (h.seen hs).cell 2, (h.seen hs).cell 3, (h.seen hs).cell 4, (h.seen hs).cell 5, (h.seen hs).cell 6, (h.seen hs).cell 7, (h.seen hs).cell 8, (h.seen hs).cell 9, (h.seen hs).cell 10, (h.seen hs).free⟩
theorem Seen.drewN {W w : World} (h : Seen W w) (n : Nat) : Seen W (w.drewN n) := by
  induction n with
  | zero => exact h
  | succ n ih => exact ih.drew
set_option maxHeartbeats 1000000 in
theorem takers_any (b : Bx) (t : Int) (w : World) :
    Calls Try.prog 23 #[bxv b, .int .i64 t] w fun e w' => e = .returned (.tuple #[.bool (tkL b t), .bool (tkR b t)]) ∧ Below w.heap.size w w' := by
  obtain ⟨base, ⟨la, ln⟩, ⟨wa, wn⟩, ⟨ra, rn⟩, ar, rtl, lo, hi⟩ := b
  obtain ⟨xl, hxl⟩ : ∃ x, tkL ⟨base, ⟨la, ln⟩, ⟨wa, wn⟩, ⟨ra, rn⟩, ar, rtl, lo, hi⟩ t = x := ⟨_, rfl⟩
  obtain ⟨xr, hxr⟩ : ∃ x, tkR ⟨base, ⟨la, ln⟩, ⟨wa, wn⟩, ⟨ra, rn⟩, ar, rtl, lo, hi⟩ t = x := ⟨_, rfl⟩
  rw [hxl, hxr]
  have HL : Hid ((if t < 0 then rtl else if la = false ∧ ra = false then rtl else la) = xl) := hxl
  have HR : Hid ((if t < 0 then !rtl else if la = false ∧ ra = false then !rtl else ra) = xr) := hxr
  clear hxl hxr
  by_cases ht : t < 0
  · rw [if_pos ht] at HL HR
    go_enter Try.func23, Try.ntmps23
    go_wp2_with fail
    go_quiet (fail)
    go_wp2_with fail
    go_returns
    exact ⟨by rw [← HL.out, ← HR.out]; rfl, Seen.drewN (by unfold Seen; go_grown) _⟩
  · rw [if_neg ht] at HL HR
    cases la <;> cases ra
    all_goals
      simp only [reduceCtorEq, and_self, and_false, false_and, if_true, if_false] at HL HR
      go_enter Try.func23, Try.ntmps23
      go_wp2_with fail
      go_quiet (fail)
      go_wp2_with fail
      go_returns
      exact ⟨by rw [← HL.out, ← HR.out]; rfl, Seen.drewN (by unfold Seen; go_grown) _⟩
end Go.Proofs.Ytimnhognjkgohaa
