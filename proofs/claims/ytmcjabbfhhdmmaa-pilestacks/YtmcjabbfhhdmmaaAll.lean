/- Margins that meet, as mathematics, and the contract of the reference's All; no conditions beyond those written in each theorem. -/
import Derived.Test.YtmcjabbfhhdmmaaArgs
namespace Go.Proofs.Ytmcjabbfhhdmmaa
open Go.ChangeShapes Go.WideShapes Go.ChangeAt Go.RowKit
set_option maxRecDepth 100000
set_option linter.unusedVariables false
/-- The greatest above 0, the least below it. -/
def mx : List Int → Int
  | [] => 0
  | x :: r => max x (mx r)
def mn : List Int → Int
  | [] => 0
  | x :: r => min x (mn r)
theorem mx_pos (l : List Int) : 0 ≤ mx l := by
  induction l with
  | nil => exact Int.le_refl _
  | cons x r ih => simp only [mx]; omega
theorem mn_neg (l : List Int) : mn l ≤ 0 := by
  induction l with
  | nil => exact Int.le_refl _
  | cons x r ih => simp only [mn]; omega
theorem mx_append (a b : List Int) : mx (a ++ b) = max (mx a) (mx b) := by
  have hb := mx_pos b
  induction a with
  | nil => simp only [List.nil_append, mx]; omega
  | cons x r ih => simp only [List.cons_append, mx, ih]; omega
theorem mn_append (a b : List Int) : mn (a ++ b) = min (mn a) (mn b) := by
  have hb := mn_neg b
  induction a with
  | nil => simp only [List.nil_append, mn]; omega
  | cons x r ih => simp only [List.cons_append, mn, ih]; omega
def allS (l : List Int) : St := ⟨mx l, mn l⟩
theorem all_append (a b : List Int) : allS (a ++ b) = joinS (allS a) (allS b) := by
  unfold allS joinS
  rw [mx_append, mn_append]
theorem all_one (m : Int) : allS [m] = ofM m := rfl
theorem joinS_comm (a b : St) : joinS b a = joinS a b := by
  unfold joinS
  rw [show max b.p a.p = max a.p b.p by omega, show min b.n a.n = min a.n b.n by omega]
theorem take_one {zs : List Int} {k : Nat} (h : k < zs.length) : zs.take (k + 1) = zs.take k ++ [zat zs k] := by
  rw [List.take_succ_eq_append_getElem h, zat_eq h]
theorem mx_next {zs : List Int} {k : Nat} (h : k < zs.length) : mx (zs.take (k + 1)) = max (mx (zs.take k)) (zat zs k) := by
  have := mx_pos (zs.take k)
  rw [take_one h, mx_append]
  simp only [mx]; omega
theorem mn_next {zs : List Int} {k : Nat} (h : k < zs.length) : mn (zs.take (k + 1)) = min (mn (zs.take k)) (zat zs k) := by
  have := mn_neg (zs.take k)
  rw [take_one h, mn_append]
  simp only [mn]; omega
theorem Blk.int2 {w : World} {B : Nat} {a b c d : Int} {t : TypeId} (h : Blk w B [.int .i64 a, .int .i64 b] t) (h1 : a = c) (h2 : b = d) : Blk w B [.int .i64 c, .int .i64 d] t := by
  subst h1 h2; exact h
theorem heap_drewN (w : World) (n : Nat) : (w.drewN n).heap = w.heap := by
  induction n with
  | zero => rfl
  | succ n ih => exact ih
theorem Blk.drewN {w : World} {B : Nat} {l : List Value} {t : TypeId} (h : Blk w B l t) (n : Nat) : Blk (w.drewN n) B l t := by
  unfold Blk; rw [heap_drewN]; exact h
theorem below_drewN {b : Nat} {w v : World} (h : Below b w v) (n : Nat) : Below b w (v.drewN n) := by
  induction n with
  | zero => exact h
  | succ n ih => exact ih.drew
end Go.Proofs.Ytmcjabbfhhdmmaa
