/- Plain facts on lists of integers and on a slice of int64 in memory: what the sum contracts speak of. -/
import Derived.Test.YtlnnaegmcopiiaaBase
import Derived.Below
namespace Go.Proofs.Ytlnnaegmcopiiaa
open Go.ChangeShapes Go.WideShapes Go.ChangeAt Go.RowKit
set_option maxRecDepth 100000

def isum : List Int → Int
  | [] => 0
  | x :: r => x + isum r

theorem isum_append (a b : List Int) : isum (a ++ b) = isum a + isum b := by
  induction a with
  | nil => simp [isum]
  | cons x r ih => simp only [List.cons_append, isum, ih]; omega

theorem isum_reverse (a : List Int) : isum a.reverse = isum a := by
  induction a with
  | nil => rfl
  | cons x r ih => rw [List.reverse_cons, isum_append, ih]; simp only [isum]; omega

/-- The element at k (0 beyond the end), under a name of its own. -/
def zat (zs : List Int) (k : Nat) : Int := zs.getD k 0
theorem zat_eq {zs : List Int} {k : Nat} (h : k < zs.length) : zat zs k = zs[k] := by unfold zat; simp [h]

theorem isum_take_succ (zs : List Int) (k : Nat) (h : k < zs.length) : isum (zs.take (k + 1)) = isum (zs.take k) + zat zs k := by
  have e : zs.take (k + 1) = zs.take k ++ [zat zs k] := by
    rw [List.take_succ_eq_append_getElem h, zat_eq h]
  rw [e, isum_append]; simp [isum]

theorem isum_bound (zs : List Int) (h : zs.all fitsB = true) : -(zs.length * 1125899906842624 : Int) ≤ isum zs ∧ isum zs ≤ (zs.length * 1125899906842624 : Int) := by
  induction zs with
  | nil => simp [isum]
  | cons x r ih =>
    rw [List.all_cons, Bool.and_eq_true] at h
    have h1 := ih h.2
    have h2 : -1125899906842624 ≤ x ∧ x ≤ 1125899906842624 := by have := h.1; unfold fitsB at this; simpa using this
    simp only [isum, List.length_cons]
    omega

/-- What Sum returns of a list: the sum and true where each element and the sum fit, else 0 and false. -/
def sumB (zs : List Int) : Bool := zs.all fitsB && fitsB (isum zs)
def sumN (zs : List Int) : Int := if sumB zs then isum zs else 0

theorem sumB_reverse (zs : List Int) : sumB zs.reverse = sumB zs := by
  unfold sumB; rw [isum_reverse, List.all_reverse]
theorem sumN_reverse (zs : List Int) : sumN zs.reverse = sumN zs := by
  unfold sumN; rw [sumB_reverse, isum_reverse]

theorem sum_bad {zs : List Int} {k : Nat} (hk : k < zs.length) (h : fitsB (zat zs k) = false) : sumN zs = 0 ∧ sumB zs = false := by
  have hB : sumB zs = false := by
    unfold sumB
    rw [Bool.and_eq_false_iff]
    left
    rw [List.all_eq_false]
    exact ⟨zat zs k, by rw [zat_eq hk]; exact List.getElem_mem hk, by rw [h]; decide⟩
  exact ⟨by unfold sumN; rw [hB]; rfl, hB⟩

theorem all_take_succ {zs : List Int} {k : Nat} (hk : k < zs.length) (h : (zs.take k).all fitsB = true) (h2 : fitsB (zat zs k) = true) : (zs.take (k + 1)).all fitsB = true := by
  have e : zs.take (k + 1) = zs.take k ++ [zat zs k] := by
    rw [List.take_succ_eq_append_getElem hk, zat_eq hk]
  rw [e, List.all_append, h]; simpa using h2

theorem sum_good {zs : List Int} (h : zs.all fitsB = true) (h2 : fitsB (isum zs) = true) : sumN zs = isum zs ∧ sumB zs = true := by
  have hB : sumB zs = true := by unfold sumB; rw [h, h2]; rfl
  exact ⟨by unfold sumN; rw [hB]; rfl, hB⟩
theorem sum_great {zs : List Int} (h2 : fitsB (isum zs) = false) : sumN zs = 0 ∧ sumB zs = false := by
  have hB : sumB zs = false := by unfold sumB; rw [h2, Bool.and_false]
  exact ⟨by unfold sumN; rw [hB]; rfl, hB⟩

/-- A slice of int64, nil let in, that reads as the list zs. -/
def ZI (w : World) (a : Option Addr) (n : Nat) (zs : List Int) : Prop :=
  zs.length = n ∧ (0 < n → ∃ b off, a = some ⟨b, off, none⟩ ∧ ∀ i, i < n → w.cell? ⟨b, off + i, none⟩ = some (.int .i64 (zat zs i)))
end Go.Proofs.Ytlnnaegmcopiiaa
