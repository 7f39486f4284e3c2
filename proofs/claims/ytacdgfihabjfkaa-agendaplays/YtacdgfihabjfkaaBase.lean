/- Entries, how two are compared, and the contracts of the small functions that compare; no conditions beyond those written in each theorem. -/
import Derived.Test.YtacdgfihabjfkaaRows
import Derived.WalkKit
import Derived.ProofKit
import Derived.OpenShut
import Derived.Lib.Hide
import Derived.Handy
import Derived.Deep.QuietTactic
import Derived.BigQuiet
import Derived.BigRegion
import Derived.Deep.RegionHeld3
namespace Go.Proofs.Ytacdgfihabjfkaa
open Go.ChangeShapes Go.WideShapes Go.ChangeAt Go.RowKit

/-- An entry's three numbers. -/
structure E3 where
  k : Int
  t : Int
  n : Int
instance : Inhabited E3 := ⟨⟨0, 0, 0⟩⟩
/-- Two numbers compared. -/
def cI (a b : Int) : Int := if a < b then -1 else if b < a then 1 else 0
/-- The first of three numbers that is not zero. -/
def orI (a b c : Int) : Int := if a ≠ 0 then a else if b ≠ 0 then b else c
/-- Two entries compared. -/
def cmpE (a b : E3) : Int := orI (cI a.k b.k) (cI a.t b.t) (cI a.n b.n)
/-- One entry is ahead of another. -/
def ltE (a b : E3) : Bool := decide (a.k < b.k ∨ a.k = b.k ∧ (a.t < b.t ∨ a.t = b.t ∧ a.n < b.n))
theorem ret_bool {a b : Bool} (h : a = b) : Ending.returned (.bool a) = .returned (.bool b) := by rw [h]
theorem ret_int {a b : Int} (h : a = b) : Ending.returned (.int .i64 a) = .returned (.int .i64 b) := by rw [h]
theorem bool_iff {a b : Bool} (h : a = true ↔ b = true) : a = b := Bool.eq_iff_iff.2 h
theorem isNaN_any (a : Int) (w : World) : Calls Try.prog 29 #[.int .i64 a] w fun e w' => e = .returned (.bool false) ∧ w' = w := by
  go_enter Try.func29, Try.ntmps29
  go_wp2
  go_ret
  exact ⟨rfl, rfl⟩
theorem isNaN_any' (a : Int) (w : World) : Calls Try.prog 30 #[.int .i64 a] w fun e w' => e = .returned (.bool false) ∧ w' = w := by
  go_enter Try.func30, Try.ntmps30
  go_wp2
  go_ret
  exact ⟨rfl, rfl⟩
theorem cmp_any (a b : Int) (w : World) : Calls Try.prog 23 #[.int .i64 a, .int .i64 b] w fun e w' => e = .returned (.int .i64 (cI a b)) ∧ w' = w := by
  have H : Hid (cI a b = if a < b then -1 else if b < a then 1 else 0) := rfl
  go_enter Try.func23, Try.ntmps23
  go_wp2_with (go_at_call 29; refine (isNaN_any _ _).mono ?_; rintro e w' ⟨rfl, rfl⟩)
  all_goals
    go_ret
    exact ⟨ret_int (by rw [H.out]; split <;> (try split) <;> omega), rfl⟩
theorem cmp_any' (a b : Int) (w : World) : Calls Try.prog 24 #[.int .i64 a, .int .i64 b] w fun e w' => e = .returned (.int .i64 (cI a b)) ∧ w' = w := by
  have H : Hid (cI a b = if a < b then -1 else if b < a then 1 else 0) := rfl
  go_enter Try.func24, Try.ntmps24
  go_wp2_with (go_at_call 30; refine (isNaN_any' _ _).mono ?_; rintro e w' ⟨rfl, rfl⟩)
  all_goals
    go_ret
    exact ⟨ret_int (by rw [H.out]; split <;> (try split) <;> omega), rfl⟩
theorem or_any (g : Nat) (a b c : Int) (w : World) (h0 : w.cell? ⟨g, 0, none⟩ = some (.int .i64 a)) (h1 : w.cell? ⟨g, 1, none⟩ = some (.int .i64 b)) (h2 : w.cell? ⟨g, 2, none⟩ = some (.int .i64 c)) :
    Calls Try.prog 22 #[.slice (some ⟨g, 0, none⟩) 3 3] w fun e w' => e = .returned (.int .i64 (orI a b c)) ∧ w' = w := by
  have H : Hid (orI a b c = if a ≠ 0 then a else if b ≠ 0 then b else c) := rfl
  go_enter Try.func22, Try.ntmps22
  go_wp2
  refine wp_loop_rounds 4 ?_
  rw [rounds_succ]
  go_wp2
  · go_ret
    exact ⟨ret_int (by rw [H.out]; simp_all), rfl⟩
  rw [rounds_succ]
  go_wp2
  · go_ret
    exact ⟨ret_int (by rw [H.out]; simp_all), rfl⟩
  rw [rounds_succ]
  go_wp2
  · go_ret
    exact ⟨ret_int (by rw [H.out]; simp_all), rfl⟩
  rw [rounds_succ]
  go_wp2
  go_ret
  exact ⟨ret_int (by rw [H.out]; simp_all), rfl⟩
theorem refLess_any (a b : E3) (w : World) :
    Calls Try.prog 17 #[.agg #[.int .i64 a.k, .int .i64 a.t, .int .i64 a.n], .agg #[.int .i64 b.k, .int .i64 b.t, .int .i64 b.n]] w fun e w' => e = .returned (.bool (ltE a b)) ∧ Below w.heap.size w w' := by
  have H : Hid (ltE a b = decide (a.k < b.k ∨ a.k = b.k ∧ (a.t < b.t ∨ a.t = b.t ∧ a.n < b.n))) := rfl
  by_cases h1 : a.k = b.k
  · by_cases h2 : a.t = b.t
    all_goals
      have H1 := Lib.hid h1
      have H2 := Lib.hid h2
      go_enter Try.func17, Try.ntmps17
      go_wp2
      all_goals
        go_ret
        exact ⟨ret_bool (bool_iff (by rw [H.out]; have := H1.out; have := H2.out; simp <;> omega)), by go_grown⟩
  · have H1 := Lib.hid h1
    go_enter Try.func17, Try.ntmps17
    go_wp2
    all_goals
      go_ret
      exact ⟨ret_bool (bool_iff (by rw [H.out]; have := H1.out; simp <;> omega)), by go_grown⟩
end Go.Proofs.Ytacdgfihabjfkaa
