/- Contracts of Least and Most, of the reference's Of, of the law package's own check, and how two sizes are compared; no conditions. -/
import Derived.Test.YtjgpajbibmfjlaaSize
namespace Go.Proofs.Ytjgpajbibmfjlaa
open Go.ChangeShapes Go.WideShapes Go.ChangeAt Go.RowKit
set_option maxRecDepth 100000
theorem least_any (k n b : Int) (has : Bool) (w : World) :
    Calls Try.prog 9 #[.agg #[.int .i64 k, .int .i64 n], .int .i64 b, .bool has] w fun e w' => e = .returned (.tuple #[.int .i64 (ofOrV k n b has 0), .bool (ofB k n b has)]) ∧ Below w.heap.size w w' := by
  go_enter Try.func9, Try.ntmps9
  go_wp2_with (go_at_call 20; refine (ofOr_any k n b has 0 _).mono ?_; rintro e w' ⟨rfl, hb⟩)
  go_ret2
  exact ⟨rfl, ((Seen.refl w).alloc _).next hb⟩
theorem most_any (k n b : Int) (has : Bool) (w : World) :
    Calls Try.prog 10 #[.agg #[.int .i64 k, .int .i64 n], .int .i64 b, .bool has] w fun e w' => e = .returned (.tuple #[.int .i64 (ofOrV k n b has 1125899906842624), .bool (ofB k n b has)]) ∧ Below w.heap.size w w' := by
  go_enter Try.func10, Try.ntmps10
  go_wp2_with (go_at_call 20; refine (ofOr_any k n b has 1125899906842624 _).mono ?_; rintro e w' ⟨rfl, hb⟩)
  go_ret2
  exact ⟨rfl, ((Seen.refl w).alloc _).next hb⟩
/-- Two sizes are alike. -/
def eqS (a b : Sz) : Bool := decide (a.au = b.au ∧ a.n = b.n)
theorem eqS_self (a : Sz) : eqS a a = true := by simp [eqS]
theorem run_eql26 (w : World) (a : Bool) (n : Int) (b : Bool) (m : Int) : (binOp .eql 26 (.agg #[.bool a, .int .i64 n]) (.agg #[.bool b, .int .i64 m])).run Try.prog w = .ok (.bool (eqS ⟨a, n⟩ ⟨b, m⟩)) w := by
  unfold eqS
  by_cases h1 : a = b
  · by_cases h2 : n = m
    · subst h1 h2; go_simp
    · subst h1; go_simp
  · go_simp
theorem run_neq26 (w : World) (a : Bool) (n : Int) (b : Bool) (m : Int) : (binOp .neq 26 (.agg #[.bool a, .int .i64 n]) (.agg #[.bool b, .int .i64 m])).run Try.prog w = .ok (.bool (!eqS ⟨a, n⟩ ⟨b, m⟩)) w := by
  unfold eqS
  by_cases h1 : a = b
  · by_cases h2 : n = m
    · subst h1 h2; go_simp
    · subst h1; go_simp
  · go_simp
theorem Seen.drewN {W w : World} (h : Seen W w) (n : Nat) : Seen W (w.drewN n) := by
  induction n with
  | zero => exact h
  | succ n ih => exact ih.drew
theorem refOf_any (k n b : Int) (has : Bool) (w : World) :
    Calls Try.prog 8 #[.agg #[.int .i64 k, .int .i64 n], .int .i64 b, .bool has] w fun e w' => e = .returned (.tuple #[.agg #[.bool (ofS k n b has).au, .int .i64 (ofS k n b has).n], .bool (ofB k n b has)]) ∧ Below w.heap.size w w' := by
  by_cases h0 : k = 0
  · subst h0
    go_enter Try.func8, Try.ntmps8
    go_wp2
    go_returns
    exact ⟨rfl, by go_grown⟩
  · by_cases h2 : k = 2
    · subst h2
      clear h0
      cases has
      · go_enter Try.func8, Try.ntmps8
        go_wp2
        go_returns
        exact ⟨rfl, by go_grown⟩
      · have HS := Lib.hid (show ofS 2 n b true = ⟨false, partN b n⟩ from rfl)
        have HB := Lib.hid (show ofB 2 n b true = partB b n from rfl)
        have HP := Lib.hid (partN_if b n)
        have rp := fun w => refPart_any b n w
        cases hp : partB b n with
        | true =>
          rw [hp] at HP HB rp
          clear hp
          go_enter Try.func8, Try.ntmps8
          go_wp2_with fail
          go_quiet (fail)
          go_wp2_with (go_at_call 19; refine (rp _).mono ?_; rintro e w' ⟨rfl, m, rfl⟩)
          go_returns
          exact ⟨by rw [HS.out, HB.out], by go_grown; exact Seen.drewN (show Seen w _ by unfold Seen; go_grown) _⟩
        | false =>
          rw [hp] at HP HB rp
          clear hp
          go_enter Try.func8, Try.ntmps8
          go_wp2_with fail
          go_quiet (fail)
          go_wp2_with (go_at_call 19; refine (rp _).mono ?_; rintro e w' ⟨rfl, m, rfl⟩)
          go_returns
          exact ⟨by rw [HS.out, HB.out, ← HP.out]; rfl, by go_grown; exact Seen.drewN (show Seen w _ by unfold Seen; go_grown) _⟩
    · by_cases h1 : k = 1
      · subst h1
        clear h0 h2
        have HS := Lib.hid (show ofS 1 n b has = ⟨false, fitN n⟩ from rfl)
        have HB := Lib.hid (show ofB 1 n b has = fitsB n from rfl)
        have HP := Lib.hid (show fitN n = if fitsB n then n else 0 from rfl)
        have rp : ∀ w, Calls Try.prog 18 #[.int .i64 n] w fun e w' => e = .returned (.bool (fitsB n)) ∧ w' = w := fun w => (refFits_any n w).mono fun _ _ h => ⟨h.1, h.2.symm⟩
        cases hp : fitsB n with
        | true =>
          rw [hp] at HP HB rp
          clear hp
          go_enter Try.func8, Try.ntmps8
          go_wp2_with fail
          go_quiet ((go_at_call 18; exact Calls.quiet_of_same (rp _)))
          go_wp2
          go_returns
          exact ⟨by rw [HS.out, HB.out, HP.out]; rfl, by go_grown; exact Seen.drewN (show Seen w _ by unfold Seen; go_grown) _⟩
        | false =>
          rw [hp] at HP HB rp
          clear hp
          go_enter Try.func8, Try.ntmps8
          go_wp2_with fail
          go_quiet ((go_at_call 18; exact Calls.quiet_of_same (rp _)))
          go_wp2
          go_returns
          exact ⟨by rw [HS.out, HB.out, HP.out]; rfl, by go_grown; exact Seen.drewN (show Seen w _ by unfold Seen; go_grown) _⟩
      · have HS := Lib.hid (show ofS k n b has = ⟨false, 0⟩ by unfold ofS; rw [if_neg h0, if_neg h1, if_neg h2])
        have HB := Lib.hid (show ofB k n b has = false by unfold ofB; rw [if_neg h0, if_neg h1, if_neg h2])
        go_enter Try.func8, Try.ntmps8
        go_wp2_with fail
        go_quiet (fail)
        go_wp2
        go_returns
        exact ⟨by rw [HS.out, HB.out], by go_grown; exact Seen.drewN (show Seen w _ by unfold Seen; go_grown) _⟩
theorem awake_any (w : World) : Calls Try.prog 6 #[] w fun e w' => e = .returned (.bool true) ∧ Below w.heap.size w w' := by
  have h1 : ofS 2 5000 7 true = ⟨false, 3⟩ := by decide
  have h2 : ofB 2 5000 7 true = true := by decide
  have oa := fun w => of_any 2 5000 7 true w
  rw [h1, h2] at oa
  clear h1 h2
  go_enter Try.func6, Try.ntmps6
  go_wp2_with (go_at_call 7; refine (oa _).mono ?_; rintro e w' ⟨rfl, hb⟩)
  go_ret
  exact ⟨rfl, Seen.alloc hb _⟩
end Go.Proofs.Ytjgpajbibmfjlaa
