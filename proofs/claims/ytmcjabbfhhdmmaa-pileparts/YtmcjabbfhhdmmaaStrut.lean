/- Contracts of package strut, of its reference twins and of the law package's own check, over the translation of this seat; no conditions beyond those written in each theorem. -/
import Derived.Test.YtmcjabbfhhdmmaaSums
import Derived.Test.YtmcjabbfhhdmmaaBlk
namespace Go.Proofs.Ytmcjabbfhhdmmaa
open Go.ChangeShapes Go.WideShapes Go.ChangeAt Go.RowKit
set_option maxRecDepth 100000
/-- A strut. -/
structure St where
  p : Int
  n : Int
deriving DecidableEq
/-- Its value. -/
abbrev sv (s : St) : Value := .agg #[.int .i64 s.p, .int .i64 s.n]
def ofM (m : Int) : St := ⟨max m 0, min m 0⟩
def joinS (a b : St) : St := ⟨max a.p b.p, min a.n b.n⟩
theorem ret_st {a b c d : Int} (h : a = c) (h2 : b = d) : Ending.returned (.agg #[.int .i64 a, .int .i64 b]) = .returned (.agg #[.int .i64 c, .int .i64 d]) := by rw [h, h2]
theorem join_any (a b : St) (w : World) :
    Calls Try.prog 19 #[.agg #[.int .i64 a.p, .int .i64 a.n], .agg #[.int .i64 b.p, .int .i64 b.n]] w fun e w' => e = .returned (.agg #[.int .i64 (joinS a b).p, .int .i64 (joinS a b).n]) ∧ Below w.heap.size w w' := by
  have H := Lib.hid (show (joinS a b).p = max a.p b.p ∧ (joinS a b).n = min a.n b.n from ⟨rfl, rfl⟩)
  go_enter Try.func19, Try.ntmps19
  go_wp2
  all_goals
    go_returns
    exact ⟨ret_st (by rw [H.out.1]; omega) (by rw [H.out.2]; omega), by go_grown⟩
theorem refJoin_any (a b : St) (w : World) :
    Calls Try.prog 13 #[.agg #[.int .i64 a.p, .int .i64 a.n], .agg #[.int .i64 b.p, .int .i64 b.n]] w fun e w' => e = .returned (.agg #[.int .i64 (joinS a b).p, .int .i64 (joinS a b).n]) ∧ Below w.heap.size w w' := by
  have H := Lib.hid (show (joinS a b).p = max a.p b.p ∧ (joinS a b).n = min a.n b.n from ⟨rfl, rfl⟩)
  go_enter Try.func13, Try.ntmps13
  go_wp2
  all_goals
    go_returns
    exact ⟨ret_st (by rw [H.out.1]; omega) (by rw [H.out.2]; omega), by go_grown⟩
theorem zs_two (w : World) (a b : Int) (o : Obj) (t : TypeId) : ZS ((w.alloc o).alloc (.cells #[.int .i64 a, .int .i64 b] t)) (some ⟨w.heap.size + 1, 0, none⟩) 2 [a, b] := by
  have k : Blk ((w.alloc o).alloc (.cells #[.int .i64 a, .int .i64 b] t)) (w.heap.size + 1) [.int .i64 a, .int .i64 b] t := by simpa using Blk.new (w.alloc o) [.int .i64 a, .int .i64 b] t
  refine ⟨rfl, fun _ => ⟨_, _, rfl, fun i hi => ?_⟩⟩
  rcases (show i = 0 ∨ i = 1 by omega) with rfl | rfl
  · exact k.cell 0
  · exact k.cell 1
def valN (s : St) : Int := sumN [s.p, s.n]
def valB (s : St) : Bool := sumB [s.p, s.n]
theorem value_any (s : St) (w : World) :
    Calls Try.prog 22 #[.agg #[.int .i64 s.p, .int .i64 s.n]] w fun e w' => e = .returned (.tuple #[.int .i64 (valN s), .bool (valB s)]) ∧ Below w.heap.size w w' := by
  have h1 := Lib.hid (show sumN [s.p, s.n] = valN s from rfl)
  have h2 := Lib.hid (show sumB [s.p, s.n] = valB s from rfl)
  go_enter Try.func22, Try.ntmps22
  go_wp2_with (go_at_call 20; refine (sum_any _ _ _ [s.p, s.n] _ (zs_two w s.p s.n (.cells #[.int .i64 s.p, .int .i64 s.n] 30) 2) (by decide)).mono ?_; rintro e w' ⟨rfl, rfl⟩; rw [h1.out, h2.out])
  go_ret2
  exact ⟨rfl, by go_grown⟩
theorem refValue_any (s : St) (w : World) :
    Calls Try.prog 15 #[.agg #[.int .i64 s.p, .int .i64 s.n]] w fun e w' => e = .returned (.tuple #[.int .i64 (valN s), .bool (valB s)]) ∧ Below w.heap.size w w' := by
  have h1 := Lib.hid (show sumN [s.p, s.n] = valN s from rfl)
  have h2 := Lib.hid (show sumB [s.p, s.n] = valB s from rfl)
  go_enter Try.func15, Try.ntmps15
  go_wp2_with (go_at_call 16; refine (refSum_any _ _ _ [s.p, s.n] _ (zs_two w s.p s.n (.cells #[.int .i64 s.p, .int .i64 s.n] 26) 2) (by decide)).mono ?_; rintro e w' ⟨rfl, rfl⟩; rw [h1.out, h2.out])
  go_ret2
  exact ⟨rfl, by go_grown⟩
/-- Two struts are alike. -/
def eqS (a b : St) : Bool := decide (a.p = b.p ∧ a.n = b.n)
theorem eqS_self (a : St) : eqS a a = true := by simp [eqS]
theorem run_eql25 (w : World) (a n b m : Int) : (binOp .eql 30 (.agg #[.int .i64 a, .int .i64 n]) (.agg #[.int .i64 b, .int .i64 m])).run Try.prog w = .ok (.bool (eqS ⟨a, n⟩ ⟨b, m⟩)) w := by
  unfold eqS
  by_cases h1 : a = b
  · by_cases h2 : n = m
    · subst h1 h2; go_simp
    · subst h1; go_simp
  · go_simp
end Go.Proofs.Ytmcjabbfhhdmmaa
