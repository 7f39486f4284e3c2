/- Contract of the law's own awake; no conditions beyond those written in each theorem. -/
import Derived.Test.YthphmhcgnkoigaaBuild
import Derived.Test.YthphmhcgnkoigaaCheckT
import Derived.Test.YthphmhcgnkoigaaSame
import Derived.Test.YthphmhcgnkoigaaAwake
namespace Go.Proofs.Ythphmhcgnkoigaa
open Go.ChangeShapes Go.WideShapes Go.ChangeAt Go.RowKit
set_option maxRecDepth 100000
/-- The node that the law's awake makes. -/
def plainN (p : Int) : Nd := ⟨plainK 4, p, plain_full (Nat.le_refl 4)⟩
theorem plain_tree : formedT [plainN (-1)] = true := by
  refine decide_eq_true ⟨by decide, fun i hi => ?_⟩
  obtain rfl : i = 0 := by simpa using hi
  exact ⟨(okAt0 _).2 rfl, plain_formed⟩
theorem check_nil : checkT [] = 2 := check2 (decide_eq_false fun h => by have := h.1; simp at this)
set_option maxHeartbeats 4000000 in
theorem awakeT_any (w : World) : Calls Try.prog 8 #[] w fun e w' => e = .returned (.bool true) ∧ Below w.heap.size w w' := by
  have HCN : Hid (∀ w', Calls Try.prog 11 #[.slice none 0 0] w' fun e w'' => e = .returned (.int .i64 2) ∧ Seen w' w'') := fun w' => by
    have := check_any none 0 0 [] w' (NS.nil _ _) (by omega)
    rw [check_nil] at this
    exact this
  go_enter Try.func8, Try.ntmps8
  go_wp2_with (first
    | (go_at_call 22; refine (plain_any w).mono ?_; rintro _ w1 ⟨rfl, hs1⟩; have S1 : Hid (Seen w w1) := hs1; clear hs1)
    | (refine wpList_buildN rfl (.tmp 2) (.const (.int .i64 (-1))) rfl (plainK 4) (plain_full (Nat.le_refl 4)) (-1) rfl rfl ?_)
    | (refine wpList_buildS1 rfl (.tmp 3) rfl (plainN (-1)) rfl ?_
       obtain ⟨W, hW⟩ : ∃ W, W = w1.alloc (.cells (ndl (plainN (-1))).toArray 51) := ⟨_, rfl⟩
       rw [← hW]
       have S2 : Hid (Seen w W) := by rw [hW]; exact S1.out.alloc _
       have N2 : Hid (NS W (some ⟨w1.heap.size, 0, none⟩) 1 [plainN (-1)]) := by
         obtain ⟨a, c, e, h, _, _⟩ := ns_of_own (new_rowN w1 (plainN (-1)) 0 (Nat.zero_le _)) rfl
         cases e
         rw [hW]; exact h
       clear hW)
    | (go_at_call 9; refine (formedTree_any _ 1 1 _ W N2.out (by omega)).mono ?_; rintro _ w3 ⟨rfl, hs3⟩; rw [plain_tree]; have S3 := Lib.hid hs3; clear hs3)
    | (go_at_call 11; refine (HCN.out w3).mono ?_; rintro _ w4 ⟨rfl, hs4⟩; have S4 := Lib.hid (S3.out.trans hs4); clear hs4)
    | (go_at_call 17; refine (same_any _ _ 1 1 1 _ w4 (N2.out.seen S4.out) (N2.out.seen S4.out) (by omega)).mono ?_; rintro _ w5 ⟨rfl, hs5⟩; have S5 := Lib.hid (S4.out.trans hs5); clear hs5))
  go_ret
  exact ⟨rfl, S2.out.trans S5.out⟩
end Go.Proofs.Ythphmhcgnkoigaa
