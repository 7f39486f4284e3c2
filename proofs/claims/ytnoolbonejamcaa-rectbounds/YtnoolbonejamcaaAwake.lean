/- Contract of the law package's own check, and of Inside's reference twin. -/
import Derived.Test.YtnoolbonejamcaaCut
import Derived.Test.YtnoolbonejamcaaInside
namespace Go.Proofs.Ytnoolbonejamcaa
open Go.ChangeShapes Go.WideShapes Go.ChangeAt Go.RowKit
theorem awake_holds : holdsB ⟨0, 0, 1, 1⟩ 0 0 = true := by decide
theorem awake_empty : emptyB ⟨0, 0, 1, 1⟩ = false := by decide
theorem awake_cut : (cutL ⟨0, 0, 3, 3⟩ ⟨1, 1, 2, 2⟩).length = 4 := by decide
theorem own_slice {w : World} {base n e size : Nat} {v : Value} {xs : List Value} (h : w.ownsRow base e size v n xs) : ∃ a c, v = .slice a n c := by
  rcases h.2 with ⟨rfl, rfl⟩ | ⟨g, cap, cur, rfl, _⟩
  · exact ⟨_, _, rfl⟩
  · exact ⟨_, _, rfl⟩
theorem awake_any (w : World) : Calls Try.prog 8 #[] w fun e w' => e = .returned (.bool true) ∧ Below w.heap.size w w' := by
  go_enter Try.func8, Try.ntmps8
  go_wp2_with (first
    | (go_at_call 10; refine (holds_any ⟨0, 0, 1, 1⟩ 0 0 _).mono ?_; rintro e w1 ⟨rfl, hb1⟩; rw [awake_holds])
    | (go_at_call 11; refine (empty_any ⟨0, 0, 1, 1⟩ _).mono ?_; rintro e w2 ⟨rfl, hb2⟩; rw [awake_empty])
    | (go_at_call 20; refine (cut_any ⟨0, 0, 3, 3⟩ ⟨1, 1, 2, 2⟩ _).mono ?_; rintro e w3 ⟨⟨v, rfl, ho⟩, hb3⟩; rw [awake_cut] at ho; obtain ⟨ad, c, rfl⟩ := own_slice ho; clear ho))
  go_ret
  exact ⟨rfl, Seen.next (Seen.next hb1 hb2) hb3⟩
end Go.Proofs.Ytnoolbonejamcaa
