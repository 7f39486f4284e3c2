/- Contract of the law package's Of; no conditions beyond those written in each theorem. -/
import Derived.Test.YtimnhognjkgohaaBox
namespace Go.Proofs.Ytimnhognjkgohaa
open Go.ChangeShapes Go.WideShapes Go.ChangeAt Go.RowKit
set_option maxRecDepth 100000
set_option linter.unusedVariables false
set_option maxHeartbeats 1000000 in
theorem of_any (b : Bx) (w : World) : Calls Try.prog 9 #[bxv b] w fun e w' => e = .returned (bxv b) ∧ Seen w w' := by
  obtain ⟨base, ⟨la, ln⟩, ⟨wa, wn⟩, ⟨ra, rn⟩, ar, rtl, lo, hi⟩ := b
  go_enter Try.func9, Try.ntmps9
  go_wp2_with fail
  go_returns
  exact ⟨rfl, by unfold Seen; go_grown⟩
end Go.Proofs.Ytimnhognjkgohaa
