/-
  No cell of these rows narrows 'for every input' (looked for: loops, veiled, ifaces, maps, wideKeys, modest, calm, conditions, laid).
  DERIVED. THE GIVEN ROWS OF THIS SEAT. 5 by the template 'for every input the law returns true; each argument reads behind the call as it read before'; 0 by the template 'total and deterministic' (their statements: YtnoolbonejamcaaTotals.lean).
  GIVEN WITH THE SEED: the statements are not yours to turn. If you find one false, say at which input.
  Laid BY PROGRAM, IN A SANDBOX (cutbox-rows.mjs): the forced cells as the released guide's own fill.sh prints them over the translation b33caaeb2b98b43a… (all of the seat's roots in one cut). By AI agents, Wed Nov 11 2026. No macro, syntax, notation, axiom, sorry.
-/
import Derived.Test.YtnoolbonejamcaaChecked
import GoSem.Claim
import GoSem.ClaimJoined
import GoSem.ClaimMapViews
import Derived.JoinedTies
import Derived.KernelRfl
namespace Go.Proofs.Ytnoolbonejamcaa
/- THE CELL 'sum', in the pinned program and in every row, IS THE sha256 OF THE DUMP (.gsa) THAT YtnoolbonejamcaaProg.lean LOADS. Nothing in Lean hashes anything: it is a label: what it is worth is what the hold of that sum in a sandbox is worth. -/
noncomputable def Try.pinned : Pinned := { name := "ytnoolbonejamcaa", sum := "b33caaeb2b98b43a4d3a5b0376a24a96a4d78ab171fe247a3d8361241adc35c9", checked := Try.checked }
namespace Rows
def none {H : Type} : Left H := { results := [], args := [] }

/-- 'decoupagelaw02.RectPoints': WHATEVER THE INPUT: true; the input reads as it did. -/
def rectPointsSpec : ChangeSpec := { name := "rectPoints", fn := fun _ => fun
  | [d1, d2, d3, d4] => { results := [.lit (.bool true)], args := [d1, d2, d3, d4] }
  | _ => none }
def rectPointsRow : OpenClaim := { program := "ytnoolbonejamcaa", sum := "b33caaeb2b98b43a4d3a5b0376a24a96a4d78ab171fe247a3d8361241adc35c9", func := "decoupage/decoupagelaw02.RectPoints", spec := "rectPoints", apart := false }
def RectPointsSaid : Prop := rectPointsRow.holds Try.pinned (OpenSpec.ofChange rectPointsSpec)

/-- ITS FALSE NEIGHBOUR: 'it returns false'. Refute it at one input. -/
def rectPointsWrong : ChangeSpec := { name := "rectPoints", fn := fun _ => fun
  | [d1, d2, d3, d4] => { results := [.lit (.bool false)], args := [d1, d2, d3, d4] }
  | _ => none }
def RectPointsWrongFalsely : Prop := rectPointsRow.holds Try.pinned (OpenSpec.ofChange rectPointsWrong)

/-- 'decoupagelaw02.RectMeets': WHATEVER THE INPUT: true; the input reads as it did. -/
def rectMeetsSpec : ChangeSpec := { name := "rectMeets", fn := fun _ => fun
  | [d1, d2] => { results := [.lit (.bool true)], args := [d1, d2] }
  | _ => none }
def rectMeetsRow : OpenClaim := { program := "ytnoolbonejamcaa", sum := "b33caaeb2b98b43a4d3a5b0376a24a96a4d78ab171fe247a3d8361241adc35c9", func := "decoupage/decoupagelaw02.RectMeets", spec := "rectMeets", apart := false }
def RectMeetsSaid : Prop := rectMeetsRow.holds Try.pinned (OpenSpec.ofChange rectMeetsSpec)

/-- ITS FALSE NEIGHBOUR: 'it returns false'. Refute it at one input. -/
def rectMeetsWrong : ChangeSpec := { name := "rectMeets", fn := fun _ => fun
  | [d1, d2] => { results := [.lit (.bool false)], args := [d1, d2] }
  | _ => none }
def RectMeetsWrongFalsely : Prop := rectMeetsRow.holds Try.pinned (OpenSpec.ofChange rectMeetsWrong)

/-- 'decoupagelaw02.RectInside': WHATEVER THE INPUT: true; the input reads as it did. -/
def rectInsideSpec : ChangeSpec := { name := "rectInside", fn := fun _ => fun
  | [d1, d2, d3, d4] => { results := [.lit (.bool true)], args := [d1, d2, d3, d4] }
  | _ => none }
def rectInsideRow : OpenClaim := { program := "ytnoolbonejamcaa", sum := "b33caaeb2b98b43a4d3a5b0376a24a96a4d78ab171fe247a3d8361241adc35c9", func := "decoupage/decoupagelaw02.RectInside", spec := "rectInside", apart := false }
def RectInsideSaid : Prop := rectInsideRow.holds Try.pinned (OpenSpec.ofChange rectInsideSpec)

/-- ITS FALSE NEIGHBOUR: 'it returns false'. Refute it at one input. -/
def rectInsideWrong : ChangeSpec := { name := "rectInside", fn := fun _ => fun
  | [d1, d2, d3, d4] => { results := [.lit (.bool false)], args := [d1, d2, d3, d4] }
  | _ => none }
def RectInsideWrongFalsely : Prop := rectInsideRow.holds Try.pinned (OpenSpec.ofChange rectInsideWrong)

/-- 'decoupagelaw02.RectBounds': WHATEVER THE INPUT: true; the input reads as it did. -/
def rectBoundsSpec : ChangeSpec := { name := "rectBounds", fn := fun _ => fun
  | [d] => { results := [.lit (.bool true)], args := [d] }
  | _ => none }
def rectBoundsRow : OpenClaim := { program := "ytnoolbonejamcaa", sum := "b33caaeb2b98b43a4d3a5b0376a24a96a4d78ab171fe247a3d8361241adc35c9", func := "decoupage/decoupagelaw02.RectBounds", spec := "rectBounds", apart := false }
def RectBoundsSaid : Prop := rectBoundsRow.holds Try.pinned (OpenSpec.ofChange rectBoundsSpec)

/-- ITS FALSE NEIGHBOUR: 'it returns false'. Refute it at one input. -/
def rectBoundsWrong : ChangeSpec := { name := "rectBounds", fn := fun _ => fun
  | [d] => { results := [.lit (.bool false)], args := [d] }
  | _ => none }
def RectBoundsWrongFalsely : Prop := rectBoundsRow.holds Try.pinned (OpenSpec.ofChange rectBoundsWrong)

/-- 'decoupagelaw02.RectCuts': WHATEVER THE INPUT: true; the input reads as it did. -/
def rectCutsSpec : ChangeSpec := { name := "rectCuts", fn := fun _ => fun
  | [d1, d2, d3, d4] => { results := [.lit (.bool true)], args := [d1, d2, d3, d4] }
  | _ => none }
def rectCutsRow : OpenClaim := { program := "ytnoolbonejamcaa", sum := "b33caaeb2b98b43a4d3a5b0376a24a96a4d78ab171fe247a3d8361241adc35c9", func := "decoupage/decoupagelaw02.RectCuts", spec := "rectCuts", apart := false }
def RectCutsSaid : Prop := rectCutsRow.holds Try.pinned (OpenSpec.ofChange rectCutsSpec)

/-- ITS FALSE NEIGHBOUR: 'it returns false'. Refute it at one input. -/
def rectCutsWrong : ChangeSpec := { name := "rectCuts", fn := fun _ => fun
  | [d1, d2, d3, d4] => { results := [.lit (.bool false)], args := [d1, d2, d3, d4] }
  | _ => none }
def RectCutsWrongFalsely : Prop := rectCutsRow.holds Try.pinned (OpenSpec.ofChange rectCutsWrong)

/- THE SECOND FORM. 'bulk': how many values and letters a reading holds, each counted each time it is reached (what is shared counts as often as it is met; a slice's spare places count too). A statement '..UptoSaid' is the law's where the arguments, and the package variables that the reading takes, are together of bulk at most 1048576: NARROWER than '..Said'. Prove '..Said' where nothing that the law and all that it calls make is longer than what came in: it says more and counts as full. Else prove '..UptoSaid'. A law counts once. -/
mutual
def uptoBulk {H : Type} : DataW H → Nat
  | .lit (.string bytes) => bytes.length + 1
  | .lit _ => 1
  | .nil => 1
  | .ptr d => uptoBulk d + 1
  | .slice elems spare => uptoBulkAll elems + uptoBulkAll spare + 1
  | .agg parts => uptoBulkAll parts + 1
  | .iface _ d => uptoBulk d + 1
  | .map entries => uptoBulkEntries entries + 1
  | .held _ => 1
def uptoBulkAll {H : Type} : List (DataW H) → Nat
  | [] => 0
  | d :: r => uptoBulk d + uptoBulkAll r
def uptoBulkEntries {H : Type} : List (Lit × DataW H) → Nat
  | [] => 0
  | x :: r => uptoBulkEntry x + uptoBulkEntries r
def uptoBulkEntry {H : Type} : Lit × DataW H → Nat
  | (.string bytes, d) => bytes.length + uptoBulk d + 1
  | (_, d) => uptoBulk d + 1
 end
def uptoSmall : (H : Type) → List (DataW H) → Bool := fun _ ds => decide (uptoBulkAll ds ≤ 1048576)
def OpenSpec.upto (s : _root_.Go.ChangeSpec) : _root_.Go.OpenSpec := { _root_.Go.OpenSpec.ofChange s with cond := some uptoSmall }

/-- 'decoupagelaw02.RectPoints', WHERE WHAT IT READS IS OF BULK AT MOST 1048576: true; the input reads as it did. -/
def rectPointsUptoRow : OpenClaim := { program := "ytnoolbonejamcaa", sum := "b33caaeb2b98b43a4d3a5b0376a24a96a4d78ab171fe247a3d8361241adc35c9", func := "decoupage/decoupagelaw02.RectPoints", spec := "rectPoints", apart := false, narrowed := true }
def RectPointsUptoSaid : Prop := rectPointsUptoRow.holds Try.pinned (OpenSpec.upto rectPointsSpec)

/-- 'decoupagelaw02.RectMeets', WHERE WHAT IT READS IS OF BULK AT MOST 1048576: true; the input reads as it did. -/
def rectMeetsUptoRow : OpenClaim := { program := "ytnoolbonejamcaa", sum := "b33caaeb2b98b43a4d3a5b0376a24a96a4d78ab171fe247a3d8361241adc35c9", func := "decoupage/decoupagelaw02.RectMeets", spec := "rectMeets", apart := false, narrowed := true }
def RectMeetsUptoSaid : Prop := rectMeetsUptoRow.holds Try.pinned (OpenSpec.upto rectMeetsSpec)

/-- 'decoupagelaw02.RectInside', WHERE WHAT IT READS IS OF BULK AT MOST 1048576: true; the input reads as it did. -/
def rectInsideUptoRow : OpenClaim := { program := "ytnoolbonejamcaa", sum := "b33caaeb2b98b43a4d3a5b0376a24a96a4d78ab171fe247a3d8361241adc35c9", func := "decoupage/decoupagelaw02.RectInside", spec := "rectInside", apart := false, narrowed := true }
def RectInsideUptoSaid : Prop := rectInsideUptoRow.holds Try.pinned (OpenSpec.upto rectInsideSpec)

/-- 'decoupagelaw02.RectBounds', WHERE WHAT IT READS IS OF BULK AT MOST 1048576: true; the input reads as it did. -/
def rectBoundsUptoRow : OpenClaim := { program := "ytnoolbonejamcaa", sum := "b33caaeb2b98b43a4d3a5b0376a24a96a4d78ab171fe247a3d8361241adc35c9", func := "decoupage/decoupagelaw02.RectBounds", spec := "rectBounds", apart := false, narrowed := true }
def RectBoundsUptoSaid : Prop := rectBoundsUptoRow.holds Try.pinned (OpenSpec.upto rectBoundsSpec)

/-- 'decoupagelaw02.RectCuts', WHERE WHAT IT READS IS OF BULK AT MOST 1048576: true; the input reads as it did. -/
def rectCutsUptoRow : OpenClaim := { program := "ytnoolbonejamcaa", sum := "b33caaeb2b98b43a4d3a5b0376a24a96a4d78ab171fe247a3d8361241adc35c9", func := "decoupage/decoupagelaw02.RectCuts", spec := "rectCuts", apart := false, narrowed := true }
def RectCutsUptoSaid : Prop := rectCutsUptoRow.holds Try.pinned (OpenSpec.upto rectCutsSpec)

end Rows
end Go.Proofs.Ytnoolbonejamcaa
