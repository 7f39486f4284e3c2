/-
  No cell of these rows narrows 'for every input' (looked for: loops, veiled, ifaces, maps, wideKeys, modest, calm, conditions, laid).
  DERIVED. THE GIVEN ROWS OF THIS SEAT. 3 by the template 'for every input the law returns true; each argument reads behind the call as it read before'; 0 by the template 'total and deterministic' (their statements: YtimnhognjkgohaaTotals.lean).
  GIVEN WITH THE SEED: the statements are not yours to turn. If you find one false, say at which input.
  Laid BY PROGRAM, IN A SANDBOX (cutbox-rows.mjs): the forced cells as the released guide's own fill.sh prints them over the translation 158b2336fe889104… (all of the seat's roots in one cut). By AI agents, Wed Nov 11 2026. No macro, syntax, notation, axiom, sorry.
-/
import Derived.Test.YtimnhognjkgohaaChecked
import GoSem.Claim
import GoSem.ClaimJoined
import GoSem.ClaimMapViews
import Derived.JoinedTies
import Derived.KernelRfl
namespace Go.Proofs.Ytimnhognjkgohaa
/- THE CELL 'sum', in the pinned program and in every row, IS THE sha256 OF THE DUMP (.gsa) THAT YtimnhognjkgohaaProg.lean LOADS. Nothing in Lean hashes anything: it is a label: what it is worth is what the hold of that sum in a sandbox is worth. -/
noncomputable def Try.pinned : Pinned := { name := "ytimnhognjkgohaa", sum := "158b2336fe889104556e233649424f445401add631bb9748090aa2f3e44acfff", checked := Try.checked }
namespace Rows
def none {H : Type} : Left H := { results := [], args := [] }

/-- 'decoupagelaw13.AcrossSolves': WHATEVER THE INPUT: true; the input reads as it did. -/
def acrossSolvesSpec : ChangeSpec := { name := "acrossSolves", fn := fun _ => fun
  | [d] => { results := [.lit (.bool true)], args := [d] }
  | _ => none }
def acrossSolvesRow : OpenClaim := { program := "ytimnhognjkgohaa", sum := "158b2336fe889104556e233649424f445401add631bb9748090aa2f3e44acfff", func := "decoupage/decoupagelaw13.AcrossSolves", spec := "acrossSolves", unfollowed := true, recurses := true, apart := false }
def AcrossSolvesSaid : Prop := acrossSolvesRow.holds Try.pinned (OpenSpec.ofChange acrossSolvesSpec)

/-- ITS FALSE NEIGHBOUR: 'it returns false'. Refute it at one input. -/
def acrossSolvesWrong : ChangeSpec := { name := "acrossSolves", fn := fun _ => fun
  | [d] => { results := [.lit (.bool false)], args := [d] }
  | _ => none }
def AcrossSolvesWrongFalsely : Prop := acrossSolvesRow.holds Try.pinned (OpenSpec.ofChange acrossSolvesWrong)

/-- 'decoupagelaw13.AcrossSums': WHATEVER THE INPUT: true; the input reads as it did. -/
def acrossSumsSpec : ChangeSpec := { name := "acrossSums", fn := fun _ => fun
  | [d] => { results := [.lit (.bool true)], args := [d] }
  | _ => none }
def acrossSumsRow : OpenClaim := { program := "ytimnhognjkgohaa", sum := "158b2336fe889104556e233649424f445401add631bb9748090aa2f3e44acfff", func := "decoupage/decoupagelaw13.AcrossSums", spec := "acrossSums", unfollowed := true, recurses := true, apart := false }
def AcrossSumsSaid : Prop := acrossSumsRow.holds Try.pinned (OpenSpec.ofChange acrossSumsSpec)

/-- ITS FALSE NEIGHBOUR: 'it returns false'. Refute it at one input. -/
def acrossSumsWrong : ChangeSpec := { name := "acrossSums", fn := fun _ => fun
  | [d] => { results := [.lit (.bool false)], args := [d] }
  | _ => none }
def AcrossSumsWrongFalsely : Prop := acrossSumsRow.holds Try.pinned (OpenSpec.ofChange acrossSumsWrong)

/-- 'decoupagelaw13.AcrossKeeps': WHATEVER THE INPUT: true; the input reads as it did. -/
def acrossKeepsSpec : ChangeSpec := { name := "acrossKeeps", fn := fun _ => fun
  | [d] => { results := [.lit (.bool true)], args := [d] }
  | _ => none }
def acrossKeepsRow : OpenClaim := { program := "ytimnhognjkgohaa", sum := "158b2336fe889104556e233649424f445401add631bb9748090aa2f3e44acfff", func := "decoupage/decoupagelaw13.AcrossKeeps", spec := "acrossKeeps", unfollowed := true, recurses := true, apart := false }
def AcrossKeepsSaid : Prop := acrossKeepsRow.holds Try.pinned (OpenSpec.ofChange acrossKeepsSpec)

/-- ITS FALSE NEIGHBOUR: 'it returns false'. Refute it at one input. -/
def acrossKeepsWrong : ChangeSpec := { name := "acrossKeeps", fn := fun _ => fun
  | [d] => { results := [.lit (.bool false)], args := [d] }
  | _ => none }
def AcrossKeepsWrongFalsely : Prop := acrossKeepsRow.holds Try.pinned (OpenSpec.ofChange acrossKeepsWrong)

/- THE SECOND FORM. 'bulk': how many values and letters a reading holds, each counted each time it is reached (what is shared counts as often as it is met; a slice's spare places count too). A statement '..UptoSaid' is the law's where the arguments, and the package variables that the reading takes, are together of bulk at most 1048576: NARROWER than '..Said'. Prove '..Said' where nothing that the law and all that it calls make is longer than what came in: it says more and counts as full. Else prove '..UptoSaid'. A law counts once. -/
mutual
def uptoBulk {H : Type} : DataW H → Nat
  | .lit (.string bytes) => bytes.length + 1
  | .lit _ => 1
  | .nil => 1
  | .ptr d => uptoBulk d + 1
  | .slice elems spare => uptoBulkAll elems + uptoBulkAll spare + 1
  | .agg parts => uptoBulkAll parts + 1
  | .iface _ d => uptoBulk d + 1
  | .map entries => uptoBulkEntries entries + 1
  | .held _ => 1
def uptoBulkAll {H : Type} : List (DataW H) → Nat
  | [] => 0
  | d :: r => uptoBulk d + uptoBulkAll r
def uptoBulkEntries {H : Type} : List (Lit × DataW H) → Nat
  | [] => 0
  | x :: r => uptoBulkEntry x + uptoBulkEntries r
def uptoBulkEntry {H : Type} : Lit × DataW H → Nat
  | (.string bytes, d) => bytes.length + uptoBulk d + 1
  | (_, d) => uptoBulk d + 1
 end
def uptoSmall : (H : Type) → List (DataW H) → Bool := fun _ ds => decide (uptoBulkAll ds ≤ 1048576)
def OpenSpec.upto (s : _root_.Go.ChangeSpec) : _root_.Go.OpenSpec := { _root_.Go.OpenSpec.ofChange s with cond := some uptoSmall }

/-- 'decoupagelaw13.AcrossSolves', WHERE WHAT IT READS IS OF BULK AT MOST 1048576: true; the input reads as it did. -/
def acrossSolvesUptoRow : OpenClaim := { program := "ytimnhognjkgohaa", sum := "158b2336fe889104556e233649424f445401add631bb9748090aa2f3e44acfff", func := "decoupage/decoupagelaw13.AcrossSolves", spec := "acrossSolves", unfollowed := true, recurses := true, apart := false, narrowed := true }
def AcrossSolvesUptoSaid : Prop := acrossSolvesUptoRow.holds Try.pinned (OpenSpec.upto acrossSolvesSpec)

/-- 'decoupagelaw13.AcrossSums', WHERE WHAT IT READS IS OF BULK AT MOST 1048576: true; the input reads as it did. -/
def acrossSumsUptoRow : OpenClaim := { program := "ytimnhognjkgohaa", sum := "158b2336fe889104556e233649424f445401add631bb9748090aa2f3e44acfff", func := "decoupage/decoupagelaw13.AcrossSums", spec := "acrossSums", unfollowed := true, recurses := true, apart := false, narrowed := true }
def AcrossSumsUptoSaid : Prop := acrossSumsUptoRow.holds Try.pinned (OpenSpec.upto acrossSumsSpec)

/-- 'decoupagelaw13.AcrossKeeps', WHERE WHAT IT READS IS OF BULK AT MOST 1048576: true; the input reads as it did. -/
def acrossKeepsUptoRow : OpenClaim := { program := "ytimnhognjkgohaa", sum := "158b2336fe889104556e233649424f445401add631bb9748090aa2f3e44acfff", func := "decoupage/decoupagelaw13.AcrossKeeps", spec := "acrossKeeps", unfollowed := true, recurses := true, apart := false, narrowed := true }
def AcrossKeepsUptoSaid : Prop := acrossKeepsUptoRow.holds Try.pinned (OpenSpec.upto acrossKeepsSpec)

end Rows
end Go.Proofs.Ytimnhognjkgohaa
