/-
  No cell of these rows narrows 'for every input' (looked for: loops, veiled, ifaces, maps, wideKeys, modest, calm, conditions, laid).
  DERIVED. THE GIVEN ROWS OF THIS SEAT. 3 by the template 'for every input the law returns true; each argument reads behind the call as it read before'; 0 by the template 'total and deterministic' (their statements: YtmmekemklcogmaaTotals.lean).
  GIVEN WITH THE SEED: the statements are not yours to turn. If you find one false, say at which input.
  Laid BY PROGRAM, IN A SANDBOX (cutbox-rows.mjs): the forced cells as the released guide's own fill.sh prints them over the translation 73f4765e7f2d3b4c… (all of the seat's roots in one cut). By AI agents, Wed Nov 11 2026. No macro, syntax, notation, axiom, sorry.
-/
import Derived.Test.YtmmekemklcogmaaChecked
import GoSem.Claim
import GoSem.ClaimJoined
import GoSem.ClaimMapViews
import Derived.JoinedTies
import Derived.KernelRfl
namespace Go.Proofs.Ytmmekemklcogmaa
/- THE CELL 'sum', in the pinned program and in every row, IS THE sha256 OF THE DUMP (.gsa) THAT YtmmekemklcogmaaProg.lean LOADS. Nothing in Lean hashes anything: it is a label: what it is worth is what the hold of that sum in a sandbox is worth. -/
noncomputable def Try.pinned : Pinned := { name := "ytmmekemklcogmaa", sum := "73f4765e7f2d3b4c23afaafcfee30ddd99159f3072065c863574cb033ebc3350", checked := Try.checked }
namespace Rows
def none {H : Type} : Left H := { results := [], args := [] }

/-- 'decoupagelaw11.StrutJoins': WHATEVER THE INPUT: true; the input reads as it did. -/
def strutJoinsSpec : ChangeSpec := { name := "strutJoins", fn := fun _ => fun
  | [d1, d2] => { results := [.lit (.bool true)], args := [d1, d2] }
  | _ => none }
def strutJoinsRow : OpenClaim := { program := "ytmmekemklcogmaa", sum := "73f4765e7f2d3b4c23afaafcfee30ddd99159f3072065c863574cb033ebc3350", func := "decoupage/decoupagelaw11.StrutJoins", spec := "strutJoins", inPlace := ["math/bits.Add64"], apart := false }
def StrutJoinsSaid : Prop := strutJoinsRow.holds Try.pinned (OpenSpec.ofChange strutJoinsSpec)

/-- ITS FALSE NEIGHBOUR: 'it returns false'. Refute it at one input. -/
def strutJoinsWrong : ChangeSpec := { name := "strutJoins", fn := fun _ => fun
  | [d1, d2] => { results := [.lit (.bool false)], args := [d1, d2] }
  | _ => none }
def StrutJoinsWrongFalsely : Prop := strutJoinsRow.holds Try.pinned (OpenSpec.ofChange strutJoinsWrong)

/-- 'decoupagelaw11.StrutValues': WHATEVER THE INPUT: true; the input reads as it did. -/
def strutValuesSpec : ChangeSpec := { name := "strutValues", fn := fun _ => fun
  | [d1, d2] => { results := [.lit (.bool true)], args := [d1, d2] }
  | _ => none }
def strutValuesRow : OpenClaim := { program := "ytmmekemklcogmaa", sum := "73f4765e7f2d3b4c23afaafcfee30ddd99159f3072065c863574cb033ebc3350", func := "decoupage/decoupagelaw11.StrutValues", spec := "strutValues", inPlace := ["math/bits.Add64"], apart := false }
def StrutValuesSaid : Prop := strutValuesRow.holds Try.pinned (OpenSpec.ofChange strutValuesSpec)

/-- ITS FALSE NEIGHBOUR: 'it returns false'. Refute it at one input. -/
def strutValuesWrong : ChangeSpec := { name := "strutValues", fn := fun _ => fun
  | [d1, d2] => { results := [.lit (.bool false)], args := [d1, d2] }
  | _ => none }
def StrutValuesWrongFalsely : Prop := strutValuesRow.holds Try.pinned (OpenSpec.ofChange strutValuesWrong)

/-- 'decoupagelaw11.StrutLaws': WHATEVER THE INPUT: true; the input reads as it did. -/
def strutLawsSpec : ChangeSpec := { name := "strutLaws", fn := fun _ => fun
  | [d1, d2, d3] => { results := [.lit (.bool true)], args := [d1, d2, d3] }
  | _ => none }
def strutLawsRow : OpenClaim := { program := "ytmmekemklcogmaa", sum := "73f4765e7f2d3b4c23afaafcfee30ddd99159f3072065c863574cb033ebc3350", func := "decoupage/decoupagelaw11.StrutLaws", spec := "strutLaws", inPlace := ["math/bits.Add64"], apart := false }
def StrutLawsSaid : Prop := strutLawsRow.holds Try.pinned (OpenSpec.ofChange strutLawsSpec)

/-- ITS FALSE NEIGHBOUR: 'it returns false'. Refute it at one input. -/
def strutLawsWrong : ChangeSpec := { name := "strutLaws", fn := fun _ => fun
  | [d1, d2, d3] => { results := [.lit (.bool false)], args := [d1, d2, d3] }
  | _ => none }
def StrutLawsWrongFalsely : Prop := strutLawsRow.holds Try.pinned (OpenSpec.ofChange strutLawsWrong)

/- THE SECOND FORM. 'bulk': how many values and letters a reading holds, each counted each time it is reached (what is shared counts as often as it is met; a slice's spare places count too). A statement '..UptoSaid' is the law's where the arguments, and the package variables that the reading takes, are together of bulk at most 1048576: NARROWER than '..Said'. Prove '..Said' where nothing that the law and all that it calls make is longer than what came in: it says more and counts as full. Else prove '..UptoSaid'. A law counts once. -/
mutual
def uptoBulk {H : Type} : DataW H → Nat
  | .lit (.string bytes) => bytes.length + 1
  | .lit _ => 1
  | .nil => 1
  | .ptr d => uptoBulk d + 1
  | .slice elems spare => uptoBulkAll elems + uptoBulkAll spare + 1
  | .agg parts => uptoBulkAll parts + 1
  | .iface _ d => uptoBulk d + 1
  | .map entries => uptoBulkEntries entries + 1
  | .held _ => 1
def uptoBulkAll {H : Type} : List (DataW H) → Nat
  | [] => 0
  | d :: r => uptoBulk d + uptoBulkAll r
def uptoBulkEntries {H : Type} : List (Lit × DataW H) → Nat
  | [] => 0
  | x :: r => uptoBulkEntry x + uptoBulkEntries r
def uptoBulkEntry {H : Type} : Lit × DataW H → Nat
  | (.string bytes, d) => bytes.length + uptoBulk d + 1
  | (_, d) => uptoBulk d + 1
 end
def uptoSmall : (H : Type) → List (DataW H) → Bool := fun _ ds => decide (uptoBulkAll ds ≤ 1048576)
def OpenSpec.upto (s : _root_.Go.ChangeSpec) : _root_.Go.OpenSpec := { _root_.Go.OpenSpec.ofChange s with cond := some uptoSmall }

/-- 'decoupagelaw11.StrutJoins', WHERE WHAT IT READS IS OF BULK AT MOST 1048576: true; the input reads as it did. -/
def strutJoinsUptoRow : OpenClaim := { program := "ytmmekemklcogmaa", sum := "73f4765e7f2d3b4c23afaafcfee30ddd99159f3072065c863574cb033ebc3350", func := "decoupage/decoupagelaw11.StrutJoins", spec := "strutJoins", inPlace := ["math/bits.Add64"], apart := false, narrowed := true }
def StrutJoinsUptoSaid : Prop := strutJoinsUptoRow.holds Try.pinned (OpenSpec.upto strutJoinsSpec)

/-- 'decoupagelaw11.StrutValues', WHERE WHAT IT READS IS OF BULK AT MOST 1048576: true; the input reads as it did. -/
def strutValuesUptoRow : OpenClaim := { program := "ytmmekemklcogmaa", sum := "73f4765e7f2d3b4c23afaafcfee30ddd99159f3072065c863574cb033ebc3350", func := "decoupage/decoupagelaw11.StrutValues", spec := "strutValues", inPlace := ["math/bits.Add64"], apart := false, narrowed := true }
def StrutValuesUptoSaid : Prop := strutValuesUptoRow.holds Try.pinned (OpenSpec.upto strutValuesSpec)

/-- 'decoupagelaw11.StrutLaws', WHERE WHAT IT READS IS OF BULK AT MOST 1048576: true; the input reads as it did. -/
def strutLawsUptoRow : OpenClaim := { program := "ytmmekemklcogmaa", sum := "73f4765e7f2d3b4c23afaafcfee30ddd99159f3072065c863574cb033ebc3350", func := "decoupage/decoupagelaw11.StrutLaws", spec := "strutLaws", inPlace := ["math/bits.Add64"], apart := false, narrowed := true }
def StrutLawsUptoSaid : Prop := strutLawsUptoRow.holds Try.pinned (OpenSpec.upto strutLawsSpec)

end Rows
end Go.Proofs.Ytmmekemklcogmaa
