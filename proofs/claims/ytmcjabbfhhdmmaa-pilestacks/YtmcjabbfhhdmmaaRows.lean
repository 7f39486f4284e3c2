/-
  No cell of these rows narrows 'for every input' (looked for: loops, veiled, ifaces, maps, wideKeys, modest, calm, conditions, laid).
  DERIVED. THE GIVEN ROWS OF THIS SEAT. 3 by the template 'for every input the law returns true; each argument reads behind the call as it read before'; 0 by the template 'total and deterministic' (their statements: YtmcjabbfhhdmmaaTotals.lean).
  GIVEN WITH THE SEED: the statements are not yours to turn. If you find one false, say at which input.
  Laid BY PROGRAM, IN A SANDBOX (cutbox-rows.mjs): the forced cells as the released guide's own fill.sh prints them over the translation 56d2f9768f50480c… (all of the seat's roots in one cut). By AI agents, Wed Nov 11 2026. No macro, syntax, notation, axiom, sorry.
-/
import Derived.Test.YtmcjabbfhhdmmaaChecked
import GoSem.Claim
import GoSem.ClaimJoined
import GoSem.ClaimMapViews
import Derived.JoinedTies
import Derived.KernelRfl
namespace Go.Proofs.Ytmcjabbfhhdmmaa
/- THE CELL 'sum', in the pinned program and in every row, IS THE sha256 OF THE DUMP (.gsa) THAT YtmcjabbfhhdmmaaProg.lean LOADS. Nothing in Lean hashes anything: it is a label: what it is worth is what the hold of that sum in a sandbox is worth. -/
noncomputable def Try.pinned : Pinned := { name := "ytmcjabbfhhdmmaa", sum := "56d2f9768f50480cc96ea0fa76a3c213eff1e0c7d2478c617d5e4fc4e42b56f5", checked := Try.checked }
namespace Rows
def none {H : Type} : Left H := { results := [], args := [] }

/-- 'decoupagelaw12.PileStacks': WHATEVER THE INPUT: true; the input reads as it did. -/
def pileStacksSpec : ChangeSpec := { name := "pileStacks", fn := fun _ => fun
  | [d1, d2] => { results := [.lit (.bool true)], args := [d1, d2] }
  | _ => none }
def pileStacksRow : OpenClaim := { program := "ytmcjabbfhhdmmaa", sum := "56d2f9768f50480cc96ea0fa76a3c213eff1e0c7d2478c617d5e4fc4e42b56f5", func := "decoupage/decoupagelaw12.PileStacks", spec := "pileStacks", inPlace := ["math/bits.Add64"], apart := false }
def PileStacksSaid : Prop := pileStacksRow.holds Try.pinned (OpenSpec.ofChange pileStacksSpec)

/-- ITS FALSE NEIGHBOUR: 'it returns false'. Refute it at one input. -/
def pileStacksWrong : ChangeSpec := { name := "pileStacks", fn := fun _ => fun
  | [d1, d2] => { results := [.lit (.bool false)], args := [d1, d2] }
  | _ => none }
def PileStacksWrongFalsely : Prop := pileStacksRow.holds Try.pinned (OpenSpec.ofChange pileStacksWrong)

/-- 'decoupagelaw12.PileParts': WHATEVER THE INPUT: true; the input reads as it did. -/
def pilePartsSpec : ChangeSpec := { name := "pileParts", fn := fun _ => fun
  | [d1, d2] => { results := [.lit (.bool true)], args := [d1, d2] }
  | _ => none }
def pilePartsRow : OpenClaim := { program := "ytmcjabbfhhdmmaa", sum := "56d2f9768f50480cc96ea0fa76a3c213eff1e0c7d2478c617d5e4fc4e42b56f5", func := "decoupage/decoupagelaw12.PileParts", spec := "pileParts", inPlace := ["math/bits.Add64"], apart := false }
def PilePartsSaid : Prop := pilePartsRow.holds Try.pinned (OpenSpec.ofChange pilePartsSpec)

/-- ITS FALSE NEIGHBOUR: 'it returns false'. Refute it at one input. -/
def pilePartsWrong : ChangeSpec := { name := "pileParts", fn := fun _ => fun
  | [d1, d2] => { results := [.lit (.bool false)], args := [d1, d2] }
  | _ => none }
def PilePartsWrongFalsely : Prop := pilePartsRow.holds Try.pinned (OpenSpec.ofChange pilePartsWrong)

/-- 'decoupagelaw12.PileApart': WHATEVER THE INPUT: true; the input reads as it did. -/
def pileApartSpec : ChangeSpec := { name := "pileApart", fn := fun _ => fun
  | [d1, d2] => { results := [.lit (.bool true)], args := [d1, d2] }
  | _ => none }
def pileApartRow : OpenClaim := { program := "ytmcjabbfhhdmmaa", sum := "56d2f9768f50480cc96ea0fa76a3c213eff1e0c7d2478c617d5e4fc4e42b56f5", func := "decoupage/decoupagelaw12.PileApart", spec := "pileApart", inPlace := ["math/bits.Add64"], apart := false }
def PileApartSaid : Prop := pileApartRow.holds Try.pinned (OpenSpec.ofChange pileApartSpec)

/-- ITS FALSE NEIGHBOUR: 'it returns false'. Refute it at one input. -/
def pileApartWrong : ChangeSpec := { name := "pileApart", fn := fun _ => fun
  | [d1, d2] => { results := [.lit (.bool false)], args := [d1, d2] }
  | _ => none }
def PileApartWrongFalsely : Prop := pileApartRow.holds Try.pinned (OpenSpec.ofChange pileApartWrong)

/- THE SECOND FORM. 'bulk': how many values and letters a reading holds, each counted each time it is reached (what is shared counts as often as it is met; a slice's spare places count too). A statement '..UptoSaid' is the law's where the arguments, and the package variables that the reading takes, are together of bulk at most 1048576: NARROWER than '..Said'. Prove '..Said' where nothing that the law and all that it calls make is longer than what came in: it says more and counts as full. Else prove '..UptoSaid'. A law counts once. -/
mutual
def uptoBulk {H : Type} : DataW H → Nat
  | .lit (.string bytes) => bytes.length + 1
  | .lit _ => 1
  | .nil => 1
  | .ptr d => uptoBulk d + 1
  | .slice elems spare => uptoBulkAll elems + uptoBulkAll spare + 1
  | .agg parts => uptoBulkAll parts + 1
  | .iface _ d => uptoBulk d + 1
  | .map entries => uptoBulkEntries entries + 1
  | .held _ => 1
def uptoBulkAll {H : Type} : List (DataW H) → Nat
  | [] => 0
  | d :: r => uptoBulk d + uptoBulkAll r
def uptoBulkEntries {H : Type} : List (Lit × DataW H) → Nat
  | [] => 0
  | x :: r => uptoBulkEntry x + uptoBulkEntries r
def uptoBulkEntry {H : Type} : Lit × DataW H → Nat
  | (.string bytes, d) => bytes.length + uptoBulk d + 1
  | (_, d) => uptoBulk d + 1
 end
def uptoSmall : (H : Type) → List (DataW H) → Bool := fun _ ds => decide (uptoBulkAll ds ≤ 1048576)
def OpenSpec.upto (s : _root_.Go.ChangeSpec) : _root_.Go.OpenSpec := { _root_.Go.OpenSpec.ofChange s with cond := some uptoSmall }

/-- 'decoupagelaw12.PileStacks', WHERE WHAT IT READS IS OF BULK AT MOST 1048576: true; the input reads as it did. -/
def pileStacksUptoRow : OpenClaim := { program := "ytmcjabbfhhdmmaa", sum := "56d2f9768f50480cc96ea0fa76a3c213eff1e0c7d2478c617d5e4fc4e42b56f5", func := "decoupage/decoupagelaw12.PileStacks", spec := "pileStacks", inPlace := ["math/bits.Add64"], apart := false, narrowed := true }
def PileStacksUptoSaid : Prop := pileStacksUptoRow.holds Try.pinned (OpenSpec.upto pileStacksSpec)

/-- 'decoupagelaw12.PileParts', WHERE WHAT IT READS IS OF BULK AT MOST 1048576: true; the input reads as it did. -/
def pilePartsUptoRow : OpenClaim := { program := "ytmcjabbfhhdmmaa", sum := "56d2f9768f50480cc96ea0fa76a3c213eff1e0c7d2478c617d5e4fc4e42b56f5", func := "decoupage/decoupagelaw12.PileParts", spec := "pileParts", inPlace := ["math/bits.Add64"], apart := false, narrowed := true }
def PilePartsUptoSaid : Prop := pilePartsUptoRow.holds Try.pinned (OpenSpec.upto pilePartsSpec)

/-- 'decoupagelaw12.PileApart', WHERE WHAT IT READS IS OF BULK AT MOST 1048576: true; the input reads as it did. -/
def pileApartUptoRow : OpenClaim := { program := "ytmcjabbfhhdmmaa", sum := "56d2f9768f50480cc96ea0fa76a3c213eff1e0c7d2478c617d5e4fc4e42b56f5", func := "decoupage/decoupagelaw12.PileApart", spec := "pileApart", inPlace := ["math/bits.Add64"], apart := false, narrowed := true }
def PileApartUptoSaid : Prop := pileApartUptoRow.holds Try.pinned (OpenSpec.upto pileApartSpec)

end Rows
end Go.Proofs.Ytmcjabbfhhdmmaa
