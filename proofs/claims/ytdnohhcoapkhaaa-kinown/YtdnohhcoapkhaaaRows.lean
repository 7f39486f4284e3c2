/-
  No cell of these rows narrows 'for every input' (looked for: loops, veiled, ifaces, maps, wideKeys, modest, calm, conditions, laid).
  DERIVED. THE GIVEN ROWS OF THIS SEAT. 4 by the template 'for every input the law returns true; each argument reads behind the call as it read before'; 0 by the template 'total and deterministic' (their statements: YtdnohhcoapkhaaaTotals.lean).
  GIVEN WITH THE SEED: the statements are not yours to turn. If you find one false, say at which input.
  Laid BY PROGRAM, IN A SANDBOX (cutbox-rows.mjs): the forced cells as the released guide's own fill.sh prints them over the translation 0892537147956c33… (all of the seat's roots in one cut). By AI agents, Wed Nov 11 2026. No macro, syntax, notation, axiom, sorry.
-/
import Derived.Test.YtdnohhcoapkhaaaChecked
import GoSem.Claim
import GoSem.ClaimJoined
import GoSem.ClaimMapViews
import Derived.JoinedTies
import Derived.KernelRfl
namespace Go.Proofs.Ytdnohhcoapkhaaa
/- THE CELL 'sum', in the pinned program and in every row, IS THE sha256 OF THE DUMP (.gsa) THAT YtdnohhcoapkhaaaProg.lean LOADS. Nothing in Lean hashes anything: it is a label: what it is worth is what the hold of that sum in a sandbox is worth. -/
noncomputable def Try.pinned : Pinned := { name := "ytdnohhcoapkhaaa", sum := "0892537147956c3340a0d80b8b6ec512e0d994afb1d46684c2fbfd608f4a755a", checked := Try.checked }
namespace Rows
def none {H : Type} : Left H := { results := [], args := [] }

/-- 'decoupagelaw08.KinTells': WHATEVER THE INPUT: true; the input reads as it did. -/
def kinTellsSpec : ChangeSpec := { name := "kinTells", fn := fun _ => fun
  | [d1, d2] => { results := [.lit (.bool true)], args := [d1, d2] }
  | _ => none }
def kinTellsRow : OpenClaim := { program := "ytdnohhcoapkhaaa", sum := "0892537147956c3340a0d80b8b6ec512e0d994afb1d46684c2fbfd608f4a755a", func := "decoupage/decoupagelaw08.KinTells", spec := "kinTells", apart := false }
def KinTellsSaid : Prop := kinTellsRow.holds Try.pinned (OpenSpec.ofChange kinTellsSpec)

/-- ITS FALSE NEIGHBOUR: 'it returns false'. Refute it at one input. -/
def kinTellsWrong : ChangeSpec := { name := "kinTells", fn := fun _ => fun
  | [d1, d2] => { results := [.lit (.bool false)], args := [d1, d2] }
  | _ => none }
def KinTellsWrongFalsely : Prop := kinTellsRow.holds Try.pinned (OpenSpec.ofChange kinTellsWrong)

/-- 'decoupagelaw08.KinBelow': WHATEVER THE INPUT: true; the input reads as it did. -/
def kinBelowSpec : ChangeSpec := { name := "kinBelow", fn := fun _ => fun
  | [d1, d2, d3] => { results := [.lit (.bool true)], args := [d1, d2, d3] }
  | _ => none }
def kinBelowRow : OpenClaim := { program := "ytdnohhcoapkhaaa", sum := "0892537147956c3340a0d80b8b6ec512e0d994afb1d46684c2fbfd608f4a755a", func := "decoupage/decoupagelaw08.KinBelow", spec := "kinBelow", apart := false }
def KinBelowSaid : Prop := kinBelowRow.holds Try.pinned (OpenSpec.ofChange kinBelowSpec)

/-- ITS FALSE NEIGHBOUR: 'it returns false'. Refute it at one input. -/
def kinBelowWrong : ChangeSpec := { name := "kinBelow", fn := fun _ => fun
  | [d1, d2, d3] => { results := [.lit (.bool false)], args := [d1, d2, d3] }
  | _ => none }
def KinBelowWrongFalsely : Prop := kinBelowRow.holds Try.pinned (OpenSpec.ofChange kinBelowWrong)

/-- 'decoupagelaw08.KinOwn': WHATEVER THE INPUT: true; the input reads as it did. -/
def kinOwnSpec : ChangeSpec := { name := "kinOwn", fn := fun _ => fun
  | [d] => { results := [.lit (.bool true)], args := [d] }
  | _ => none }
def kinOwnRow : OpenClaim := { program := "ytdnohhcoapkhaaa", sum := "0892537147956c3340a0d80b8b6ec512e0d994afb1d46684c2fbfd608f4a755a", func := "decoupage/decoupagelaw08.KinOwn", spec := "kinOwn", apart := false }
def KinOwnSaid : Prop := kinOwnRow.holds Try.pinned (OpenSpec.ofChange kinOwnSpec)

/-- ITS FALSE NEIGHBOUR: 'it returns false'. Refute it at one input. -/
def kinOwnWrong : ChangeSpec := { name := "kinOwn", fn := fun _ => fun
  | [d] => { results := [.lit (.bool false)], args := [d] }
  | _ => none }
def KinOwnWrongFalsely : Prop := kinOwnRow.holds Try.pinned (OpenSpec.ofChange kinOwnWrong)

/-- 'decoupagelaw08.KinNil': WHATEVER THE INPUT: true; the input reads as it did. -/
def kinNilSpec : ChangeSpec := { name := "kinNil", fn := fun _ => fun
  | [d1, d2] => { results := [.lit (.bool true)], args := [d1, d2] }
  | _ => none }
def kinNilRow : OpenClaim := { program := "ytdnohhcoapkhaaa", sum := "0892537147956c3340a0d80b8b6ec512e0d994afb1d46684c2fbfd608f4a755a", func := "decoupage/decoupagelaw08.KinNil", spec := "kinNil", apart := false }
def KinNilSaid : Prop := kinNilRow.holds Try.pinned (OpenSpec.ofChange kinNilSpec)

/-- ITS FALSE NEIGHBOUR: 'it returns false'. Refute it at one input. -/
def kinNilWrong : ChangeSpec := { name := "kinNil", fn := fun _ => fun
  | [d1, d2] => { results := [.lit (.bool false)], args := [d1, d2] }
  | _ => none }
def KinNilWrongFalsely : Prop := kinNilRow.holds Try.pinned (OpenSpec.ofChange kinNilWrong)

/- THE SECOND FORM. 'bulk': how many values and letters a reading holds, each counted each time it is reached (what is shared counts as often as it is met; a slice's spare places count too). A statement '..UptoSaid' is the law's where the arguments, and the package variables that the reading takes, are together of bulk at most 1048576: NARROWER than '..Said'. Prove '..Said' where nothing that the law and all that it calls make is longer than what came in: it says more and counts as full. Else prove '..UptoSaid'. A law counts once. -/
mutual
def uptoBulk {H : Type} : DataW H → Nat
  | .lit (.string bytes) => bytes.length + 1
  | .lit _ => 1
  | .nil => 1
  | .ptr d => uptoBulk d + 1
  | .slice elems spare => uptoBulkAll elems + uptoBulkAll spare + 1
  | .agg parts => uptoBulkAll parts + 1
  | .iface _ d => uptoBulk d + 1
  | .map entries => uptoBulkEntries entries + 1
  | .held _ => 1
def uptoBulkAll {H : Type} : List (DataW H) → Nat
  | [] => 0
  | d :: r => uptoBulk d + uptoBulkAll r
def uptoBulkEntries {H : Type} : List (Lit × DataW H) → Nat
  | [] => 0
  | x :: r => uptoBulkEntry x + uptoBulkEntries r
def uptoBulkEntry {H : Type} : Lit × DataW H → Nat
  | (.string bytes, d) => bytes.length + uptoBulk d + 1
  | (_, d) => uptoBulk d + 1
 end
def uptoSmall : (H : Type) → List (DataW H) → Bool := fun _ ds => decide (uptoBulkAll ds ≤ 1048576)
def OpenSpec.upto (s : _root_.Go.ChangeSpec) : _root_.Go.OpenSpec := { _root_.Go.OpenSpec.ofChange s with cond := some uptoSmall }

/-- 'decoupagelaw08.KinTells', WHERE WHAT IT READS IS OF BULK AT MOST 1048576: true; the input reads as it did. -/
def kinTellsUptoRow : OpenClaim := { program := "ytdnohhcoapkhaaa", sum := "0892537147956c3340a0d80b8b6ec512e0d994afb1d46684c2fbfd608f4a755a", func := "decoupage/decoupagelaw08.KinTells", spec := "kinTells", apart := false, narrowed := true }
def KinTellsUptoSaid : Prop := kinTellsUptoRow.holds Try.pinned (OpenSpec.upto kinTellsSpec)

/-- 'decoupagelaw08.KinBelow', WHERE WHAT IT READS IS OF BULK AT MOST 1048576: true; the input reads as it did. -/
def kinBelowUptoRow : OpenClaim := { program := "ytdnohhcoapkhaaa", sum := "0892537147956c3340a0d80b8b6ec512e0d994afb1d46684c2fbfd608f4a755a", func := "decoupage/decoupagelaw08.KinBelow", spec := "kinBelow", apart := false, narrowed := true }
def KinBelowUptoSaid : Prop := kinBelowUptoRow.holds Try.pinned (OpenSpec.upto kinBelowSpec)

/-- 'decoupagelaw08.KinOwn', WHERE WHAT IT READS IS OF BULK AT MOST 1048576: true; the input reads as it did. -/
def kinOwnUptoRow : OpenClaim := { program := "ytdnohhcoapkhaaa", sum := "0892537147956c3340a0d80b8b6ec512e0d994afb1d46684c2fbfd608f4a755a", func := "decoupage/decoupagelaw08.KinOwn", spec := "kinOwn", apart := false, narrowed := true }
def KinOwnUptoSaid : Prop := kinOwnUptoRow.holds Try.pinned (OpenSpec.upto kinOwnSpec)

/-- 'decoupagelaw08.KinNil', WHERE WHAT IT READS IS OF BULK AT MOST 1048576: true; the input reads as it did. -/
def kinNilUptoRow : OpenClaim := { program := "ytdnohhcoapkhaaa", sum := "0892537147956c3340a0d80b8b6ec512e0d994afb1d46684c2fbfd608f4a755a", func := "decoupage/decoupagelaw08.KinNil", spec := "kinNil", apart := false, narrowed := true }
def KinNilUptoSaid : Prop := kinNilUptoRow.holds Try.pinned (OpenSpec.upto kinNilSpec)

end Rows
end Go.Proofs.Ytdnohhcoapkhaaa
