/-
  No cell of these rows narrows 'for every input' (looked for: loops, veiled, ifaces, maps, wideKeys, modest, calm, conditions, laid).
  DERIVED. THE GIVEN ROWS OF THIS SEAT. 2 by the template 'for every input the law returns true; each argument reads behind the call as it read before'; 0 by the template 'total and deterministic' (their statements: YtlnnaegmcopiiaaTotals.lean).
  GIVEN WITH THE SEED: the statements are not yours to turn. If you find one false, say at which input.
  Laid BY PROGRAM, IN A SANDBOX (cutbox-rows.mjs): the forced cells as the released guide's own fill.sh prints them over the translation d736ffe8da19b5ca… (all of the seat's roots in one cut). By AI agents, Wed Nov 11 2026. No macro, syntax, notation, axiom, sorry.
-/
import Derived.Test.YtlnnaegmcopiiaaChecked
import GoSem.Claim
import GoSem.ClaimJoined
import GoSem.ClaimMapViews
import Derived.JoinedTies
import Derived.KernelRfl
namespace Go.Proofs.Ytlnnaegmcopiiaa
/- THE CELL 'sum', in the pinned program and in every row, IS THE sha256 OF THE DUMP (.gsa) THAT YtlnnaegmcopiiaaProg.lean LOADS. Nothing in Lean hashes anything: it is a label: what it is worth is what the hold of that sum in a sandbox is worth. -/
noncomputable def Try.pinned : Pinned := { name := "ytlnnaegmcopiiaa", sum := "d736ffe8da19b5cac3e0175bce49ed908c341dc88f995b8eae2d85314ace4b93", checked := Try.checked }
namespace Rows
def none {H : Type} : Left H := { results := [], args := [] }

/-- 'decoupagelaw15.PreferTells': WHATEVER THE INPUT: true; the input reads as it did. -/
def preferTellsSpec : ChangeSpec := { name := "preferTells", fn := fun _ => fun
  | [d1, d2] => { results := [.lit (.bool true)], args := [d1, d2] }
  | _ => none }
def preferTellsRow : OpenClaim := { program := "ytlnnaegmcopiiaa", sum := "d736ffe8da19b5cac3e0175bce49ed908c341dc88f995b8eae2d85314ace4b93", func := "decoupage/decoupagelaw15.PreferTells", spec := "preferTells", inPlace := ["math/bits.Add64"], recurses := true, apart := false }
def PreferTellsSaid : Prop := preferTellsRow.holds Try.pinned (OpenSpec.ofChange preferTellsSpec)

/-- ITS FALSE NEIGHBOUR: 'it returns false'. Refute it at one input. -/
def preferTellsWrong : ChangeSpec := { name := "preferTells", fn := fun _ => fun
  | [d1, d2] => { results := [.lit (.bool false)], args := [d1, d2] }
  | _ => none }
def PreferTellsWrongFalsely : Prop := preferTellsRow.holds Try.pinned (OpenSpec.ofChange preferTellsWrong)

/-- 'decoupagelaw15.PreferWider': WHATEVER THE INPUT: true; the input reads as it did. -/
def preferWiderSpec : ChangeSpec := { name := "preferWider", fn := fun _ => fun
  | [d1, d2] => { results := [.lit (.bool true)], args := [d1, d2] }
  | _ => none }
def preferWiderRow : OpenClaim := { program := "ytlnnaegmcopiiaa", sum := "d736ffe8da19b5cac3e0175bce49ed908c341dc88f995b8eae2d85314ace4b93", func := "decoupage/decoupagelaw15.PreferWider", spec := "preferWider", inPlace := ["math/bits.Add64"], recurses := true, apart := false }
def PreferWiderSaid : Prop := preferWiderRow.holds Try.pinned (OpenSpec.ofChange preferWiderSpec)

/-- ITS FALSE NEIGHBOUR: 'it returns false'. Refute it at one input. -/
def preferWiderWrong : ChangeSpec := { name := "preferWider", fn := fun _ => fun
  | [d1, d2] => { results := [.lit (.bool false)], args := [d1, d2] }
  | _ => none }
def PreferWiderWrongFalsely : Prop := preferWiderRow.holds Try.pinned (OpenSpec.ofChange preferWiderWrong)

/- THE SECOND FORM. 'bulk': how many values and letters a reading holds, each counted each time it is reached (what is shared counts as often as it is met; a slice's spare places count too). A statement '..UptoSaid' is the law's where the arguments, and the package variables that the reading takes, are together of bulk at most 1048576: NARROWER than '..Said'. Prove '..Said' where nothing that the law and all that it calls make is longer than what came in: it says more and counts as full. Else prove '..UptoSaid'. A law counts once. -/
mutual
def uptoBulk {H : Type} : DataW H → Nat
  | .lit (.string bytes) => bytes.length + 1
  | .lit _ => 1
  | .nil => 1
  | .ptr d => uptoBulk d + 1
  | .slice elems spare => uptoBulkAll elems + uptoBulkAll spare + 1
  | .agg parts => uptoBulkAll parts + 1
  | .iface _ d => uptoBulk d + 1
  | .map entries => uptoBulkEntries entries + 1
  | .held _ => 1
def uptoBulkAll {H : Type} : List (DataW H) → Nat
  | [] => 0
  | d :: r => uptoBulk d + uptoBulkAll r
def uptoBulkEntries {H : Type} : List (Lit × DataW H) → Nat
  | [] => 0
  | x :: r => uptoBulkEntry x + uptoBulkEntries r
def uptoBulkEntry {H : Type} : Lit × DataW H → Nat
  | (.string bytes, d) => bytes.length + uptoBulk d + 1
  | (_, d) => uptoBulk d + 1
 end
def uptoSmall : (H : Type) → List (DataW H) → Bool := fun _ ds => decide (uptoBulkAll ds ≤ 1048576)
def OpenSpec.upto (s : _root_.Go.ChangeSpec) : _root_.Go.OpenSpec := { _root_.Go.OpenSpec.ofChange s with cond := some uptoSmall }

/-- 'decoupagelaw15.PreferTells', WHERE WHAT IT READS IS OF BULK AT MOST 1048576: true; the input reads as it did. -/
def preferTellsUptoRow : OpenClaim := { program := "ytlnnaegmcopiiaa", sum := "d736ffe8da19b5cac3e0175bce49ed908c341dc88f995b8eae2d85314ace4b93", func := "decoupage/decoupagelaw15.PreferTells", spec := "preferTells", inPlace := ["math/bits.Add64"], recurses := true, apart := false, narrowed := true }
def PreferTellsUptoSaid : Prop := preferTellsUptoRow.holds Try.pinned (OpenSpec.upto preferTellsSpec)

/-- 'decoupagelaw15.PreferWider', WHERE WHAT IT READS IS OF BULK AT MOST 1048576: true; the input reads as it did. -/
def preferWiderUptoRow : OpenClaim := { program := "ytlnnaegmcopiiaa", sum := "d736ffe8da19b5cac3e0175bce49ed908c341dc88f995b8eae2d85314ace4b93", func := "decoupage/decoupagelaw15.PreferWider", spec := "preferWider", inPlace := ["math/bits.Add64"], recurses := true, apart := false, narrowed := true }
def PreferWiderUptoSaid : Prop := preferWiderUptoRow.holds Try.pinned (OpenSpec.upto preferWiderSpec)

end Rows
end Go.Proofs.Ytlnnaegmcopiiaa
