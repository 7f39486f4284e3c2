/-
  No cell of these rows narrows 'for every input' (looked for: loops, veiled, ifaces, maps, wideKeys, modest, calm, conditions, laid).
  DERIVED. THE GIVEN ROWS OF THIS SEAT. 4 by the template 'for every input the law returns true; each argument reads behind the call as it read before'; 0 by the template 'total and deterministic' (their statements: YtgmoolleckaiaaaTotals.lean).
  GIVEN WITH THE SEED: the statements are not yours to turn. If you find one false, say at which input.
  Laid BY PROGRAM, IN A SANDBOX (cutbox-rows.mjs): the forced cells as the released guide's own fill.sh prints them over the translation 9cd1ee82ec09107a… (all of the seat's roots in one cut). By AI agents, Wed Nov 11 2026. No macro, syntax, notation, axiom, sorry.
-/
import Derived.Test.YtgmoolleckaiaaaChecked
import GoSem.Claim
import GoSem.ClaimJoined
import GoSem.ClaimMapViews
import Derived.JoinedTies
import Derived.KernelRfl
namespace Go.Proofs.Ytgmoolleckaiaaa
/- THE CELL 'sum', in the pinned program and in every row, IS THE sha256 OF THE DUMP (.gsa) THAT YtgmoolleckaiaaaProg.lean LOADS. Nothing in Lean hashes anything: it is a label: what it is worth is what the hold of that sum in a sandbox is worth. -/
noncomputable def Try.pinned : Pinned := { name := "ytgmoolleckaiaaa", sum := "9cd1ee82ec09107a8558c559c1b0b4232f569f6d55ed8016425fcdb5091bf992", checked := Try.checked }
namespace Rows
def none {H : Type} : Left H := { results := [], args := [] }

/-- 'decoupagelaw06.StyleForms': WHATEVER THE INPUT: true; the input reads as it did. -/
def styleFormsSpec : ChangeSpec := { name := "styleForms", fn := fun _ => fun
  | [d] => { results := [.lit (.bool true)], args := [d] }
  | _ => none }
def styleFormsRow : OpenClaim := { program := "ytgmoolleckaiaaa", sum := "9cd1ee82ec09107a8558c559c1b0b4232f569f6d55ed8016425fcdb5091bf992", func := "decoupage/decoupagelaw06.StyleForms", spec := "styleForms", apart := false }
def StyleFormsSaid : Prop := styleFormsRow.holds Try.pinned (OpenSpec.ofChange styleFormsSpec)

/-- ITS FALSE NEIGHBOUR: 'it returns false'. Refute it at one input. -/
def styleFormsWrong : ChangeSpec := { name := "styleForms", fn := fun _ => fun
  | [d] => { results := [.lit (.bool false)], args := [d] }
  | _ => none }
def StyleFormsWrongFalsely : Prop := styleFormsRow.holds Try.pinned (OpenSpec.ofChange styleFormsWrong)

/-- 'decoupagelaw06.StylePuts': WHATEVER THE INPUT: true; the input reads as it did. -/
def stylePutsSpec : ChangeSpec := { name := "stylePuts", fn := fun _ => fun
  | [d1, d2] => { results := [.lit (.bool true)], args := [d1, d2] }
  | _ => none }
def stylePutsRow : OpenClaim := { program := "ytgmoolleckaiaaa", sum := "9cd1ee82ec09107a8558c559c1b0b4232f569f6d55ed8016425fcdb5091bf992", func := "decoupage/decoupagelaw06.StylePuts", spec := "stylePuts", recurses := true, apart := false }
def StylePutsSaid : Prop := stylePutsRow.holds Try.pinned (OpenSpec.ofChange stylePutsSpec)

/-- ITS FALSE NEIGHBOUR: 'it returns false'. Refute it at one input. -/
def stylePutsWrong : ChangeSpec := { name := "stylePuts", fn := fun _ => fun
  | [d1, d2] => { results := [.lit (.bool false)], args := [d1, d2] }
  | _ => none }
def StylePutsWrongFalsely : Prop := stylePutsRow.holds Try.pinned (OpenSpec.ofChange stylePutsWrong)

/-- 'decoupagelaw06.StyleGets': WHATEVER THE INPUT: true; the input reads as it did. -/
def styleGetsSpec : ChangeSpec := { name := "styleGets", fn := fun _ => fun
  | [d] => { results := [.lit (.bool true)], args := [d] }
  | _ => none }
def styleGetsRow : OpenClaim := { program := "ytgmoolleckaiaaa", sum := "9cd1ee82ec09107a8558c559c1b0b4232f569f6d55ed8016425fcdb5091bf992", func := "decoupage/decoupagelaw06.StyleGets", spec := "styleGets", recurses := true, apart := false }
def StyleGetsSaid : Prop := styleGetsRow.holds Try.pinned (OpenSpec.ofChange styleGetsSpec)

/-- ITS FALSE NEIGHBOUR: 'it returns false'. Refute it at one input. -/
def styleGetsWrong : ChangeSpec := { name := "styleGets", fn := fun _ => fun
  | [d] => { results := [.lit (.bool false)], args := [d] }
  | _ => none }
def StyleGetsWrongFalsely : Prop := styleGetsRow.holds Try.pinned (OpenSpec.ofChange styleGetsWrong)

/-- 'decoupagelaw06.StyleCuts': WHATEVER THE INPUT: true; the input reads as it did. -/
def styleCutsSpec : ChangeSpec := { name := "styleCuts", fn := fun _ => fun
  | [d1, d2] => { results := [.lit (.bool true)], args := [d1, d2] }
  | _ => none }
def styleCutsRow : OpenClaim := { program := "ytgmoolleckaiaaa", sum := "9cd1ee82ec09107a8558c559c1b0b4232f569f6d55ed8016425fcdb5091bf992", func := "decoupage/decoupagelaw06.StyleCuts", spec := "styleCuts", recurses := true, apart := false }
def StyleCutsSaid : Prop := styleCutsRow.holds Try.pinned (OpenSpec.ofChange styleCutsSpec)

/-- ITS FALSE NEIGHBOUR: 'it returns false'. Refute it at one input. -/
def styleCutsWrong : ChangeSpec := { name := "styleCuts", fn := fun _ => fun
  | [d1, d2] => { results := [.lit (.bool false)], args := [d1, d2] }
  | _ => none }
def StyleCutsWrongFalsely : Prop := styleCutsRow.holds Try.pinned (OpenSpec.ofChange styleCutsWrong)

/- THE SECOND FORM. 'bulk': how many values and letters a reading holds, each counted each time it is reached (what is shared counts as often as it is met; a slice's spare places count too). A statement '..UptoSaid' is the law's where the arguments, and the package variables that the reading takes, are together of bulk at most 1048576: NARROWER than '..Said'. Prove '..Said' where nothing that the law and all that it calls make is longer than what came in: it says more and counts as full. Else prove '..UptoSaid'. A law counts once. -/
mutual
def uptoBulk {H : Type} : DataW H → Nat
  | .lit (.string bytes) => bytes.length + 1
  | .lit _ => 1
  | .nil => 1
  | .ptr d => uptoBulk d + 1
  | .slice elems spare => uptoBulkAll elems + uptoBulkAll spare + 1
  | .agg parts => uptoBulkAll parts + 1
  | .iface _ d => uptoBulk d + 1
  | .map entries => uptoBulkEntries entries + 1
  | .held _ => 1
def uptoBulkAll {H : Type} : List (DataW H) → Nat
  | [] => 0
  | d :: r => uptoBulk d + uptoBulkAll r
def uptoBulkEntries {H : Type} : List (Lit × DataW H) → Nat
  | [] => 0
  | x :: r => uptoBulkEntry x + uptoBulkEntries r
def uptoBulkEntry {H : Type} : Lit × DataW H → Nat
  | (.string bytes, d) => bytes.length + uptoBulk d + 1
  | (_, d) => uptoBulk d + 1
 end
def uptoSmall : (H : Type) → List (DataW H) → Bool := fun _ ds => decide (uptoBulkAll ds ≤ 1048576)
def OpenSpec.upto (s : _root_.Go.ChangeSpec) : _root_.Go.OpenSpec := { _root_.Go.OpenSpec.ofChange s with cond := some uptoSmall }

/-- 'decoupagelaw06.StyleForms', WHERE WHAT IT READS IS OF BULK AT MOST 1048576: true; the input reads as it did. -/
def styleFormsUptoRow : OpenClaim := { program := "ytgmoolleckaiaaa", sum := "9cd1ee82ec09107a8558c559c1b0b4232f569f6d55ed8016425fcdb5091bf992", func := "decoupage/decoupagelaw06.StyleForms", spec := "styleForms", apart := false, narrowed := true }
def StyleFormsUptoSaid : Prop := styleFormsUptoRow.holds Try.pinned (OpenSpec.upto styleFormsSpec)

/-- 'decoupagelaw06.StylePuts', WHERE WHAT IT READS IS OF BULK AT MOST 1048576: true; the input reads as it did. -/
def stylePutsUptoRow : OpenClaim := { program := "ytgmoolleckaiaaa", sum := "9cd1ee82ec09107a8558c559c1b0b4232f569f6d55ed8016425fcdb5091bf992", func := "decoupage/decoupagelaw06.StylePuts", spec := "stylePuts", recurses := true, apart := false, narrowed := true }
def StylePutsUptoSaid : Prop := stylePutsUptoRow.holds Try.pinned (OpenSpec.upto stylePutsSpec)

/-- 'decoupagelaw06.StyleGets', WHERE WHAT IT READS IS OF BULK AT MOST 1048576: true; the input reads as it did. -/
def styleGetsUptoRow : OpenClaim := { program := "ytgmoolleckaiaaa", sum := "9cd1ee82ec09107a8558c559c1b0b4232f569f6d55ed8016425fcdb5091bf992", func := "decoupage/decoupagelaw06.StyleGets", spec := "styleGets", recurses := true, apart := false, narrowed := true }
def StyleGetsUptoSaid : Prop := styleGetsUptoRow.holds Try.pinned (OpenSpec.upto styleGetsSpec)

/-- 'decoupagelaw06.StyleCuts', WHERE WHAT IT READS IS OF BULK AT MOST 1048576: true; the input reads as it did. -/
def styleCutsUptoRow : OpenClaim := { program := "ytgmoolleckaiaaa", sum := "9cd1ee82ec09107a8558c559c1b0b4232f569f6d55ed8016425fcdb5091bf992", func := "decoupage/decoupagelaw06.StyleCuts", spec := "styleCuts", recurses := true, apart := false, narrowed := true }
def StyleCutsUptoSaid : Prop := styleCutsUptoRow.holds Try.pinned (OpenSpec.upto styleCutsSpec)

end Rows
end Go.Proofs.Ytgmoolleckaiaaa
