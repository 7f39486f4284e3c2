/-
  No cell of these rows narrows 'for every input' (looked for: loops, veiled, ifaces, maps, wideKeys, modest, calm, conditions, laid).
  DERIVED. THE GIVEN ROWS OF THIS SEAT. 4 by the template 'for every input the law returns true; each argument reads behind the call as it read before'; 0 by the template 'total and deterministic' (their statements: YtnmohgdielpdmaaTotals.lean).
  GIVEN WITH THE SEED: the statements are not yours to turn. If you find one false, say at which input.
  Laid BY PROGRAM, IN A SANDBOX (cutbox-rows.mjs): the forced cells as the released guide's own fill.sh prints them over the translation b5e04368c02b8637… (all of the seat's roots in one cut). By AI agents, Wed Nov 11 2026. No macro, syntax, notation, axiom, sorry.
-/
import Derived.Test.YtnmohgdielpdmaaChecked
import GoSem.Claim
import GoSem.ClaimJoined
import GoSem.ClaimMapViews
import Derived.JoinedTies
import Derived.KernelRfl
namespace Go.Proofs.Ytnmohgdielpdmaa
/- THE CELL 'sum', in the pinned program and in every row, IS THE sha256 OF THE DUMP (.gsa) THAT YtnmohgdielpdmaaProg.lean LOADS. Nothing in Lean hashes anything: it is a label: what it is worth is what the hold of that sum in a sandbox is worth. -/
noncomputable def Try.pinned : Pinned := { name := "ytnmohgdielpdmaa", sum := "b5e04368c02b8637ab24029017cdd929c718b755cc6588be78f7e7b42e7a2847", checked := Try.checked }
namespace Rows
def none {H : Type} : Left H := { results := [], args := [] }

/-- 'decoupagelaw05.ScrollPuts': WHATEVER THE INPUT: true; the input reads as it did. -/
def scrollPutsSpec : ChangeSpec := { name := "scrollPuts", fn := fun _ => fun
  | [d] => { results := [.lit (.bool true)], args := [d] }
  | _ => none }
def scrollPutsRow : OpenClaim := { program := "ytnmohgdielpdmaa", sum := "b5e04368c02b8637ab24029017cdd929c718b755cc6588be78f7e7b42e7a2847", func := "decoupage/decoupagelaw05.ScrollPuts", spec := "scrollPuts", recurses := true, apart := false }
def ScrollPutsSaid : Prop := scrollPutsRow.holds Try.pinned (OpenSpec.ofChange scrollPutsSpec)

/-- ITS FALSE NEIGHBOUR: 'it returns false'. Refute it at one input. -/
def scrollPutsWrong : ChangeSpec := { name := "scrollPuts", fn := fun _ => fun
  | [d] => { results := [.lit (.bool false)], args := [d] }
  | _ => none }
def ScrollPutsWrongFalsely : Prop := scrollPutsRow.holds Try.pinned (OpenSpec.ofChange scrollPutsWrong)

/-- 'decoupagelaw05.ScrollTakes': WHATEVER THE INPUT: true; the input reads as it did. -/
def scrollTakesSpec : ChangeSpec := { name := "scrollTakes", fn := fun _ => fun
  | [d1, d2] => { results := [.lit (.bool true)], args := [d1, d2] }
  | _ => none }
def scrollTakesRow : OpenClaim := { program := "ytnmohgdielpdmaa", sum := "b5e04368c02b8637ab24029017cdd929c718b755cc6588be78f7e7b42e7a2847", func := "decoupage/decoupagelaw05.ScrollTakes", spec := "scrollTakes", apart := false }
def ScrollTakesSaid : Prop := scrollTakesRow.holds Try.pinned (OpenSpec.ofChange scrollTakesSpec)

/-- ITS FALSE NEIGHBOUR: 'it returns false'. Refute it at one input. -/
def scrollTakesWrong : ChangeSpec := { name := "scrollTakes", fn := fun _ => fun
  | [d1, d2] => { results := [.lit (.bool false)], args := [d1, d2] }
  | _ => none }
def ScrollTakesWrongFalsely : Prop := scrollTakesRow.holds Try.pinned (OpenSpec.ofChange scrollTakesWrong)

/-- 'decoupagelaw05.ScrollBack': WHATEVER THE INPUT: true; the input reads as it did. -/
def scrollBackSpec : ChangeSpec := { name := "scrollBack", fn := fun _ => fun
  | [d] => { results := [.lit (.bool true)], args := [d] }
  | _ => none }
def scrollBackRow : OpenClaim := { program := "ytnmohgdielpdmaa", sum := "b5e04368c02b8637ab24029017cdd929c718b755cc6588be78f7e7b42e7a2847", func := "decoupage/decoupagelaw05.ScrollBack", spec := "scrollBack", apart := false }
def ScrollBackSaid : Prop := scrollBackRow.holds Try.pinned (OpenSpec.ofChange scrollBackSpec)

/-- ITS FALSE NEIGHBOUR: 'it returns false'. Refute it at one input. -/
def scrollBackWrong : ChangeSpec := { name := "scrollBack", fn := fun _ => fun
  | [d] => { results := [.lit (.bool false)], args := [d] }
  | _ => none }
def ScrollBackWrongFalsely : Prop := scrollBackRow.holds Try.pinned (OpenSpec.ofChange scrollBackWrong)

/-- 'decoupagelaw05.ScrollNil': WHATEVER THE INPUT: true; the input reads as it did. -/
def scrollNilSpec : ChangeSpec := { name := "scrollNil", fn := fun _ => fun
  | [d] => { results := [.lit (.bool true)], args := [d] }
  | _ => none }
def scrollNilRow : OpenClaim := { program := "ytnmohgdielpdmaa", sum := "b5e04368c02b8637ab24029017cdd929c718b755cc6588be78f7e7b42e7a2847", func := "decoupage/decoupagelaw05.ScrollNil", spec := "scrollNil", apart := false }
def ScrollNilSaid : Prop := scrollNilRow.holds Try.pinned (OpenSpec.ofChange scrollNilSpec)

/-- ITS FALSE NEIGHBOUR: 'it returns false'. Refute it at one input. -/
def scrollNilWrong : ChangeSpec := { name := "scrollNil", fn := fun _ => fun
  | [d] => { results := [.lit (.bool false)], args := [d] }
  | _ => none }
def ScrollNilWrongFalsely : Prop := scrollNilRow.holds Try.pinned (OpenSpec.ofChange scrollNilWrong)

/- THE SECOND FORM. 'bulk': how many values and letters a reading holds, each counted each time it is reached (what is shared counts as often as it is met; a slice's spare places count too). A statement '..UptoSaid' is the law's where the arguments, and the package variables that the reading takes, are together of bulk at most 1048576: NARROWER than '..Said'. Prove '..Said' where nothing that the law and all that it calls make is longer than what came in: it says more and counts as full. Else prove '..UptoSaid'. A law counts once. -/
mutual
def uptoBulk {H : Type} : DataW H → Nat
  | .lit (.string bytes) => bytes.length + 1
  | .lit _ => 1
  | .nil => 1
  | .ptr d => uptoBulk d + 1
  | .slice elems spare => uptoBulkAll elems + uptoBulkAll spare + 1
  | .agg parts => uptoBulkAll parts + 1
  | .iface _ d => uptoBulk d + 1
  | .map entries => uptoBulkEntries entries + 1
  | .held _ => 1
def uptoBulkAll {H : Type} : List (DataW H) → Nat
  | [] => 0
  | d :: r => uptoBulk d + uptoBulkAll r
def uptoBulkEntries {H : Type} : List (Lit × DataW H) → Nat
  | [] => 0
  | x :: r => uptoBulkEntry x + uptoBulkEntries r
def uptoBulkEntry {H : Type} : Lit × DataW H → Nat
  | (.string bytes, d) => bytes.length + uptoBulk d + 1
  | (_, d) => uptoBulk d + 1
 end
def uptoSmall : (H : Type) → List (DataW H) → Bool := fun _ ds => decide (uptoBulkAll ds ≤ 1048576)
def OpenSpec.upto (s : _root_.Go.ChangeSpec) : _root_.Go.OpenSpec := { _root_.Go.OpenSpec.ofChange s with cond := some uptoSmall }

/-- 'decoupagelaw05.ScrollPuts', WHERE WHAT IT READS IS OF BULK AT MOST 1048576: true; the input reads as it did. -/
def scrollPutsUptoRow : OpenClaim := { program := "ytnmohgdielpdmaa", sum := "b5e04368c02b8637ab24029017cdd929c718b755cc6588be78f7e7b42e7a2847", func := "decoupage/decoupagelaw05.ScrollPuts", spec := "scrollPuts", recurses := true, apart := false, narrowed := true }
def ScrollPutsUptoSaid : Prop := scrollPutsUptoRow.holds Try.pinned (OpenSpec.upto scrollPutsSpec)

/-- 'decoupagelaw05.ScrollTakes', WHERE WHAT IT READS IS OF BULK AT MOST 1048576: true; the input reads as it did. -/
def scrollTakesUptoRow : OpenClaim := { program := "ytnmohgdielpdmaa", sum := "b5e04368c02b8637ab24029017cdd929c718b755cc6588be78f7e7b42e7a2847", func := "decoupage/decoupagelaw05.ScrollTakes", spec := "scrollTakes", apart := false, narrowed := true }
def ScrollTakesUptoSaid : Prop := scrollTakesUptoRow.holds Try.pinned (OpenSpec.upto scrollTakesSpec)

/-- 'decoupagelaw05.ScrollBack', WHERE WHAT IT READS IS OF BULK AT MOST 1048576: true; the input reads as it did. -/
def scrollBackUptoRow : OpenClaim := { program := "ytnmohgdielpdmaa", sum := "b5e04368c02b8637ab24029017cdd929c718b755cc6588be78f7e7b42e7a2847", func := "decoupage/decoupagelaw05.ScrollBack", spec := "scrollBack", apart := false, narrowed := true }
def ScrollBackUptoSaid : Prop := scrollBackUptoRow.holds Try.pinned (OpenSpec.upto scrollBackSpec)

/-- 'decoupagelaw05.ScrollNil', WHERE WHAT IT READS IS OF BULK AT MOST 1048576: true; the input reads as it did. -/
def scrollNilUptoRow : OpenClaim := { program := "ytnmohgdielpdmaa", sum := "b5e04368c02b8637ab24029017cdd929c718b755cc6588be78f7e7b42e7a2847", func := "decoupage/decoupagelaw05.ScrollNil", spec := "scrollNil", apart := false, narrowed := true }
def ScrollNilUptoSaid : Prop := scrollNilUptoRow.holds Try.pinned (OpenSpec.upto scrollNilSpec)

end Rows
end Go.Proofs.Ytnmohgdielpdmaa
