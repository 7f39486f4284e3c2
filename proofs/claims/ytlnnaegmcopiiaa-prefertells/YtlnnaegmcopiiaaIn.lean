/- A step that turns one block alone; no conditions beyond those written in each theorem. -/
import Derived.Test.YtlnnaegmcopiiaaBytes
namespace Go.Proofs.Ytlnnaegmcopiiaa
open Go.ChangeShapes Go.WideShapes Go.ChangeAt Go.RowKit
set_option maxRecDepth 100000
/-- A step that turns the block B alone. -/
def Turns (B : Nat) (w w' : World) : Prop := Moves (fun k => k = B) (fun k => k = B) w w'
theorem Turns.set (w : World) (B o : Nat) (v : Value) : Turns B w (w.setCell ⟨B, o, none⟩ v) := Moves.setCell (T := fun k => k = B) w (p := ⟨B, o, none⟩) rfl v
theorem Turns.trans {B : Nat} {w w1 w2 : World} (h : Turns B w w1) (k : Turns B w1 w2) : Turns B w w2 := Moves.trans h k
end Go.Proofs.Ytlnnaegmcopiiaa
