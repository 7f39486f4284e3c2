/- What a walk knows of the memory behind calls that lay new blocks and turn none that were there. -/
import Derived.Test.YtckfdlolmenigaaEq
import Derived.Deep.QuietTactic
import Derived.BigQuiet
namespace Go.Proofs.Ytckfdlolmenigaa
open Go.ChangeShapes Go.WideShapes Go.ChangeAt Go.RowKit
/-- w' holds all blocks of W, as they were. -/
def Seen (W w' : World) : Prop := Below W.heap.size W w'
theorem Seen.refl (W : World) : Seen W W := Below.refl _ _
theorem Seen.drew {W w' : World} (h : Seen W w') : Seen W w'.drew := Below.drew h
theorem Seen.next {W w1 w2 : World} (h : Seen W w1) (hb : Below w1.heap.size w1 w2) : Seen W w2 := Below.trans h (hb.mono h.size)
theorem Seen.alloc {W w1 : World} (h : Seen W w1) (o : Obj) : Seen W (w1.alloc o) := Below.alloc h h.size o
theorem Seen.trans {W w1 w2 : World} (h : Seen W w1) (k : Seen w1 w2) : Seen W w2 := h.next k
theorem Seen.cell {W w' : World} (h : Seen W w') {a : Addr} {v : Value} (hc : W.cell? a = some v) : w'.cell? a = some v := by
  have hlt : a.block < W.heap.size := by
    rcases Nat.lt_or_ge a.block W.heap.size with h1 | h1
    · exact h1
    · simp [World.cell?, Array.getElem?_eq_none h1] at hc
  rw [Below.cell h hlt]; exact hc
/-- A rectangle lies at the start of this block. -/
def Box (w : World) (b : Nat) (r : R4) : Prop :=
  w.cell? ⟨b, 0, none⟩ = some (.int .i64 r.x0) ∧ w.cell? ⟨b, 1, none⟩ = some (.int .i64 r.y0) ∧ w.cell? ⟨b, 2, none⟩ = some (.int .i64 r.x1) ∧ w.cell? ⟨b, 3, none⟩ = some (.int .i64 r.y1)
theorem Seen.box {W w' : World} (h : Seen W w') {b : Nat} {r : R4} (hb : Box W b r) : Box w' b r := ⟨h.cell hb.1, h.cell hb.2.1, h.cell hb.2.2.1, h.cell hb.2.2.2⟩
theorem quiet_call {P : Program} {f : FuncId} {args : Array Value} {v : Value} {W w1 : World} (h1 : Seen W w1) (h : Calls P f args w1 fun e w' => e = .returned v ∧ Below w1.heap.size w1 w') :
    Calls P f args w1 fun e w'' => e = .returned v ∧ Seen W w'' := h.mono fun _ _ h => ⟨h.1, h1.next h.2⟩
theorem isB {P : Program} {f : FuncId} {args : Array Value} {b c : Bool} {w : World} (h : Calls P f args w fun e w' => e = .returned (.bool b) ∧ Below w.heap.size w w') (hb : b = c) :
    Calls P f args w fun e w' => e = .returned (.bool c) ∧ Below w.heap.size w w' := hb ▸ h
theorem box_new (w : World) (r : R4) : Box (w.alloc (.cells #[.int .i64 r.x0, .int .i64 r.y0, .int .i64 r.x1, .int .i64 r.y1] 23)) w.heap.size r := by unfold Box; simp
theorem Box.alloc {w : World} {b : Nat} {r : R4} (h : Box w b r) (o : Obj) : Box (w.alloc o) b r := ((Seen.refl w).alloc o).box h
/-- The cells of a box, as rules for every world that holds the blocks of W. -/
theorem Box.rules {W : World} {b : Nat} {r : R4} (hb : Box W b r) : ∀ w', Seen W w' →
    w'.cell? ⟨b, 0, none⟩ = some (.int .i64 r.x0) ∧ w'.cell? ⟨b, 1, none⟩ = some (.int .i64 r.y0) ∧ w'.cell? ⟨b, 2, none⟩ = some (.int .i64 r.x1) ∧ w'.cell? ⟨b, 3, none⟩ = some (.int .i64 r.y1) := fun _ h => h.box hb
end Go.Proofs.Ytckfdlolmenigaa
