/- An argument that is a slice of nodes, opened; no conditions beyond those written in each theorem. -/
import Derived.Test.YtlnnaegmcopiiaaOpenS
import Derived.Test.YtlnnaegmcopiiaaNdMem
namespace Go.Proofs.Ytlnnaegmcopiiaa
open Go.ChangeShapes Go.WideShapes Go.ChangeAt Go.RowKit
set_option maxRecDepth 100000
/-- All that a node of the program can hold. -/
def OkN (q : Nd) : Prop := OkS q.s ∧ i64B q.p
section
variable {H : Type} {enc : TypeId × Value → H} {w : World} {base : Nat} {spare : Nat → Bool} {held : Bool}
theorem c51 : Try.prog.cellsOf 42 = 49 := by kernel_rfl
theorem trod_node {fuel : Nat} {x : DataW H × List MemPlace} {cs : List Value} (h : DataW.trod enc Try.prog w base spare held fuel 42 cs = some x) : ∃ q : Nd, cs = ndl q ∧ OkN q := by
  obtain ⟨xs, n, _, _, hl, hxl, hf⟩ := DataW.trod_struct Try.underlying42 h
  rw [c51] at hl
  obtain ⟨y0, e0⟩ := some_of (i := 0) hxl (by decide)
  obtain ⟨y1, e1⟩ := some_of (i := 1) hxl (by decide)
  have h0 : DataW.trod enc Try.prog w base spare held n 39 (cs.take 48) = some y0 := by have h := (hf 0 _ rfl).trans e0; simpa [c27] using h
  have h1 : DataW.trod enc Try.prog w base spare held n 3 ((cs.drop 48).take 1) = some y1 := by have h := (hf 1 _ rfl).trans e1; simpa [c3] using h
  obtain ⟨s, hs, oks⟩ := trod_style h0
  have hd : (cs.drop 48).length = 1 := by rw [List.length_drop, hl]
  rw [List.take_of_length_le (by omega)] at h1
  match hq : cs.drop 48, hd with
  | [v], _ =>
    rw [hq] at h1
    obtain ⟨p, rfl, okp⟩ := trod_i Try.underlying3 h1
    refine ⟨⟨s, p, oks.full⟩, ?_, oks, okp⟩
    show cs = stl s ++ [.int .i64 p]
    rw [← hs, ← hq, List.take_append_drop]
theorem open_nodes {r : Reach} {b0 : Nat} {v : Value} {d : DataW H} {p : List MemPlace} (hv : Value.okWide Try.prog w r b0 22 v) (h : DataW.Trod enc Try.prog w base spare held 22 v d p) :
    ∃ (a : Option Addr) (len cap : Nat) (l : List Nd), v = .slice a len cap ∧ NS w a len l ∧ (∀ q ∈ l, OkN q) ∧ len ≤ cap ∧ (a = none → cap = 0) :=
  open_list ndl OkN zeroN Try.underlying22 c51 (by omega) ndl_length (fun _ _ _ hx => trod_node hx) hv h
end
end Go.Proofs.Ytlnnaegmcopiiaa
