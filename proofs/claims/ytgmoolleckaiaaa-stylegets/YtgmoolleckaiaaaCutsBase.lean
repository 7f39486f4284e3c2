/- Small laws for the walk of StyleCuts: the head of a row of bytes, an argument that is a number of 16 bits; no conditions beyond those written in each theorem. -/
import Derived.Test.YtgmoolleckaiaaaRefBytes
import Derived.Test.YtgmoolleckaiaaaGet
import Derived.Test.YtgmoolleckaiaaaEqS
import Derived.Test.YtgmoolleckaiaaaFormsBase
namespace Go.Proofs.Ytgmoolleckaiaaa
open Go.ChangeShapes Go.WideShapes Go.ChangeAt Go.RowKit
theorem head_bs {w : World} {ad : Option Addr} {n k : Nat} {l : List Int} (h : BS w ad n l) (hk : k ≤ n) : BS w ad k (l.take k) := by
  refine ⟨by rw [List.length_take, h.1]; omega, fun h0 => ?_⟩
  obtain ⟨b, off, rfl, hc⟩ := h.2 (by omega)
  exact ⟨b, off, rfl, fun i hi => by rw [bat_take hi]; exact hc i (by omega)⟩
theorem wf_u16 {n : Int} (h : (Lit.int .u16 n).wf = true) : 0 ≤ n ∧ n < 65536 := by
  simp [Lit.wf, IntKind.min, IntKind.max, IntKind.signed, IntKind.bits] at h; omega
theorem open_u16 {H : Type} {enc : TypeId × Value → H} {w : World} {base : Nat} {spare : Nat → Bool} {held : Bool} {r : Reach} {b0 : Nat} {v : Value} {d : DataW H} {p : List MemPlace}
    (hv : Value.okWide Try.prog w r b0 47 v) (h : DataW.Trod enc Try.prog w base spare held 47 v d p) : ∃ n : Int, v = .int .u16 n ∧ 0 ≤ n ∧ n < 65536 := by
  obtain ⟨n, rfl, rfl, rfl, wn⟩ := open_int Try.underlying47 hv h
  exact ⟨n, rfl, wf_u16 wn⟩
theorem getV_no {t : St} (h : getOk t = false) : getV t = zeroS ∧ getE t = ⟨[], true⟩ := by
  unfold getV getE; rw [h]; exact ⟨rfl, rfl⟩
theorem eq_zero (w : World) : (binOp .eql 27 (sv zeroS) (.agg #[.bool false, .int .i64 0, .int .i64 0, .int .i64 0, .int .i64 0, .int .i64 0, .int .i64 0, .int .i64 0, .int .i64 0, .int .i64 0, .int .i64 0, .int .i64 0, .int .i64 0, .int .i64 0, .int .i64 0, .int .i64 0, .int .i64 0, .int .i64 0, .int .i64 0, .int .i64 0, .int .i64 0, .int .i64 0, .int .i64 0, .int .i64 0, .int .i64 0, .int .i64 0, .int .i64 0, .int .i64 0, .int .i64 0, .int .i64 0, .int .i64 0, .int .i64 0, .int .i64 0, .int .i64 0, .int .i64 0, .int .i64 0, .int .i64 0, .int .i64 0, .int .i64 0, .int .i64 0, .int .i64 0, .int .i64 0, .bool false, .bool false, .int .i64 0, .bool false, .int .i64 0, .int .i64 0])).run Try.prog w = .ok (.bool true) w := by
  rw [zero_lit]; exact eql_self zeroS zero_full w
theorem guard_zero (x y : Operand) (w : World) : (eqGuard .eql 27 x y (sv zeroS) (.agg #[.bool false, .int .i64 0, .int .i64 0, .int .i64 0, .int .i64 0, .int .i64 0, .int .i64 0, .int .i64 0, .int .i64 0, .int .i64 0, .int .i64 0, .int .i64 0, .int .i64 0, .int .i64 0, .int .i64 0, .int .i64 0, .int .i64 0, .int .i64 0, .int .i64 0, .int .i64 0, .int .i64 0, .int .i64 0, .int .i64 0, .int .i64 0, .int .i64 0, .int .i64 0, .int .i64 0, .int .i64 0, .int .i64 0, .int .i64 0, .int .i64 0, .int .i64 0, .int .i64 0, .int .i64 0, .int .i64 0, .int .i64 0, .int .i64 0, .int .i64 0, .int .i64 0, .int .i64 0, .int .i64 0, .int .i64 0, .bool false, .bool false, .int .i64 0, .bool false, .int .i64 0, .int .i64 0])).run Try.prog w = .ok () w := by
  rw [zero_lit]; exact guard_self .eql x y zeroS zeroS w
end Go.Proofs.Ytgmoolleckaiaaa
