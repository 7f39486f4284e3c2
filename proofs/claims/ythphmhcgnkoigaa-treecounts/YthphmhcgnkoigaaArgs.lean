/- Arguments that came in, opened: a number, bytes; no conditions beyond those written in each theorem. -/
import Derived.Test.YthphmhcgnkoigaaOpenL
import Derived.Test.YthphmhcgnkoigaaBytes
namespace Go.Proofs.Ythphmhcgnkoigaa
open Go.ChangeShapes Go.WideShapes Go.ChangeAt Go.RowKit Go.Joins Go.Deep
set_option maxRecDepth 100000
theorem wf_u8 {n : Int} (h : (Lit.int .u8 n).wf = true) : 0 ≤ n ∧ n < 256 := by
  simp [Lit.wf, IntKind.min, IntKind.max, IntKind.signed, IntKind.bits] at h; omega
theorem wf_i64 {n : Int} (h : (Lit.int .i64 n).wf = true) : -9223372036854775808 ≤ n ∧ n < 9223372036854775808 := by
  simp [Lit.wf, IntKind.min, IntKind.max, IntKind.signed, IntKind.bits] at h; omega
section
variable {H : Type} {enc : TypeId × Value → H} {w : World} {base : Nat} {spare : Nat → Bool} {held : Bool} {r : Reach} {b0 : Nat} {v : Value} {d : DataW H} {p : List MemPlace}
theorem open_num (hv : Value.okWide Try.prog w r b0 2 v) (h : DataW.Trod enc Try.prog w base spare held 2 v d p) : ∃ n : Int, v = .int .i64 n ∧ -9223372036854775808 ≤ n ∧ n < 9223372036854775808 := by
  obtain ⟨n, rfl, rfl, rfl, wn⟩ := open_int Try.underlying2 hv h
  exact ⟨n, rfl, wf_i64 wn⟩
theorem open_bytes (hv : Value.okWide Try.prog w r b0 28 v) (h : DataW.Trod enc Try.prog w base spare held 28 v d p) :
    ∃ (a : Option Addr) (len cap : Nat) (l : List Int), v = .slice a len cap ∧ BS w a len l ∧ Bytes8 l ∧ len ≤ cap ∧ (a = none → cap = 0) := by
  obtain ⟨a, len, cap, l, rfl, hs, hok, hc, hn⟩ := open_list (fun x : Int => [Value.int .u8 x]) (fun x => 0 ≤ x ∧ x < 256) 0 Try.underlying28 (by kernel_rfl : Try.prog.cellsOf 5 = 1) (by omega) (fun _ => rfl)
    (fun fuel cs x hx => by obtain ⟨n, rfl, _, wn⟩ := DataW.trod_int Try.underlying5 hx; exact ⟨n, rfl, wf_u8 wn⟩) hv h
  refine ⟨a, len, cap, l, rfl, ⟨hs.1, fun h0 => ?_⟩, hok, hc, hn⟩
  obtain ⟨b, off, e, hcell⟩ := hs.2 h0
  refine ⟨b, off, e, fun i hi => ?_⟩
  have := hcell i hi 0 (by omega)
  rwa [Nat.mul_one, Nat.add_zero] at this
end
end Go.Proofs.Ythphmhcgnkoigaa
