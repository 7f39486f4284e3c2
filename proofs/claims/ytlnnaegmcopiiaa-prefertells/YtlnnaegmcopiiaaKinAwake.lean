/- Contract of the law's own awake; an argument that is a number, opened; no conditions beyond those written in each theorem. -/
import Derived.Test.YtlnnaegmcopiiaaKinOf
import Derived.Test.YtlnnaegmcopiiaaKinAt
import Derived.Test.YtlnnaegmcopiiaaBuild
import Derived.Test.YtlnnaegmcopiiaaArgs
namespace Go.Proofs.Ytlnnaegmcopiiaa
open Go.ChangeShapes Go.WideShapes Go.ChangeAt Go.RowKit Go.Joins Go.Deep
set_option maxRecDepth 100000
section
variable {H : Type} {enc : TypeId × Value → H} {w : World} {base : Nat} {spare : Nat → Bool} {held : Bool} {r : Reach} {b0 : Nat} {v : Value} {d : DataW H} {p : List MemPlace}
theorem open_int3 (hv : Value.okWide Try.prog w r b0 3 v) (h : DataW.Trod enc Try.prog w base spare held 3 v d p) : ∃ n : Int, v = .int .i64 n ∧ -9223372036854775808 ≤ n ∧ n < 9223372036854775808 := by
  obtain ⟨n, rfl, rfl, rfl, wn⟩ := open_int Try.underlying3 hv h
  exact ⟨n, rfl, wf_i64 wn⟩
end
/-- The node that the law's awake makes. -/
def plainN (p : Int) : Nd := ⟨plainK 4, p, plain_full (Nat.le_refl 4)⟩
theorem plain_tree : FormedT [plainN (-1)] := by
  refine ⟨by decide, fun i hi => ?_⟩
  obtain rfl : i = 0 := by simpa using hi
  exact ⟨(okAt0 _).2 rfl, plain_formed⟩
theorem plain_check : checkT [plainN (-1)] = 0 := by
  refine check0 (decide_eq_true plain_tree) (decide_eq_true ⟨by decide, fun i hi => ?_⟩)
  obtain rfl : i = 0 := by simpa using hi
  rw [deep_root plain_tree]
  exact ⟨by decide, plain_within⟩
theorem check_formed {l : List Nd} (h : checkT l = 0) : FormedT l := by
  unfold checkT at h
  cases hf : formedT l
  · rw [hf] at h; simp at h
  · exact of_decide_eq_true hf
theorem KK.kv {w : World} {B G H : Nat} {l : List Nd} (h : KK w B G H l (endN l)) (hf : FormedT l) (hl : l.length ≤ 65535) : KV w (.pointer (some ⟨B, 0, none⟩)) l := .inr ⟨hf, hl, B, G, H, rfl, h⟩
end Go.Proofs.Ytlnnaegmcopiiaa
