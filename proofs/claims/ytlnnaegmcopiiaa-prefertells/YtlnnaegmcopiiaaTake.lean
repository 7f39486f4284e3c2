/- Contracts of take and of the methods of In that take bytes, and of NewIn; no conditions beyond those written in each theorem. -/
import Derived.Test.YtlnnaegmcopiiaaIn
namespace Go.Proofs.Ytlnnaegmcopiiaa
open Go.ChangeShapes Go.WideShapes Go.ChangeAt Go.RowKit
set_option maxRecDepth 100000
def headA (ad : Option Addr) (c : Nat) : Option Addr := if c = 0 then ad else ad.map (·.add (0 * 1))
def tailA (ad : Option Addr) (c q : Nat) : Option Addr := if c = q then ad else ad.map (·.add (q * 1))
theorem headA_some (b off c : Nat) : headA (some ⟨b, off, none⟩) c = some ⟨b, off, none⟩ := by
  unfold headA; split
  · rfl
  · rw [Option.map_some, add_plain, Nat.zero_mul, Nat.add_zero]
theorem tailA_some {b off c q : Nat} (h : q < c) : tailA (some ⟨b, off, none⟩) c q = some ⟨b, off + q, none⟩ := by
  unfold tailA; rw [if_neg (by omega), Option.map_some, add_plain, Nat.mul_one]
theorem val_step {l : List Int} (h : Bytes8 l) {k : Nat} (hk : k < l.length) (h8 : k < 8) : bits .or .u64 (IntKind.u64.wrap (val (l.take k) * 256)) (IntKind.u64.wrap (bat l k)) = val (l.take (k + 1)) := by
  obtain ⟨v0, v1⟩ := val_bound (h.take k)
  rw [List.length_take, Nat.min_eq_left (by omega)] at v1
  have v2 : (256 : Int) ^ k ≤ 72057594037927936 := (by decide : ∀ k, k < 8 → (256 : Int) ^ k ≤ 72057594037927936) k h8
  have v3 : val (l.take k) < 72057594037927936 := Int.lt_of_lt_of_le v1 v2
  obtain ⟨b0, b1⟩ := bat_ok h k
  rw [IntKind.wrap_u64, IntKind.wrap_u64, Int.emod_eq_of_lt (by omega) (by omega), Int.emod_eq_of_lt (by omega) (by omega), or_byte _ _ v0 v3 b0 b1, val_take hk]
/-- What a request for n bytes answers. -/
def tkV (n : Nat) (l : List Int) : Int := if l.length < n then 0 else val (l.take n)
/-- What is left behind it. -/
def tkLn (n : Nat) (l : List Int) : List Int := if l.length < n then [] else l.drop n
/-- Whether it is bad behind it. -/
def tkB (n : Nat) (l : List Int) (bad : Bool) : Bool := if l.length < n then true else bad
theorem tkV_bound {n : Nat} {l : List Int} (h : Bytes8 l) : 0 ≤ tkV n l ∧ tkV n l < 256 ^ n := by
  unfold tkV
  split
  · exact ⟨Int.le_refl _, Int.pow_pos (by decide)⟩
  · have := val_bound (h.take n)
    rw [List.length_take, Nat.min_eq_left (by omega)] at this
    exact this
end Go.Proofs.Ytlnnaegmcopiiaa
