/- Bytes that were put are taken as they were: plain mathematics; worlds behind steps of an owner. -/
import Derived.Test.YtlnnaegmcopiiaaTake
import Derived.Test.YtlnnaegmcopiiaaArgs
namespace Go.Proofs.Ytlnnaegmcopiiaa
open Go.ChangeShapes Go.WideShapes Go.ChangeAt Go.RowKit
set_option maxRecDepth 100000
theorem tkV_be (v : Int) (n : Nat) (r : List Int) : tkV n (be v n ++ r) = v % 256 ^ n := by
  unfold tkV
  rw [if_neg (by rw [List.length_append, be_length]; omega), List.take_append_of_le_length (by rw [be_length]; omega), List.take_of_length_le (by rw [be_length]; omega), val_be]
theorem tkL_be (v : Int) (n : Nat) (r : List Int) : tkLn n (be v n ++ r) = r := by
  unfold tkLn
  rw [if_neg (by rw [List.length_append, be_length]; omega), List.drop_append_of_le_length (by rw [be_length]; omega), List.drop_of_length_le (by rw [be_length]; omega), List.nil_append]
theorem tkB_be (v : Int) (n : Nat) (r : List Int) (bad : Bool) : tkB n (be v n ++ r) bad = bad := by
  unfold tkB
  rw [if_neg (by rw [List.length_append, be_length]; omega)]
theorem back8 {n : Int} (h : -9223372036854775808 ≤ n ∧ n < 9223372036854775808) : wrap64 (n % 18446744073709551616 % 256 ^ 8) = n := by
  unfold wrap64
  omega
theorem back1 {n : Int} (h : 0 ≤ n ∧ n < 256) : n % 18446744073709551616 % 256 ^ 1 = n := by omega
theorem Turns.below {B n : Nat} {w w' : World} (h : Turns B w w') (hn : n ≤ w.heap.size) (hB : n ≤ B) : Below n w w' := Moves.below h hn (fun k hk => by rw [hk]; exact hB)
theorem Seen.turns {w w1 w2 : World} {B : Nat} (h : Seen w w1) (k : Turns B w1 w2) (hB : w.heap.size ≤ B) : Seen w w2 := Below.trans h (k.below h.size hB)
theorem Seen.moves {w w1 w2 : World} {T T' : Nat → Prop} (h : Seen w w1) (k : Moves T T' w1 w2) (hT : ∀ k, T k → w.heap.size ≤ k) : Seen w w2 := Below.trans h (k.below h.size hT)
end Go.Proofs.Ytlnnaegmcopiiaa
