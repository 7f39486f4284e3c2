/- Bytes that were put are taken as they were: plain mathematics. -/
import Derived.Test.YtnmohgdielpdmaaAwake
import Derived.Test.YtnmohgdielpdmaaArgs
namespace Go.Proofs.Ytnmohgdielpdmaa
open Go.ChangeShapes Go.WideShapes Go.ChangeAt Go.RowKit
theorem tkV_be (v : Int) (n : Nat) (r : List Int) : tkV n (be v n ++ r) = v % 256 ^ n := by
  unfold tkV
  rw [if_neg (by rw [List.length_append, be_length]; omega), List.take_append_of_le_length (by rw [be_length]; omega), List.take_of_length_le (by rw [be_length]; omega), val_be]
theorem tkL_be (v : Int) (n : Nat) (r : List Int) : tkL n (be v n ++ r) = r := by
  unfold tkL
  rw [if_neg (by rw [List.length_append, be_length]; omega), List.drop_append_of_le_length (by rw [be_length]; omega), List.drop_of_length_le (by rw [be_length]; omega), List.nil_append]
theorem tkB_be (v : Int) (n : Nat) (r : List Int) (bad : Bool) : tkB n (be v n ++ r) bad = bad := by
  unfold tkB
  rw [if_neg (by rw [List.length_append, be_length]; omega)]
/-- The bytes of a piece: eight of its number, one of its kind. -/
def encP (q : Pc) : List Int := be (q.n % 18446744073709551616) 8 ++ be (q.kd % 18446744073709551616) 1
/-- Those of the first k pieces. -/
def encTo (l : List Pc) (k : Nat) : List Int := (l.take k).flatMap encP
/-- Those of the pieces from k on. -/
def encFrom (l : List Pc) (k : Nat) : List Int := (l.drop k).flatMap encP
theorem encTo_step {l : List Pc} {k : Nat} (h : k < l.length) : encTo l (k + 1) = encTo l k ++ encP (pat l k) := by
  unfold encTo
  rw [List.take_succ_eq_append_getElem h, List.flatMap_append, pat_eq h]; simp
theorem encFrom_step {l : List Pc} {k : Nat} (h : k < l.length) : encFrom l k = be ((pat l k).n % 18446744073709551616) 8 ++ (be ((pat l k).kd % 18446744073709551616) 1 ++ encFrom l (k + 1)) := by
  unfold encFrom
  rw [List.drop_eq_getElem_cons h, List.flatMap_cons, pat_eq h, encP, List.append_assoc]
theorem encTo_len (l : List Pc) (k : Nat) : (encTo l k).length ≤ 9 * k := by
  induction k with
  | zero => simp [encTo]
  | succ k ih =>
    by_cases h : k < l.length
    · rw [encTo_step h, List.length_append, encP, List.length_append, be_length, be_length]; omega
    · have e : encTo l (k + 1) = encTo l k := by
        unfold encTo; rw [List.take_of_length_le (by omega), List.take_of_length_le (by omega)]
      rw [e]; omega
theorem encTo_ok (l : List Pc) (k : Nat) : Bytes8 (encTo l k) := by
  intro x hx
  unfold encTo at hx
  rw [List.mem_flatMap] at hx
  obtain ⟨q, _, hq⟩ := hx
  exact ((be_ok _ 8).append (be_ok _ 1)) x hq
theorem encTo_all (l : List Pc) (n : Nat) (h : l.length = n) : encTo l n = encFrom l 0 := by
  unfold encTo encFrom; rw [List.take_of_length_le (by omega), List.drop_zero]
theorem encFrom_end (l : List Pc) (n : Nat) (h : l.length = n) : encFrom l n = [] := by
  unfold encFrom; rw [List.drop_of_length_le (by omega)]; rfl
theorem back8 {n : Int} (h : -9223372036854775808 ≤ n ∧ n < 9223372036854775808) : wrap64 (n % 18446744073709551616 % 256 ^ 8) = n := by
  unfold wrap64
  omega
theorem back1 {n : Int} (h : 0 ≤ n ∧ n < 256) : n % 18446744073709551616 % 256 ^ 1 = n := by omega
/-- The number of piece k is taken. -/
theorem eight_back {K : Nat → Prop} {B : Nat} {l : List Pc} {k : Nat} {w : World} (hk : k < l.length) (hok : ∀ q ∈ l, okP q) (h : IS K B (encFrom l k) false w) :
    Calls Try.prog 17 #[.pointer (some ⟨B, 0, none⟩)] w fun e w' => e = .returned (.int .i64 (pat l k).n) ∧ Turns B w w' ∧ IS K B (be ((pat l k).kd % 18446744073709551616) 1 ++ encFrom l (k + 1)) false w' := by
  rw [encFrom_step hk] at h
  have := iEight_any h
  rw [tkV_be, tkL_be, tkB_be, back8 (pat_ok hok k).2] at this
  exact this
/-- Its kind is taken. -/
theorem byte_back {K : Nat → Prop} {B : Nat} {l : List Pc} {k : Nat} {w : World} {r : List Int} (hok : ∀ q ∈ l, okP q) (h : IS K B (be ((pat l k).kd % 18446744073709551616) 1 ++ r) false w) :
    Calls Try.prog 14 #[.pointer (some ⟨B, 0, none⟩)] w fun e w' => e = .returned (.int .u8 (pat l k).kd) ∧ Turns B w w' ∧ IS K B r false w' := by
  have := iByte_any h
  rw [tkV_be, tkL_be, tkB_be, back1 (pat_ok hok k).1] at this
  exact this
theorem PS.rules {w : World} {b off n k : Nat} {l : List Pc} (h : ∀ i, i < n → w.cell? ⟨b, off + i * 2, none⟩ = some (.int .u8 (pat l i).kd) ∧ w.cell? ⟨b, off + i * 2 + 1, none⟩ = some (.int .i64 (pat l i).n)) (hk : k < n) :
    ∀ w', Seen w w' → w'.cell? ⟨b, off + k * 2, none⟩ = some (.int .u8 (pat l k).kd) ∧ w'.cell? ⟨b, off + k * 2 + 1, none⟩ = some (.int .i64 (pat l k).n) :=
  fun _ hs => ⟨hs.cell (h k hk).1, hs.cell (h k hk).2⟩
theorem Seen.turns {w w1 w2 : World} {B : Nat} (h : Seen w w1) (k : Turns B w1 w2) (hB : w.heap.size ≤ B) : Seen w w2 := Below.trans h (k.below h.size hB)
theorem Seen.moves {w w1 w2 : World} {T T' : Nat → Prop} (h : Seen w w1) (k : Moves T T' w1 w2) (hT : ∀ k, T k → w.heap.size ≤ k) : Seen w w2 := Below.trans h (k.below h.size hT)
end Go.Proofs.Ytnmohgdielpdmaa
