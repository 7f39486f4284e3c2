/- Contract of the reference's top: how many children are at the top; no conditions beyond those written in each theorem. -/
import Derived.Test.YtmcjabbfhhdmmaaPStack
import Derived.Deep.DeepCutAuto
namespace Go.Proofs.Ytmcjabbfhhdmmaa
open Go.ChangeShapes Go.WideShapes Go.ChangeAt Go.RowKit
set_option maxRecDepth 100000
set_option linter.unusedVariables false
set_option maxHeartbeats 2000000 in
theorem refTop_any (a : Option Addr) (n c : Nat) (l : List Ch) (o : Bool) (w : World) (h : CS w a n l) (hn : n ≤ 1000) :
    Calls Try.prog 12 #[.slice a n c, .bool o] w fun e w' => e = .returned (.int .i64 (topN l o : Nat)) ∧ w = w' := by
  have HL : Hid (l.length = n) := h.1
  have HC := Lib.hid h
  clear h
  cases o
  · have e1 : Hid (topN l false = 0) := rfl
    go_enter Try.func12, Try.ntmps12
    go_wp2_with fail
    go_ret
    rw [e1.out]
    exact ⟨rfl, rfl⟩
  · have e1 : Hid (topN l true = topK l) := rfl
    go_enter Try.func12, Try.ntmps12
    go_wp2_with fail
    go_loopw [10] (fun i wr => ∃ k : Nat, k ≤ n ∧ i = .int .i64 k ∧ topK l = k + topK (l.drop k) ∧ wr = w) (fun i _ => n - (intOf i).toNat)
    case atStart => exact ⟨0, Nat.zero_le _, rfl, by simp, rfl⟩
    case round =>
      obtain ⟨k, hk, rfl, ht, rfl⟩ := hrel
      by_cases hkn : k < n
      · have hkl : k < l.length := by rw [HL.out]; exact hkn
        have hs := topK_step hkl
        obtain ⟨b, off, rfl, hats⟩ := HC.out.ats (by omega : 0 < n)
        have hat := hats k hkn
        have c6 := hat.2.2.2.2.2.2.1
        cases hthr : (cat l k).thr
        · rw [hthr] at c6 hs
          simp only [Bool.false_eq_true, if_false] at hs
          have HT : Hid (topN l true = k + 1) := by rw [e1.out, ht, hs]; exact rfl
          clear hats hat ht hs e1
          go_wp2_with fail
          go_ret
          rw [HT.out]
          exact ⟨by congr 2, rfl⟩
        · rw [hthr] at c6 hs
          simp only [if_true] at hs
          have HT : Hid (topK l = (k + 1) + topK (l.drop (k + 1))) := by unfold Hid; omega
          clear hats hat ht hs
          go_wp2_with fail
          go_roundw
          case rel => exact ⟨k + 1, by omega, by go_num, HT.out, by trivial⟩
          case measure => simp [intOf]; omega
      · obtain rfl : k = n := by omega
        have ed : l.drop k = [] := List.drop_eq_nil_of_le (by rw [HL.out]; exact Nat.le_refl _)
        rw [ed] at ht
        have HT : Hid (topN l true = k) := by rw [e1.out, ht]; exact rfl
        clear ht ed e1
        go_wp2_with fail
        go_ret
        rw [HT.out]
        exact ⟨rfl, rfl⟩
end Go.Proofs.Ytmcjabbfhhdmmaa
