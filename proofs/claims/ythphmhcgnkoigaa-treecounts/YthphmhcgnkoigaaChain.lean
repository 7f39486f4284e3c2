/- A chain of plain nodes: valid, and how deep; plain mathematics. No conditions beyond those written in each theorem. -/
import Derived.Test.YthphmhcgnkoigaaAwakeT
import Derived.Test.YthphmhcgnkoigaaOpenN
import Derived.Test.YthphmhcgnkoigaaArgs
namespace Go.Proofs.Ythphmhcgnkoigaa
open Go.ChangeShapes Go.WideShapes Go.ChangeAt Go.RowKit
set_option maxRecDepth 100000
/-- Each node is the parent of the next one. -/
def chainL (k : Nat) : List Nd := (List.range k).map fun i : Nat => plainN ((i : Int) - 1)
theorem chainL_length (k : Nat) : (chainL k).length = k := by simp [chainL]
theorem chainL_step (k : Nat) : chainL (k + 1) = chainL k ++ [plainN ((k : Int) - 1)] := by
  unfold chainL; rw [List.range_succ, List.map_append]; rfl
theorem chainL_nd {k i : Nat} (h : i < k) : nd (chainL k) i = plainN ((i : Int) - 1) := by
  unfold nd chainL
  rw [List.getD_eq_getElem?_getD, List.getElem?_map, List.getElem?_range h]; rfl
theorem chain_ok {k i : Nat} (h : i < k) (hl : Low (chainL k) i) : okAt (chainL k) i := by
  rcases Nat.eq_zero_or_pos i with h0 | h0
  · subst h0
    rw [okAt0, chainL_nd h]
    rfl
  · rw [okAtS _ h0, chainL_nd h]
    show 0 ≤ (i : Int) - 1 ∧ upN (chainL k) (stepsTo (chainL k) ((i : Int) - 1) ((i : Int) - 1)) ((i : Int) - 1) = (i : Int) - 1
    exact ⟨by omega, (above_iff (n := i) (by rw [chainL_length]; omega) hl (by omega) (by omega) (by omega)).2 ⟨0, rfl⟩⟩
theorem chain_low {k i : Nat} (h : i ≤ k) : Low (chainL k) i := by
  induction i with
  | zero => exact fun j hj => absurd hj (by omega)
  | succ i ih => exact low_step (by rw [chainL_length]; omega) (ih (by omega)) (chain_ok (by omega) (ih (by omega)))
theorem chain_formed {k : Nat} (h : 0 < k) : formedT (chainL k) = true := by
  refine decide_eq_true ⟨by rw [chainL_length]; exact h, fun i hi => ?_⟩
  rw [chainL_length] at hi
  exact ⟨chain_ok hi (chain_low (by omega)), by rw [chainL_nd hi]; exact plain_formed⟩
theorem chain_up {k i : Nat} (h : i < k) (j : Nat) (hj : j ≤ i + 1) : upN (chainL k) j i = (i : Int) - j := by
  induction j with
  | zero => show (i : Int) = i - ((0 : Nat) : Int); omega
  | succ j ih =>
    show par (chainL k) (upN (chainL k) j i) = _
    rw [ih (by omega), show (i : Int) - j = ((i - j : Nat) : Int) by omega, par_nat, chainL_nd (by omega)]
    show ((i - j : Nat) : Int) - 1 = _
    omega
theorem chain_deep {k i : Nat} (h : i < k) : deep (chainL k) i = i + 1 := by
  refine deep_is (n := k) (by rw [chainL_length]; exact Nat.le_refl k) (chain_low (Nat.le_refl _)) (by omega) (by omega) (k := i + 1) ?_ fun j hj => ?_
  · rw [chain_up h _ (by omega)]; omega
  · rw [chain_up h _ (by omega)]; omega
theorem chain_check {k : Nat} (h : 0 < k) (hk : k ≤ 65535) : checkT (chainL k) = if k ≤ 256 then 0 else 3 := by
  split
  · rename_i h1
    refine check0 (chain_formed h) (decide_eq_true ⟨by rw [chainL_length]; exact hk, fun i hi => ?_⟩)
    rw [chainL_length] at hi
    exact ⟨by rw [chain_deep hi]; omega, by rw [chainL_nd hi]; exact plain_within⟩
  · rename_i h1
    refine check3 (chain_formed h) (decide_eq_false fun hw => ?_)
    have := (hw.2 (k - 1) (by rw [chainL_length]; omega)).1
    rw [chain_deep (by omega)] at this
    omega
theorem open_u8 {H : Type} {enc : TypeId × Value → H} {w : World} {base : Nat} {spare : Nat → Bool} {held : Bool} {r : Reach} {b0 : Nat} {v : Value} {d : DataW H} {p : List MemPlace}
    (hv : Value.okWide Try.prog w r b0 5 v) (h : DataW.Trod enc Try.prog w base spare held 5 v d p) : ∃ n : Int, v = .int .u8 n ∧ 0 ≤ n ∧ n < 256 := by
  obtain ⟨n, rfl, rfl, rfl, wn⟩ := open_int Try.underlying5 hv h
  exact ⟨n, rfl, wf_u8 wn⟩
end Go.Proofs.Ythphmhcgnkoigaa
