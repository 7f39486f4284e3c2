/- Contract of the reference's Formed of trees; no conditions beyond those written in each theorem. -/
import Derived.Test.YtlnnaegmcopiiaaFormedT
namespace Go.Proofs.Ytlnnaegmcopiiaa
open Go.ChangeShapes Go.WideShapes Go.ChangeAt Go.RowKit
set_option maxRecDepth 100000
set_option maxHeartbeats 8000000 in
theorem refFormedT_any (ad : Option Addr) (n c : Nat) (l : List Nd) (w : World) (h : NS w ad n l) (hn : n ≤ 1099511627776) :
    Calls Try.prog 11 #[.slice ad n c] w fun e w' => e = .returned (.bool (formedT l)) ∧ Seen w w' := by
  have HN : Hid (l.length = n) := h.1
  have HSH := Lib.hid (shaped_any ad n c l w h hn)
  cases hsh : shapedB l
  · rw [hsh] at HSH
    clear h
    go_enter Try.func11, Try.ntmps11
    go_wp2_with (go_at_call 28; refine HSH.out.mono ?_; clear HSH; rintro e w1 ⟨rfl, rfl⟩)
    go_ret
    exact ⟨ret_bool (formedT_no fun h => of_decide_eq_false hsh ⟨h.1, fun i hi => (h.2 i hi).1⟩), Seen.refl _⟩
  · rw [hsh] at HSH
    have hsp : ShapedP l := of_decide_eq_true hsh
    have h0 : 0 < n := by have := hsp.1; have := HN.out; omega
    have HSP := Lib.hid hsp
    obtain ⟨b, off, rfl, hc⟩ := h.ats h0
    have HC := Lib.hid hc
    clear h hc hsp hsh
    go_enter Try.func11, Try.ntmps11
    go_wp2_with (go_at_call 28; refine HSH.out.mono ?_; clear HSH; rintro e w1 ⟨rfl, rfl⟩)
    go_loopw [9] (fun i wr => ∃ k : Nat, k ≤ n ∧ i = .int .i64 k ∧ Seen w1 wr ∧ ∀ j, j < k → formedB (nd l j).s = true) (fun i _ => n - (intOf i).toNat)
    case atStart => exact ⟨0, Nat.zero_le _, rfl, Seen.refl _, fun j hj => absurd hj (by omega)⟩
    case round =>
      obtain ⟨k, hk, rfl, hs, hall⟩ := hrel
      have S1 := Lib.hid hs
      have HA := Lib.hid hall
      clear hs hall
      by_cases hlt : k < n
      · have hk' : (k : Int) < (n : Int) := by omega
        have A1 : Hid (At wr b (off + k * 49) (nd l k)) := (HC.out k hlt).seen S1.out
        have HFM := Lib.hid (refFormed_any (nd l k).s (nd l k).full)
        cases hfm : formedB (nd l k).s
        all_goals
          rw [hfm] at HFM
          go_wp2_with (first
            | (refine wpList_loadNS rfl (.tmp 15) rfl b (off + k * 49) (nd l k) rfl A1.out ?_; clear A1)
            | (go_at_call 29; refine (HFM.out wr).mono ?_; clear HFM; rintro e w4 ⟨rfl, hs4⟩; have S4 := Lib.hid (S1.out.trans hs4); clear hs4))
        · go_ret
          exact ⟨ret_bool (formedT_no fun h => by have := (h.2 k (by have := HN.out; omega)).2; rw [hfm] at this; cases this), S4.out⟩
        · refine ⟨⟨k + 1, by omega, by go_num, S4.out, fun j hj => ?_⟩, by simp [intOf]; omega⟩
          rcases Nat.lt_or_ge j k with h | h
          · exact HA.out j h
          · obtain rfl : j = k := by omega
            exact hfm
      · have hk' : ¬ (k : Int) < (n : Int) := by omega
        obtain rfl : k = n := by omega
        go_wp2_with fail
        go_ret
        exact ⟨ret_bool (Eq.symm (decide_eq_true ⟨HSP.out.1, fun i hi => ⟨HSP.out.2 i hi, HA.out i (by have := HN.out; omega)⟩⟩)), S1.out⟩
end Go.Proofs.Ytlnnaegmcopiiaa
