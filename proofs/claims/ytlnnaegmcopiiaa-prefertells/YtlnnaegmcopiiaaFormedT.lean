/- Contracts of Formed of package tree and of the reference's Formed; no conditions beyond those written in each theorem. -/
import Derived.Test.YtlnnaegmcopiiaaNdMem
import Derived.Test.YtlnnaegmcopiiaaShaped
import Derived.Test.YtlnnaegmcopiiaaRefFormed
namespace Go.Proofs.Ytlnnaegmcopiiaa
open Go.ChangeShapes Go.WideShapes Go.ChangeAt Go.RowKit
set_option maxRecDepth 100000
theorem formedT_no {l : List Nd} (h : ¬ FormedT l) : false = formedT l := (decide_eq_false h).symm
set_option maxHeartbeats 8000000 in
theorem formedTree_any (ad : Option Addr) (n c : Nat) (l : List Nd) (w : World) (h : NS w ad n l) (hn : n ≤ 1099511627776) :
    Calls Try.prog 31 #[.slice ad n c] w fun e w' => e = .returned (.bool (formedT l)) ∧ Seen w w' := by
  have HN : Hid (l.length = n) := h.1
  have HS := Lib.hid h
  rcases Nat.eq_zero_or_pos n with h0 | h0
  · subst h0
    clear h
    go_enter Try.func31, Try.ntmps31
    go_wp2_with fail
    go_loopw [9] (fun i wr => i = .int .i64 0 ∧ wr = w) (fun _ _ => 0)
    case atStart => exact ⟨rfl, rfl⟩
    case round =>
      obtain ⟨rfl, rfl⟩ := hrel
      go_wp2_with fail
      go_ret
      exact ⟨ret_bool (formedT_no fun h => by have := h.1; have := HN.out; omega), Seen.refl _⟩
  · obtain ⟨b, off, rfl, hc⟩ := h.ats h0
    have HC := Lib.hid hc
    clear h hc
    go_enter Try.func31, Try.ntmps31
    go_wp2_with fail
    go_loopw [9] (fun i wr => ∃ k : Nat, k ≤ n ∧ i = .int .i64 k ∧ Seen w wr ∧ ∀ j, j < k → okAt l j ∧ formedB (nd l j).s = true) (fun i _ => n - (intOf i).toNat)
    case atStart => exact ⟨0, Nat.zero_le _, rfl, Seen.refl _, fun j hj => absurd hj (by omega)⟩
    case round =>
      obtain ⟨k, hk, rfl, hs, hall⟩ := hrel
      have S1 := Lib.hid hs
      have HA := Lib.hid hall
      clear hs hall
      by_cases hlt : k < n
      · have hk' : (k : Int) < (n : Int) := by omega
        have HL : Hid (Low l k) := low_of (by have := HN.out; omega) fun i hi => (HA.out i hi).1
        have A1 : Hid (At wr b (off + k * 49) (nd l k)) := (HC.out k hlt).seen S1.out
        have HST : Hid (∀ w', Seen w w' → Calls Try.prog 41 #[.slice (some ⟨b, off, none⟩) n c, .int .i64 k] w' fun e w'' => e = .returned (.tuple #[.int .i64 (stepsV l k : Nat), .bool (decide (okAt l k))]) ∧ w'' = w') := fun w' h' => stepsUp_any _ n c l k w' (HS.out.seen h') hlt hn HL.out
        obtain ⟨V, hV⟩ : ∃ V, V = wr.alloc (.cells (ndl zeroN).toArray 42) := ⟨_, rfl⟩
        have HZ : Hid (Hn V wr.heap.size zeroN) := by rw [hV]; exact hn_new wr zeroN
        have HVS : Hid (∀ w2, Turns wr.heap.size V w2 → Seen w w2) := by rw [hV]; exact fun w2 h2 => S1.out.fresh h2
        cases hok : decide (okAt l k)
        · rw [hok] at HST
          go_wp2_with (first
            | (refine wpList_loadN rfl (.tmp 12) rfl b (off + k * 49) (nd l k) rfl A1.out ?_; clear A1)
            | (rw [zeroN_lit, ← hV]; clear hV; refine wpList_storeN rfl (.tmp 4) (.tmp 13) rfl wr.heap.size zeroN (nd l k) rfl rfl HZ.out ?_; intro w2 h2 t2; have R2 := Lib.hid (And.intro h2 (HVS.out w2 t2)); clear h2 t2)
            | (go_at_call 41; refine (HST.out w2 R2.out.2).mono ?_; clear HST; rintro e w3 ⟨rfl, rfl⟩))
          go_ret
          exact ⟨ret_bool (formedT_no fun h => of_decide_eq_false hok (h.2 k (by have := HN.out; omega)).1), R2.out.2⟩
        · rw [hok] at HST
          have HFM := Lib.hid (formed_any (nd l k).s (nd l k).full)
          cases hfm : formedB (nd l k).s
          all_goals
            rw [hfm] at HFM
            go_wp2_with (first
              | (refine wpList_loadN rfl (.tmp 12) rfl b (off + k * 49) (nd l k) rfl A1.out ?_; clear A1)
              | (rw [zeroN_lit, ← hV]; clear hV; refine wpList_storeN rfl (.tmp 4) (.tmp 13) rfl wr.heap.size zeroN (nd l k) rfl rfl HZ.out ?_; intro w2 h2 t2; have R2 := Lib.hid (And.intro h2 (HVS.out w2 t2)); clear h2 t2 HZ)
              | (go_at_call 41; refine (HST.out w2 R2.out.2).mono ?_; clear HST; rintro e w3 ⟨rfl, rfl⟩)
              | (refine wpList_loadNSg ?_ (.tmp 23) rfl wr.heap.size 0 (nd l k) rfl R2.out.1.at ?_; focus (go_simp; done))
              | (go_at_call 42; refine (HFM.out w3).mono ?_; clear HFM; rintro e w4 ⟨rfl, hs4⟩; have S4 := Lib.hid (R2.out.2.trans hs4); clear hs4))
          · go_ret
            exact ⟨ret_bool (formedT_no fun h => by have := (h.2 k (by have := HN.out; omega)).2; rw [hfm] at this; cases this), S4.out⟩
          · refine ⟨⟨k + 1, by omega, by go_num, S4.out, fun j hj => ?_⟩, by simp [intOf]; omega⟩
            rcases Nat.lt_or_ge j k with h | h
            · exact HA.out j h
            · obtain rfl : j = k := by omega
              exact ⟨of_decide_eq_true hok, hfm⟩
      · have hk' : ¬ (k : Int) < (n : Int) := by omega
        obtain rfl : k = n := by omega
        have hk0 : (k : Int) > 0 := by omega
        go_wp2_with fail
        go_ret
        exact ⟨ret_bool (Eq.symm (decide_eq_true ⟨by have := HN.out; omega, fun i hi => HA.out i (by have := HN.out; omega)⟩)), S1.out⟩
end Go.Proofs.Ytlnnaegmcopiiaa
