/- Texts of the proof, merged: CheckT. -/
import Derived.Test.YtlnnaegmcopiiaaM20
import Derived.Test.YtlnnaegmcopiiaaM21
/- Contracts of Check of package tree and of the reference's Check; no conditions beyond those written in each theorem. -/
namespace Go.Proofs.Ytlnnaegmcopiiaa
open Go.ChangeShapes Go.WideShapes Go.ChangeAt Go.RowKit
set_option maxRecDepth 100000
theorem check2 {l : List Nd} (h : formedT l = false) : checkT l = 2 := by unfold checkT; rw [h]; rfl
theorem check3 {l : List Nd} (h : formedT l = true) (k : withinT l = false) : checkT l = 3 := by unfold checkT; rw [h, k]; rfl
theorem check0 {l : List Nd} (h : formedT l = true) (k : withinT l = true) : checkT l = 0 := by unfold checkT; rw [h, k]; rfl
set_option maxHeartbeats 4000000 in
theorem check_any (ad : Option Addr) (n c : Nat) (l : List Nd) (w : World) (h : NS w ad n l) (hn : n ≤ 1099511627776) :
    Calls Try.prog 14 #[.slice ad n c] w fun e w' => e = .returned (.int .i64 (checkT l)) ∧ Seen w w' := by
  have HS := Lib.hid h
  have HF := Lib.hid (formedTree_any ad n c l w h hn)
  clear h
  cases hf : formedT l
  · rw [hf] at HF
    go_enter Try.func14, Try.ntmps14
    go_wp2_with (go_at_call 31; refine HF.out.mono ?_; rintro e w1 ⟨rfl, hs⟩; have S1 := Lib.hid hs; clear hs)
    go_ret
    rw [check2 hf]
    exact ⟨rfl, S1.out⟩
  · rw [hf] at HF
    have HW : Hid (∀ w', Seen w w' → Calls Try.prog 32 #[.slice ad n c] w' fun e w'' => e = .returned (.bool (withinT l)) ∧ Seen w' w'') := fun w' h' => withinTree_any ad n c l w' (HS.out.seen h') hn (of_decide_eq_true hf)
    cases hw : withinT l
    all_goals
      rw [hw] at HW
      go_enter Try.func14, Try.ntmps14
      go_wp2_with (first
        | (go_at_call 31; refine HF.out.mono ?_; rintro e w1 ⟨rfl, hs⟩; have S1 := Lib.hid hs; clear hs)
        | (go_at_call 32; refine (HW.out w1 S1.out).mono ?_; rintro e w2 ⟨rfl, hs⟩; have S2 := Lib.hid (S1.out.trans hs); clear hs))
      go_ret
    · rw [check3 hf hw]; exact ⟨rfl, S2.out⟩
    · rw [check0 hf hw]; exact ⟨rfl, S2.out⟩
set_option maxHeartbeats 8000000 in
theorem refCheck_any (ad : Option Addr) (n c : Nat) (l : List Nd) (w : World) (h : NS w ad n l) (hn : n ≤ 1099511627776) :
    Calls Try.prog 6 #[.slice ad n c] w fun e w' => e = .returned (.int .i64 (checkT l)) ∧ Seen w w' := by
  have HN : Hid (l.length = n) := h.1
  have HS := Lib.hid h
  have HF := Lib.hid (refFormedT_any ad n c l w h hn)
  cases hf : formedT l
  · rw [hf] at HF
    clear h
    go_enter Try.func6, Try.ntmps6
    go_wp2_with (go_at_call 11; refine HF.out.mono ?_; rintro e w1 ⟨rfl, hs⟩; have S1 := Lib.hid hs; clear hs)
    go_ret
    rw [check2 hf]
    exact ⟨rfl, S1.out⟩
  · rw [hf] at HF
    have hft : FormedT l := of_decide_eq_true hf
    have HFT := Lib.hid hft
    have h0 : 0 < n := by have := hft.1; have := HN.out; omega
    obtain ⟨b, off, rfl, hc⟩ := h.ats h0
    have HC := Lib.hid hc
    have HNO : Hid (¬ WithinT l → checkT l = 3) := fun h => check3 hf (decide_eq_false h)
    have HYES : Hid (WithinT l → checkT l = 0) := fun h => check0 hf (decide_eq_true h)
    clear h hc hft hf
    go_enter Try.func6, Try.ntmps6
    go_wp2_with (go_at_call 11; refine HF.out.mono ?_; clear HF; rintro e w1 ⟨rfl, hs⟩; have S1 := Lib.hid hs; clear hs)
    go_loopw [9] (fun i wr => ∃ k : Nat, k ≤ n ∧ i = .int .i64 k ∧ Seen w wr ∧ ∀ j, j < k → deep l j ≤ 256 ∧ withinB (nd l j).s = true) (fun i _ => n - (intOf i).toNat)
    case atStart => exact ⟨0, Nat.zero_le _, rfl, S1.out, fun j hj => absurd hj (by omega)⟩
    case round =>
      obtain ⟨k, hk, rfl, hs, hall⟩ := hrel
      have S2 := Lib.hid hs
      have HA := Lib.hid hall
      clear hs hall S1
      by_cases hlt : k < n
      · have hk' : (k : Int) < (n : Int) := by omega
        have A1 : Hid (At wr b (off + k * 49) (nd l k)) := (HC.out k hlt).seen S2.out
        have HL : Hid (Low l (k + 1)) := HFT.out.low.less (by have := HN.out; omega)
        have HDP : Hid (∀ w', Seen w w' → Calls Try.prog 13 #[.slice (some ⟨b, off, none⟩) n c, .int .i64 k] w' fun e w'' => e = .returned (.int .i64 (deep l k : Nat)) ∧ w'' = w') := fun w' h' => deep_any _ n c l k w' (HS.out.seen h') (by omega) (by omega) hn (HL.out.less (by omega))
        obtain ⟨E, hE⟩ : ∃ E, deep l k = E := ⟨_, rfl⟩
        rw [hE] at HDP
        have HE := Lib.hid hE
        clear hE
        have HFM := Lib.hid (refWithin_any (nd l k).s (nd l k).full)
        cases hfm : withinB (nd l k).s
        · rw [hfm] at HFM
          go_wp2_with (first
            | (refine wpList_loadNS rfl (.tmp 15) rfl b (off + k * 49) (nd l k) rfl A1.out ?_; clear A1)
            | (go_at_call 12; refine (HFM.out wr).mono ?_; clear HFM; rintro e w4 ⟨rfl, hs4⟩; have S4 := Lib.hid (S2.out.trans hs4); clear hs4))
          go_ret
          refine ⟨ret_int (HNO.out fun h => ?_).symm, S4.out⟩
          have := (h.2 k (by have := HN.out; omega)).2
          rw [hfm] at this; cases this
        · rw [hfm] at HFM
          by_cases hE256 : (E : Int) > 256
          all_goals
            go_wp2_with (first
              | (refine wpList_loadNS rfl (.tmp 15) rfl b (off + k * 49) (nd l k) rfl A1.out ?_; clear A1)
              | (go_at_call 12; refine (HFM.out wr).mono ?_; clear HFM; rintro e w4 ⟨rfl, hs4⟩; have S4 := Lib.hid (S2.out.trans hs4); clear hs4)
              | (go_at_call 13; refine (HDP.out w4 S4.out).mono ?_; clear HDP; rintro e w5 ⟨rfl, rfl⟩))
          · go_ret
            refine ⟨ret_int (HNO.out fun h => ?_).symm, S4.out⟩
            have := (h.2 k (by have := HN.out; omega)).1
            rw [HE.out] at this; omega
          · refine ⟨⟨k + 1, by omega, by go_num, S4.out, fun j hj => ?_⟩, by simp [intOf]; omega⟩
            rcases Nat.lt_or_ge j k with h | h
            · exact HA.out j h
            · obtain rfl : j = k := by omega
              exact ⟨by rw [HE.out]; omega, hfm⟩
      · have hk' : ¬ (k : Int) < (n : Int) := by omega
        obtain rfl : k = n := by omega
        by_cases hbig : (k : Int) > 65535
        · go_wp2_with fail
          go_ret
          exact ⟨ret_int (HNO.out fun h => by have := h.1; have := HN.out; omega).symm, S2.out⟩
        · go_wp2_with fail
          go_ret
          exact ⟨ret_int (HYES.out ⟨by have := HN.out; omega, fun i hi => HA.out i (by have := HN.out; omega)⟩).symm, S2.out⟩
end Go.Proofs.Ytlnnaegmcopiiaa
