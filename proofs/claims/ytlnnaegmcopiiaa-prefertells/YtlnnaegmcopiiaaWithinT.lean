/- Contracts of within and Check of package tree; no conditions beyond those written in each theorem. -/
import Derived.Test.YtlnnaegmcopiiaaFormedT
import Derived.Test.YtlnnaegmcopiiaaWithin
namespace Go.Proofs.Ytlnnaegmcopiiaa
open Go.ChangeShapes Go.WideShapes Go.ChangeAt Go.RowKit
set_option maxRecDepth 100000
theorem withinT_no {l : List Nd} (h : ¬ WithinT l) : false = withinT l := (decide_eq_false h).symm
/-- The depth that within holds ahead of node k. -/
def depthAt (l : List Nd) (k : Nat) : Int := if k = 0 then 0 else deep l ((k : Int) - 1)
theorem depth_next {l : List Nd} (hf : FormedT l) {k : Nat} (hk : k < l.length) : depthAt l k + (1 - (stepsV l k : Int)) = deep l k ∧ 0 ≤ depthAt l k ∧ depthAt l k ≤ k ∧ stepsV l k ≤ k := by
  have hl : Low l (k + 1) := hf.low.less (by omega)
  have hok := (hf.2 k hk).1
  unfold depthAt stepsV
  rcases Nat.eq_zero_or_pos k with h0 | h0
  · subst h0
    rw [if_pos rfl, if_pos rfl, deep_zero hk hok]
    omega
  · rw [if_neg (by omega), if_neg (by omega), if_neg (by have := (ok_pos h0 hok).1; omega)]
    obtain ⟨h1, h2⟩ := deep_next h0 hk hl hok
    have h3 := deep_le (m := (k : Int) - 1) (n := k + 1) (by omega) hl (by omega) (by omega)
    omega
theorem depthAt_succ (l : List Nd) (k : Nat) : depthAt l (k + 1) = deep l k := by
  unfold depthAt
  rw [if_neg (by omega), show ((k + 1 : Nat) : Int) - 1 = k by omega]
set_option maxHeartbeats 8000000 in
theorem withinTree_any (ad : Option Addr) (n c : Nat) (l : List Nd) (w : World) (h : NS w ad n l) (hn : n ≤ 1099511627776) (hf : FormedT l) :
    Calls Try.prog 32 #[.slice ad n c] w fun e w' => e = .returned (.bool (withinT l)) ∧ Seen w w' := by
  have HN : Hid (l.length = n) := h.1
  have HS := Lib.hid h
  have HF := Lib.hid hf
  have h0 : 0 < n := by have := hf.1; have := HN.out; omega
  obtain ⟨b, off, rfl, hc⟩ := h.ats h0
  have HC := Lib.hid hc
  clear h hc hf
  by_cases hbig : (n : Int) > 65535
  · go_enter Try.func32, Try.ntmps32
    go_wp2_with fail
    go_ret
    exact ⟨ret_bool (withinT_no fun h => by have := h.1; have := HN.out; omega), Seen.refl _⟩
  · go_enter Try.func32, Try.ntmps32
    go_wp2_with fail
    go_loopw [3, 13] (fun d i wr => ∃ k : Nat, k ≤ n ∧ d = .int .i64 (depthAt l k) ∧ i = .int .i64 k ∧ Seen w wr ∧ ∀ j, j < k → deep l j ≤ 256 ∧ withinB (nd l j).s = true) (fun _ i _ => n - (intOf i).toNat)
    case atStart => exact ⟨0, Nat.zero_le _, rfl, rfl, Seen.refl _, fun j hj => absurd hj (by omega)⟩
    case round =>
      obtain ⟨k, hk, rfl, rfl, hs, hall⟩ := hrel
      have S1 := Lib.hid hs
      have HA := Lib.hid hall
      clear hs hall
      by_cases hlt : k < n
      · have hk' : (k : Int) < (n : Int) := by omega
        have HL : Hid (Low l k) := HF.out.low.less (by have := HN.out; omega)
        have A1 : Hid (At wr b (off + k * 49) (nd l k)) := (HC.out k hlt).seen S1.out
        obtain ⟨hd1, hd2, hd3, hd4⟩ := depth_next HF.out (k := k) (by have := HN.out; omega)
        have HST : Hid (∀ w', Seen w w' → Calls Try.prog 41 #[.slice (some ⟨b, off, none⟩) n c, .int .i64 k] w' fun e w'' => e = .returned (.tuple #[.int .i64 (stepsV l k : Nat), .bool (decide (okAt l k))]) ∧ w'' = w') := fun w' h' => stepsUp_any _ n c l k w' (HS.out.seen h') hlt hn HL.out
        obtain ⟨T, hT⟩ : ∃ T, stepsV l k = T := ⟨_, rfl⟩
        obtain ⟨D, hD⟩ : ∃ D, depthAt l k = D := ⟨_, rfl⟩
        obtain ⟨E, hE⟩ : ∃ E, deep l k = E := ⟨_, rfl⟩
        rw [hT] at HST hd1 hd4
        rw [hD] at hd1 hd2 hd3
        rw [hE] at hd1
        rw [hD]
        have HE := Lib.hid hE
        clear hT hD hE
        obtain ⟨okb, hokb⟩ : ∃ okb, decide (okAt l k) = okb := ⟨_, rfl⟩
        rw [hokb] at HST
        clear hokb
        obtain ⟨V, hV⟩ : ∃ V, V = wr.alloc (.cells (ndl zeroN).toArray 42) := ⟨_, rfl⟩
        have HZ : Hid (Hn V wr.heap.size zeroN) := by rw [hV]; exact hn_new wr zeroN
        have HVS : Hid (∀ w2, Turns wr.heap.size V w2 → Seen w w2) := by rw [hV]; exact fun w2 h2 => S1.out.fresh h2
        by_cases hE256 : (E : Int) > 256
        · go_wp2_with (first
            | (refine wpList_loadN rfl (.tmp 16) rfl b (off + k * 49) (nd l k) rfl A1.out ?_; clear A1)
            | (rw [zeroN_lit, ← hV]; clear hV; refine wpList_storeN rfl (.tmp 5) (.tmp 17) rfl wr.heap.size zeroN (nd l k) rfl rfl HZ.out ?_; intro w2 h2 t2; have R2 := Lib.hid (And.intro h2 (HVS.out w2 t2)); clear h2 t2 HZ)
            | (go_at_call 41; refine (HST.out w2 R2.out.2).mono ?_; clear HST; rintro e w3 ⟨rfl, rfl⟩))
          go_ret
          exact ⟨ret_bool (withinT_no fun h => by have := (h.2 k (by have := HN.out; omega)).1; rw [HE.out] at this; omega), R2.out.2⟩
        · have HFM := Lib.hid (styWithin_any (nd l k).s (nd l k).full)
          cases hfm : withinB (nd l k).s
          all_goals
            rw [hfm] at HFM
            go_wp2_with (first
              | (refine wpList_loadN rfl (.tmp 16) rfl b (off + k * 49) (nd l k) rfl A1.out ?_; clear A1)
              | (rw [zeroN_lit, ← hV]; clear hV; refine wpList_storeN rfl (.tmp 5) (.tmp 17) rfl wr.heap.size zeroN (nd l k) rfl rfl HZ.out ?_; intro w2 h2 t2; have R2 := Lib.hid (And.intro h2 (HVS.out w2 t2)); clear h2 t2 HZ)
              | (go_at_call 41; refine (HST.out w2 R2.out.2).mono ?_; clear HST; rintro e w3 ⟨rfl, rfl⟩)
              | (refine wpList_loadNSg ?_ (.tmp 31) rfl wr.heap.size 0 (nd l k) rfl R2.out.1.at ?_; focus (go_simp; done))
              | (go_at_call 43; refine (HFM.out w3).mono ?_; clear HFM; rintro e w4 ⟨rfl, hs4⟩; have S4 := Lib.hid (R2.out.2.trans hs4); clear hs4))
          · go_ret
            exact ⟨ret_bool (withinT_no fun h => by have := (h.2 k (by have := HN.out; omega)).2; rw [hfm] at this; cases this), S4.out⟩
          · refine ⟨⟨k + 1, by omega, ?_, by go_num, S4.out, fun j hj => ?_⟩, by simp [intOf]; omega⟩
            · rw [depthAt_succ, HE.out]
            · rcases Nat.lt_or_ge j k with h | h
              · exact HA.out j h
              · obtain rfl : j = k := by omega
                exact ⟨by rw [HE.out]; omega, hfm⟩
      · have hk' : ¬ (k : Int) < (n : Int) := by omega
        obtain rfl : k = n := by omega
        go_wp2_with fail
        go_ret
        exact ⟨ret_bool (Eq.symm (decide_eq_true ⟨by have := HN.out; omega, fun i hi => HA.out i (by have := HN.out; omega)⟩)), S1.out⟩
end Go.Proofs.Ytlnnaegmcopiiaa
