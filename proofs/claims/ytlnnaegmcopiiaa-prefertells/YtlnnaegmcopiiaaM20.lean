/- Texts of the proof, merged: Shaped, FormedT, WithinT, RefFormedT. -/
import Derived.Test.YtlnnaegmcopiiaaM4
import Derived.Test.YtlnnaegmcopiiaaM10
import Derived.Test.YtlnnaegmcopiiaaM8
import Derived.Test.YtlnnaegmcopiiaaM9
/- Contracts of the reference's Shaped; no conditions beyond those written in each theorem. -/
namespace Go.Proofs.Ytlnnaegmcopiiaa
open Go.ChangeShapes Go.WideShapes Go.ChangeAt Go.RowKit
set_option maxRecDepth 100000
/-- A list is a tree. -/
def ShapedP (l : List Nd) : Prop := 0 < l.length ∧ ∀ i, i < l.length → okAt l i
instance (l : List Nd) : Decidable (ShapedP l) := by unfold ShapedP; infer_instance
def shapedB (l : List Nd) : Bool := decide (ShapedP l)
theorem shaped_no {l : List Nd} (h : ¬ ShapedP l) : false = shapedB l := (decide_eq_false h).symm
theorem okAt_above (l : List Nd) {i : Nat} (h : 0 < i) : okAt l i ↔ (0 ≤ (nd l i).p ∧ aboveB l (nd l i).p ((i : Int) - 1) = true) := by
  rw [okAtS l h]; unfold aboveB; rw [beq_iff_eq]
set_option maxHeartbeats 4000000 in
theorem shaped_any (ad : Option Addr) (n c : Nat) (l : List Nd) (w : World) (h : NS w ad n l) (hn : n ≤ 1099511627776) :
    Calls Try.prog 28 #[.slice ad n c] w fun e w' => e = .returned (.bool (shapedB l)) ∧ w' = w := by
  have HN : Hid (l.length = n) := h.1
  have HS := Lib.hid h
  rcases Nat.eq_zero_or_pos n with h0 | h0
  · subst h0
    clear h
    go_enter Try.func28, Try.ntmps28
    go_wp2_with fail
    go_ret
    exact ⟨ret_bool (shaped_no fun h => by have := h.1; have := HN.out; omega), rfl⟩
  · obtain ⟨b, off, rfl, hc⟩ := h.pars h0
    have c0 := hc 0 h0
    rw [Nat.zero_mul, Nat.add_zero] at c0
    have HC := Lib.hid hc
    have hn0 : ((n : Int) == 0) = false := by simp; omega
    obtain ⟨P0, hP0⟩ : ∃ P0, (nd l 0).p = P0 := ⟨_, rfl⟩
    rw [hP0] at c0
    have HP0 := Lib.hid hP0
    clear h hc hP0
    cases hq0 : (P0 == -1)
    · go_enter Try.func28, Try.ntmps28
      go_wp2_with fail
      go_ret
      refine ⟨ret_bool (shaped_no fun h => ?_), rfl⟩
      have := (okAt0 l).1 (h.2 0 (by have := HN.out; omega))
      rw [HP0.out] at this
      simp at hq0
      omega
    · obtain rfl : P0 = -1 := by simpa using hq0
      clear hq0
      go_enter Try.func28, Try.ntmps28
      go_wp2_with fail
      go_loopw [3] (fun i wr => ∃ k : Nat, 1 ≤ k ∧ k ≤ n ∧ i = .int .i64 k ∧ wr = w ∧ ∀ j, j < k → okAt l j) (fun i _ => n - (intOf i).toNat)
      case atStart =>
        refine ⟨1, Nat.le_refl _, h0, rfl, rfl, fun j hj => ?_⟩
        obtain rfl : j = 0 := by omega
        rw [okAt0, HP0.out]
      case round =>
        obtain ⟨k, hk1, hkn, rfl, rfl, hall⟩ := hrel
        have HA := Lib.hid hall
        clear hall
        by_cases hlt : k < n
        · have hk' : (k : Int) < (n : Int) := by omega
          have ck := HC.out k hlt
          obtain ⟨P, hP⟩ : ∃ P, (nd l k).p = P := ⟨_, rfl⟩
          rw [hP] at ck
          have HL : Hid (Low l k) := low_of (by have := HN.out; omega) HA.out
          have HK : Hid (okAt l k ↔ (0 ≤ P ∧ aboveB l P ((k : Int) - 1) = true)) := by
            have := okAt_above l (i := k) hk1
            rw [hP] at this
            exact this
          clear hP
          by_cases hp0 : P < 0
          · go_wp2_with fail
            go_ret
            exact ⟨ret_bool (shaped_no fun h => by have := (HK.out.1 (h.2 k (by have := HN.out; omega))).1; omega), rfl⟩
          · by_cases hpk : (k : Int) ≤ P
            · go_wp2_with fail
              go_ret
              refine ⟨ret_bool (shaped_no fun h => ?_), rfl⟩
              have h1 := HK.out.1 (h.2 k (by have := HN.out; omega))
              have h2 := h1.2
              unfold aboveB at h2
              rw [beq_iff_eq] at h2
              have h3 := (HL.out.up (m := (k : Int) - 1) (by omega) (by omega) (stepsTo l ((k : Int) - 1) P)).2.1
              omega
            · obtain ⟨m, hm⟩ : ∃ m : Int, (k : Int) - 1 = m := ⟨_, rfl⟩
              have hm0 : 0 ≤ m := by omega
              have hmn : m < n := by omega
              have hmk : m.toNat + 1 = k := by omega
              rw [hm] at HK
              have HAB := Lib.hid (above_any (some ⟨b, off, none⟩) n c l P m wr HS.out (by omega) hm0 hmn hn (HL.out.less (by omega)))
              cases hb : aboveB l P m
              · rw [hb] at HAB
                go_wp2_with (go_at_call 40; refine HAB.out.mono ?_; rintro e w1 ⟨rfl, rfl⟩)
                go_ret
                exact ⟨ret_bool (shaped_no fun h => by have := (HK.out.1 (h.2 k (by have := HN.out; omega))).2; rw [hb] at this; cases this), rfl⟩
              · rw [hb] at HAB
                go_wp2_with (go_at_call 40; refine HAB.out.mono ?_; rintro e w1 ⟨rfl, rfl⟩)
                refine ⟨⟨k + 1, by omega, by omega, by go_num, trivial, fun j hj => ?_⟩, by simp [intOf]; omega⟩
                rcases Nat.lt_or_ge j k with h | h
                · exact HA.out j h
                · obtain rfl : j = k := by omega
                  exact HK.out.2 ⟨by omega, hb⟩
        · have hk' : ¬ (k : Int) < (n : Int) := by omega
          obtain rfl : k = n := by omega
          go_wp2_with fail
          go_ret
          exact ⟨ret_bool (Eq.symm (decide_eq_true ⟨by have := HN.out; omega, fun i hi => HA.out i (by have := HN.out; omega)⟩)), rfl⟩
end Go.Proofs.Ytlnnaegmcopiiaa

/- Contracts of Formed of package tree and of the reference's Formed; no conditions beyond those written in each theorem. -/
namespace Go.Proofs.Ytlnnaegmcopiiaa
open Go.ChangeShapes Go.WideShapes Go.ChangeAt Go.RowKit
set_option maxRecDepth 100000
theorem formedT_no {l : List Nd} (h : ¬ FormedT l) : false = formedT l := (decide_eq_false h).symm
set_option maxHeartbeats 8000000 in
theorem formedTree_any (ad : Option Addr) (n c : Nat) (l : List Nd) (w : World) (h : NS w ad n l) (hn : n ≤ 1099511627776) :
    Calls Try.prog 31 #[.slice ad n c] w fun e w' => e = .returned (.bool (formedT l)) ∧ Seen w w' := by
  have HN : Hid (l.length = n) := h.1
  have HS := Lib.hid h
  rcases Nat.eq_zero_or_pos n with h0 | h0
  · subst h0
    clear h
    go_enter Try.func31, Try.ntmps31
    go_wp2_with fail
    go_loopw [9] (fun i wr => i = .int .i64 0 ∧ wr = w) (fun _ _ => 0)
    case atStart => exact ⟨rfl, rfl⟩
    case round =>
      obtain ⟨rfl, rfl⟩ := hrel
      go_wp2_with fail
      go_ret
      exact ⟨ret_bool (formedT_no fun h => by have := h.1; have := HN.out; omega), Seen.refl _⟩
  · obtain ⟨b, off, rfl, hc⟩ := h.ats h0
    have HC := Lib.hid hc
    clear h hc
    go_enter Try.func31, Try.ntmps31
    go_wp2_with fail
    go_loopw [9] (fun i wr => ∃ k : Nat, k ≤ n ∧ i = .int .i64 k ∧ Seen w wr ∧ ∀ j, j < k → okAt l j ∧ formedB (nd l j).s = true) (fun i _ => n - (intOf i).toNat)
    case atStart => exact ⟨0, Nat.zero_le _, rfl, Seen.refl _, fun j hj => absurd hj (by omega)⟩
    case round =>
      obtain ⟨k, hk, rfl, hs, hall⟩ := hrel
      have S1 := Lib.hid hs
      have HA := Lib.hid hall
      clear hs hall
      by_cases hlt : k < n
      · have hk' : (k : Int) < (n : Int) := by omega
        have HL : Hid (Low l k) := low_of (by have := HN.out; omega) fun i hi => (HA.out i hi).1
        have A1 : Hid (At wr b (off + k * 49) (nd l k)) := (HC.out k hlt).seen S1.out
        have HST : Hid (∀ w', Seen w w' → Calls Try.prog 41 #[.slice (some ⟨b, off, none⟩) n c, .int .i64 k] w' fun e w'' => e = .returned (.tuple #[.int .i64 (stepsV l k : Nat), .bool (decide (okAt l k))]) ∧ w'' = w') := fun w' h' => stepsUp_any _ n c l k w' (HS.out.seen h') hlt hn HL.out
        obtain ⟨V, hV⟩ : ∃ V, V = wr.alloc (.cells (ndl zeroN).toArray 42) := ⟨_, rfl⟩
        have HZ : Hid (Hn V wr.heap.size zeroN) := by rw [hV]; exact hn_new wr zeroN
        have HVS : Hid (∀ w2, Turns wr.heap.size V w2 → Seen w w2) := by rw [hV]; exact fun w2 h2 => S1.out.fresh h2
        cases hok : decide (okAt l k)
        · rw [hok] at HST
          go_wp2_with (first
            | (refine wpList_loadN rfl (.tmp 12) rfl b (off + k * 49) (nd l k) rfl A1.out ?_; clear A1)
            | (rw [zeroN_lit, ← hV]; clear hV; refine wpList_storeN rfl (.tmp 4) (.tmp 13) rfl wr.heap.size zeroN (nd l k) rfl rfl HZ.out ?_; intro w2 h2 t2; have R2 := Lib.hid (And.intro h2 (HVS.out w2 t2)); clear h2 t2)
            | (go_at_call 41; refine (HST.out w2 R2.out.2).mono ?_; clear HST; rintro e w3 ⟨rfl, rfl⟩))
          go_ret
          exact ⟨ret_bool (formedT_no fun h => of_decide_eq_false hok (h.2 k (by have := HN.out; omega)).1), R2.out.2⟩
        · rw [hok] at HST
          have HFM := Lib.hid (formed_any (nd l k).s (nd l k).full)
          cases hfm : formedB (nd l k).s
          all_goals
            rw [hfm] at HFM
            go_wp2_with (first
              | (refine wpList_loadN rfl (.tmp 12) rfl b (off + k * 49) (nd l k) rfl A1.out ?_; clear A1)
              | (rw [zeroN_lit, ← hV]; clear hV; refine wpList_storeN rfl (.tmp 4) (.tmp 13) rfl wr.heap.size zeroN (nd l k) rfl rfl HZ.out ?_; intro w2 h2 t2; have R2 := Lib.hid (And.intro h2 (HVS.out w2 t2)); clear h2 t2 HZ)
              | (go_at_call 41; refine (HST.out w2 R2.out.2).mono ?_; clear HST; rintro e w3 ⟨rfl, rfl⟩)
              | (refine wpList_loadNSg ?_ (.tmp 23) rfl wr.heap.size 0 (nd l k) rfl R2.out.1.at ?_; focus (go_simp; done))
              | (go_at_call 42; refine (HFM.out w3).mono ?_; clear HFM; rintro e w4 ⟨rfl, hs4⟩; have S4 := Lib.hid (R2.out.2.trans hs4); clear hs4))
          · go_ret
            exact ⟨ret_bool (formedT_no fun h => by have := (h.2 k (by have := HN.out; omega)).2; rw [hfm] at this; cases this), S4.out⟩
          · refine ⟨⟨k + 1, by omega, by go_num, S4.out, fun j hj => ?_⟩, by simp [intOf]; omega⟩
            rcases Nat.lt_or_ge j k with h | h
            · exact HA.out j h
            · obtain rfl : j = k := by omega
              exact ⟨of_decide_eq_true hok, hfm⟩
      · have hk' : ¬ (k : Int) < (n : Int) := by omega
        obtain rfl : k = n := by omega
        have hk0 : (k : Int) > 0 := by omega
        go_wp2_with fail
        go_ret
        exact ⟨ret_bool (Eq.symm (decide_eq_true ⟨by have := HN.out; omega, fun i hi => HA.out i (by have := HN.out; omega)⟩)), S1.out⟩
end Go.Proofs.Ytlnnaegmcopiiaa

/- Contracts of within and Check of package tree; no conditions beyond those written in each theorem. -/
namespace Go.Proofs.Ytlnnaegmcopiiaa
open Go.ChangeShapes Go.WideShapes Go.ChangeAt Go.RowKit
set_option maxRecDepth 100000
theorem withinT_no {l : List Nd} (h : ¬ WithinT l) : false = withinT l := (decide_eq_false h).symm
/-- The depth that within holds ahead of node k. -/
def depthAt (l : List Nd) (k : Nat) : Int := if k = 0 then 0 else deep l ((k : Int) - 1)
theorem depth_next {l : List Nd} (hf : FormedT l) {k : Nat} (hk : k < l.length) : depthAt l k + (1 - (stepsV l k : Int)) = deep l k ∧ 0 ≤ depthAt l k ∧ depthAt l k ≤ k ∧ stepsV l k ≤ k := by
  have hl : Low l (k + 1) := hf.low.less (by omega)
  have hok := (hf.2 k hk).1
  unfold depthAt stepsV
  rcases Nat.eq_zero_or_pos k with h0 | h0
  · subst h0
    rw [if_pos rfl, if_pos rfl, deep_zero hk hok]
    omega
  · rw [if_neg (by omega), if_neg (by omega), if_neg (by have := (ok_pos h0 hok).1; omega)]
    obtain ⟨h1, h2⟩ := deep_next h0 hk hl hok
    have h3 := deep_le (m := (k : Int) - 1) (n := k + 1) (by omega) hl (by omega) (by omega)
    omega
theorem depthAt_succ (l : List Nd) (k : Nat) : depthAt l (k + 1) = deep l k := by
  unfold depthAt
  rw [if_neg (by omega), show ((k + 1 : Nat) : Int) - 1 = k by omega]
set_option maxHeartbeats 8000000 in
theorem withinTree_any (ad : Option Addr) (n c : Nat) (l : List Nd) (w : World) (h : NS w ad n l) (hn : n ≤ 1099511627776) (hf : FormedT l) :
    Calls Try.prog 32 #[.slice ad n c] w fun e w' => e = .returned (.bool (withinT l)) ∧ Seen w w' := by
  have HN : Hid (l.length = n) := h.1
  have HS := Lib.hid h
  have HF := Lib.hid hf
  have h0 : 0 < n := by have := hf.1; have := HN.out; omega
  obtain ⟨b, off, rfl, hc⟩ := h.ats h0
  have HC := Lib.hid hc
  clear h hc hf
  by_cases hbig : (n : Int) > 65535
  · go_enter Try.func32, Try.ntmps32
    go_wp2_with fail
    go_ret
    exact ⟨ret_bool (withinT_no fun h => by have := h.1; have := HN.out; omega), Seen.refl _⟩
  · go_enter Try.func32, Try.ntmps32
    go_wp2_with fail
    go_loopw [3, 13] (fun d i wr => ∃ k : Nat, k ≤ n ∧ d = .int .i64 (depthAt l k) ∧ i = .int .i64 k ∧ Seen w wr ∧ ∀ j, j < k → deep l j ≤ 256 ∧ withinB (nd l j).s = true) (fun _ i _ => n - (intOf i).toNat)
    case atStart => exact ⟨0, Nat.zero_le _, rfl, rfl, Seen.refl _, fun j hj => absurd hj (by omega)⟩
    case round =>
      obtain ⟨k, hk, rfl, rfl, hs, hall⟩ := hrel
      have S1 := Lib.hid hs
      have HA := Lib.hid hall
      clear hs hall
      by_cases hlt : k < n
      · have hk' : (k : Int) < (n : Int) := by omega
        have HL : Hid (Low l k) := HF.out.low.less (by have := HN.out; omega)
        have A1 : Hid (At wr b (off + k * 49) (nd l k)) := (HC.out k hlt).seen S1.out
        obtain ⟨hd1, hd2, hd3, hd4⟩ := depth_next HF.out (k := k) (by have := HN.out; omega)
        have HST : Hid (∀ w', Seen w w' → Calls Try.prog 41 #[.slice (some ⟨b, off, none⟩) n c, .int .i64 k] w' fun e w'' => e = .returned (.tuple #[.int .i64 (stepsV l k : Nat), .bool (decide (okAt l k))]) ∧ w'' = w') := fun w' h' => stepsUp_any _ n c l k w' (HS.out.seen h') hlt hn HL.out
        obtain ⟨T, hT⟩ : ∃ T, stepsV l k = T := ⟨_, rfl⟩
        obtain ⟨D, hD⟩ : ∃ D, depthAt l k = D := ⟨_, rfl⟩
        obtain ⟨E, hE⟩ : ∃ E, deep l k = E := ⟨_, rfl⟩
        rw [hT] at HST hd1 hd4
        rw [hD] at hd1 hd2 hd3
        rw [hE] at hd1
        rw [hD]
        have HE := Lib.hid hE
        clear hT hD hE
        obtain ⟨okb, hokb⟩ : ∃ okb, decide (okAt l k) = okb := ⟨_, rfl⟩
        rw [hokb] at HST
        clear hokb
        obtain ⟨V, hV⟩ : ∃ V, V = wr.alloc (.cells (ndl zeroN).toArray 42) := ⟨_, rfl⟩
        have HZ : Hid (Hn V wr.heap.size zeroN) := by rw [hV]; exact hn_new wr zeroN
        have HVS : Hid (∀ w2, Turns wr.heap.size V w2 → Seen w w2) := by rw [hV]; exact fun w2 h2 => S1.out.fresh h2
        by_cases hE256 : (E : Int) > 256
        · go_wp2_with (first
            | (refine wpList_loadN rfl (.tmp 16) rfl b (off + k * 49) (nd l k) rfl A1.out ?_; clear A1)
            | (rw [zeroN_lit, ← hV]; clear hV; refine wpList_storeN rfl (.tmp 5) (.tmp 17) rfl wr.heap.size zeroN (nd l k) rfl rfl HZ.out ?_; intro w2 h2 t2; have R2 := Lib.hid (And.intro h2 (HVS.out w2 t2)); clear h2 t2 HZ)
            | (go_at_call 41; refine (HST.out w2 R2.out.2).mono ?_; clear HST; rintro e w3 ⟨rfl, rfl⟩))
          go_ret
          exact ⟨ret_bool (withinT_no fun h => by have := (h.2 k (by have := HN.out; omega)).1; rw [HE.out] at this; omega), R2.out.2⟩
        · have HFM := Lib.hid (styWithin_any (nd l k).s (nd l k).full)
          cases hfm : withinB (nd l k).s
          all_goals
            rw [hfm] at HFM
            go_wp2_with (first
              | (refine wpList_loadN rfl (.tmp 16) rfl b (off + k * 49) (nd l k) rfl A1.out ?_; clear A1)
              | (rw [zeroN_lit, ← hV]; clear hV; refine wpList_storeN rfl (.tmp 5) (.tmp 17) rfl wr.heap.size zeroN (nd l k) rfl rfl HZ.out ?_; intro w2 h2 t2; have R2 := Lib.hid (And.intro h2 (HVS.out w2 t2)); clear h2 t2 HZ)
              | (go_at_call 41; refine (HST.out w2 R2.out.2).mono ?_; clear HST; rintro e w3 ⟨rfl, rfl⟩)
              | (refine wpList_loadNSg ?_ (.tmp 31) rfl wr.heap.size 0 (nd l k) rfl R2.out.1.at ?_; focus (go_simp; done))
              | (go_at_call 43; refine (HFM.out w3).mono ?_; clear HFM; rintro e w4 ⟨rfl, hs4⟩; have S4 := Lib.hid (R2.out.2.trans hs4); clear hs4))
          · go_ret
            exact ⟨ret_bool (withinT_no fun h => by have := (h.2 k (by have := HN.out; omega)).2; rw [hfm] at this; cases this), S4.out⟩
          · refine ⟨⟨k + 1, by omega, ?_, by go_num, S4.out, fun j hj => ?_⟩, by simp [intOf]; omega⟩
            · rw [depthAt_succ, HE.out]
            · rcases Nat.lt_or_ge j k with h | h
              · exact HA.out j h
              · obtain rfl : j = k := by omega
                exact ⟨by rw [HE.out]; omega, hfm⟩
      · have hk' : ¬ (k : Int) < (n : Int) := by omega
        obtain rfl : k = n := by omega
        go_wp2_with fail
        go_ret
        exact ⟨ret_bool (Eq.symm (decide_eq_true ⟨by have := HN.out; omega, fun i hi => HA.out i (by have := HN.out; omega)⟩)), S1.out⟩
end Go.Proofs.Ytlnnaegmcopiiaa

/- Contract of the reference's Formed of trees; no conditions beyond those written in each theorem. -/
namespace Go.Proofs.Ytlnnaegmcopiiaa
open Go.ChangeShapes Go.WideShapes Go.ChangeAt Go.RowKit
set_option maxRecDepth 100000
set_option maxHeartbeats 8000000 in
theorem refFormedT_any (ad : Option Addr) (n c : Nat) (l : List Nd) (w : World) (h : NS w ad n l) (hn : n ≤ 1099511627776) :
    Calls Try.prog 11 #[.slice ad n c] w fun e w' => e = .returned (.bool (formedT l)) ∧ Seen w w' := by
  have HN : Hid (l.length = n) := h.1
  have HSH := Lib.hid (shaped_any ad n c l w h hn)
  cases hsh : shapedB l
  · rw [hsh] at HSH
    clear h
    go_enter Try.func11, Try.ntmps11
    go_wp2_with (go_at_call 28; refine HSH.out.mono ?_; clear HSH; rintro e w1 ⟨rfl, rfl⟩)
    go_ret
    exact ⟨ret_bool (formedT_no fun h => of_decide_eq_false hsh ⟨h.1, fun i hi => (h.2 i hi).1⟩), Seen.refl _⟩
  · rw [hsh] at HSH
    have hsp : ShapedP l := of_decide_eq_true hsh
    have h0 : 0 < n := by have := hsp.1; have := HN.out; omega
    have HSP := Lib.hid hsp
    obtain ⟨b, off, rfl, hc⟩ := h.ats h0
    have HC := Lib.hid hc
    clear h hc hsp hsh
    go_enter Try.func11, Try.ntmps11
    go_wp2_with (go_at_call 28; refine HSH.out.mono ?_; clear HSH; rintro e w1 ⟨rfl, rfl⟩)
    go_loopw [9] (fun i wr => ∃ k : Nat, k ≤ n ∧ i = .int .i64 k ∧ Seen w1 wr ∧ ∀ j, j < k → formedB (nd l j).s = true) (fun i _ => n - (intOf i).toNat)
    case atStart => exact ⟨0, Nat.zero_le _, rfl, Seen.refl _, fun j hj => absurd hj (by omega)⟩
    case round =>
      obtain ⟨k, hk, rfl, hs, hall⟩ := hrel
      have S1 := Lib.hid hs
      have HA := Lib.hid hall
      clear hs hall
      by_cases hlt : k < n
      · have hk' : (k : Int) < (n : Int) := by omega
        have A1 : Hid (At wr b (off + k * 49) (nd l k)) := (HC.out k hlt).seen S1.out
        have HFM := Lib.hid (refFormed_any (nd l k).s (nd l k).full)
        cases hfm : formedB (nd l k).s
        all_goals
          rw [hfm] at HFM
          go_wp2_with (first
            | (refine wpList_loadNS rfl (.tmp 15) rfl b (off + k * 49) (nd l k) rfl A1.out ?_; clear A1)
            | (go_at_call 29; refine (HFM.out wr).mono ?_; clear HFM; rintro e w4 ⟨rfl, hs4⟩; have S4 := Lib.hid (S1.out.trans hs4); clear hs4))
        · go_ret
          exact ⟨ret_bool (formedT_no fun h => by have := (h.2 k (by have := HN.out; omega)).2; rw [hfm] at this; cases this), S4.out⟩
        · refine ⟨⟨k + 1, by omega, by go_num, S4.out, fun j hj => ?_⟩, by simp [intOf]; omega⟩
          rcases Nat.lt_or_ge j k with h | h
          · exact HA.out j h
          · obtain rfl : j = k := by omega
            exact hfm
      · have hk' : ¬ (k : Int) < (n : Int) := by omega
        obtain rfl : k = n := by omega
        go_wp2_with fail
        go_ret
        exact ⟨ret_bool (Eq.symm (decide_eq_true ⟨HSP.out.1, fun i hi => ⟨HSP.out.2 i hi, HA.out i (by have := HN.out; omega)⟩⟩)), S1.out⟩
end Go.Proofs.Ytlnnaegmcopiiaa
