/- Texts of the proof, merged: WithinT, RefFormedT, RefWithin, CheckT. -/
import Derived.Test.YteplmjgohnbpbaaM38
import Derived.Test.YteplmjgohnbpbaaM8
/- Contracts of within and Check of package tree; no conditions beyond those written in each theorem. -/
namespace Go.Proofs.Yteplmjgohnbpbaa
open Go.ChangeShapes Go.WideShapes Go.ChangeAt Go.RowKit
set_option maxRecDepth 100000
theorem withinT_no {l : List Nd} (h : ¬ WithinT l) : false = withinT l := (decide_eq_false h).symm
/-- The depth that within holds ahead of node k. -/
def depthAt (l : List Nd) (k : Nat) : Int := if k = 0 then 0 else deep l ((k : Int) - 1)
theorem depth_next {l : List Nd} (hf : FormedT l) {k : Nat} (hk : k < l.length) : depthAt l k + (1 - (stepsV l k : Int)) = deep l k ∧ 0 ≤ depthAt l k ∧ depthAt l k ≤ k ∧ stepsV l k ≤ k := by
  have hl : Low l (k + 1) := hf.low.less (by omega)
  have hok := (hf.2 k hk).1
  unfold depthAt stepsV
  rcases Nat.eq_zero_or_pos k with h0 | h0
  · subst h0
    rw [if_pos rfl, if_pos rfl, deep_zero hk hok]
    omega
  · rw [if_neg (by omega), if_neg (by omega), if_neg (by have := (ok_pos h0 hok).1; omega)]
    obtain ⟨h1, h2⟩ := deep_next h0 hk hl hok
    have h3 := deep_le (m := (k : Int) - 1) (n := k + 1) (by omega) hl (by omega) (by omega)
    omega
theorem depthAt_succ (l : List Nd) (k : Nat) : depthAt l (k + 1) = deep l k := by
  unfold depthAt
  rw [if_neg (by omega), show ((k + 1 : Nat) : Int) - 1 = k by omega]
set_option maxHeartbeats 8000000 in
theorem withinTree_any (ad : Option Addr) (n c : Nat) (l : List Nd) (w : World) (h : NS w ad n l) (hn : n ≤ 1099511627776) (hf : FormedT l) :
    Calls Try.prog 37 #[.slice ad n c] w fun e w' => e = .returned (.bool (withinT l)) ∧ Seen w w' := by
  have HN : Hid (l.length = n) := h.1
  have HS := Lib.hid h
  have HF := Lib.hid hf
  have h0 : 0 < n := by have := hf.1; have := HN.out; omega
  obtain ⟨b, off, rfl, hc⟩ := h.ats h0
  have HC := Lib.hid hc
  clear h hc hf
  by_cases hbig : (n : Int) > 65535
  · go_enter Try.func37, Try.ntmps37
    go_wp2_with fail
    go_ret
    exact ⟨ret_bool (withinT_no fun h => by have := h.1; have := HN.out; omega), Seen.refl _⟩
  · go_enter Try.func37, Try.ntmps37
    go_wp2_with fail
    go_loopw [3, 13] (fun d i wr => ∃ k : Nat, k ≤ n ∧ d = .int .i64 (depthAt l k) ∧ i = .int .i64 k ∧ Seen w wr ∧ ∀ j, j < k → deep l j ≤ 256 ∧ withinB (nd l j).s = true) (fun _ i _ => n - (intOf i).toNat)
    case atStart => exact ⟨0, Nat.zero_le _, rfl, rfl, Seen.refl _, fun j hj => absurd hj (by omega)⟩
    case round =>
      obtain ⟨k, hk, rfl, rfl, hs, hall⟩ := hrel
      have S1 := Lib.hid hs
      have HA := Lib.hid hall
      clear hs hall
      by_cases hlt : k < n
      · have hk' : (k : Int) < (n : Int) := by omega
        have HL : Hid (Low l k) := HF.out.low.less (by have := HN.out; omega)
        have A1 : Hid (At wr b (off + k * 49) (nd l k)) := (HC.out k hlt).seen S1.out
        obtain ⟨hd1, hd2, hd3, hd4⟩ := depth_next HF.out (k := k) (by have := HN.out; omega)
        have HST : Hid (∀ w', Seen w w' → Calls Try.prog 57 #[.slice (some ⟨b, off, none⟩) n c, .int .i64 k] w' fun e w'' => e = .returned (.tuple #[.int .i64 (stepsV l k : Nat), .bool (decide (okAt l k))]) ∧ w'' = w') := fun w' h' => stepsUp_any _ n c l k w' (HS.out.seen h') hlt hn HL.out
        obtain ⟨T, hT⟩ : ∃ T, stepsV l k = T := ⟨_, rfl⟩
        obtain ⟨D, hD⟩ : ∃ D, depthAt l k = D := ⟨_, rfl⟩
        obtain ⟨E, hE⟩ : ∃ E, deep l k = E := ⟨_, rfl⟩
        rw [hT] at HST hd1 hd4
        rw [hD] at hd1 hd2 hd3
        rw [hE] at hd1
        rw [hD]
        have HE := Lib.hid hE
        clear hT hD hE
        obtain ⟨okb, hokb⟩ : ∃ okb, decide (okAt l k) = okb := ⟨_, rfl⟩
        rw [hokb] at HST
        clear hokb
        obtain ⟨V, hV⟩ : ∃ V, V = wr.alloc (.cells (ndl zeroN).toArray 41) := ⟨_, rfl⟩
        have HZ : Hid (Hn V wr.heap.size zeroN) := by rw [hV]; exact hn_new wr zeroN
        have HVS : Hid (∀ w2, Turns wr.heap.size V w2 → Seen w w2) := by rw [hV]; exact fun w2 h2 => S1.out.fresh h2
        by_cases hE256 : (E : Int) > 256
        · go_wp2_with (first
            | (refine wpList_loadN rfl (.tmp 16) rfl b (off + k * 49) (nd l k) rfl A1.out ?_; clear A1)
            | (rw [zeroN_lit, ← hV]; clear hV; refine wpList_storeN rfl (.tmp 5) (.tmp 17) rfl wr.heap.size zeroN (nd l k) rfl rfl HZ.out ?_; intro w2 h2 t2; have R2 := Lib.hid (And.intro h2 (HVS.out w2 t2)); clear h2 t2 HZ)
            | (go_at_call 57; refine (HST.out w2 R2.out.2).mono ?_; clear HST; rintro e w3 ⟨rfl, rfl⟩))
          go_ret
          exact ⟨ret_bool (withinT_no fun h => by have := (h.2 k (by have := HN.out; omega)).1; rw [HE.out] at this; omega), R2.out.2⟩
        · have HFM := Lib.hid (styWithin_any (nd l k).s (nd l k).full)
          cases hfm : withinB (nd l k).s
          all_goals
            rw [hfm] at HFM
            go_wp2_with (first
              | (refine wpList_loadN rfl (.tmp 16) rfl b (off + k * 49) (nd l k) rfl A1.out ?_; clear A1)
              | (rw [zeroN_lit, ← hV]; clear hV; refine wpList_storeN rfl (.tmp 5) (.tmp 17) rfl wr.heap.size zeroN (nd l k) rfl rfl HZ.out ?_; intro w2 h2 t2; have R2 := Lib.hid (And.intro h2 (HVS.out w2 t2)); clear h2 t2 HZ)
              | (go_at_call 57; refine (HST.out w2 R2.out.2).mono ?_; clear HST; rintro e w3 ⟨rfl, rfl⟩)
              | (refine wpList_loadNSg ?_ (.tmp 31) rfl wr.heap.size 0 (nd l k) rfl R2.out.1.at ?_; focus (go_simp; done))
              | (go_at_call 59; refine (HFM.out w3).mono ?_; clear HFM; rintro e w4 ⟨rfl, hs4⟩; have S4 := Lib.hid (R2.out.2.trans hs4); clear hs4))
          · go_ret
            exact ⟨ret_bool (withinT_no fun h => by have := (h.2 k (by have := HN.out; omega)).2; rw [hfm] at this; cases this), S4.out⟩
          · refine ⟨⟨k + 1, by omega, ?_, by go_num, S4.out, fun j hj => ?_⟩, by simp [intOf]; omega⟩
            · rw [depthAt_succ, HE.out]
            · rcases Nat.lt_or_ge j k with h | h
              · exact HA.out j h
              · obtain rfl : j = k := by omega
                exact ⟨by rw [HE.out]; omega, hfm⟩
      · have hk' : ¬ (k : Int) < (n : Int) := by omega
        obtain rfl : k = n := by omega
        go_wp2_with fail
        go_ret
        exact ⟨ret_bool (Eq.symm (decide_eq_true ⟨by have := HN.out; omega, fun i hi => HA.out i (by have := HN.out; omega)⟩)), S1.out⟩
end Go.Proofs.Yteplmjgohnbpbaa

/- Contract of the reference's Formed of trees; no conditions beyond those written in each theorem. -/
namespace Go.Proofs.Yteplmjgohnbpbaa
open Go.ChangeShapes Go.WideShapes Go.ChangeAt Go.RowKit
set_option maxRecDepth 100000
set_option maxHeartbeats 8000000 in
theorem refFormedT_any (ad : Option Addr) (n c : Nat) (l : List Nd) (w : World) (h : NS w ad n l) (hn : n ≤ 1099511627776) :
    Calls Try.prog 16 #[.slice ad n c] w fun e w' => e = .returned (.bool (formedT l)) ∧ Seen w w' := by
  have HN : Hid (l.length = n) := h.1
  have HSH := Lib.hid (shaped_any ad n c l w h hn)
  cases hsh : shapedB l
  · rw [hsh] at HSH
    clear h
    go_enter Try.func16, Try.ntmps16
    go_wp2_with (go_at_call 33; refine HSH.out.mono ?_; clear HSH; rintro e w1 ⟨rfl, rfl⟩)
    go_ret
    exact ⟨ret_bool (formedT_no fun h => of_decide_eq_false hsh ⟨h.1, fun i hi => (h.2 i hi).1⟩), Seen.refl _⟩
  · rw [hsh] at HSH
    have hsp : ShapedP l := of_decide_eq_true hsh
    have h0 : 0 < n := by have := hsp.1; have := HN.out; omega
    have HSP := Lib.hid hsp
    obtain ⟨b, off, rfl, hc⟩ := h.ats h0
    have HC := Lib.hid hc
    clear h hc hsp hsh
    go_enter Try.func16, Try.ntmps16
    go_wp2_with (go_at_call 33; refine HSH.out.mono ?_; clear HSH; rintro e w1 ⟨rfl, rfl⟩)
    go_loopw [9] (fun i wr => ∃ k : Nat, k ≤ n ∧ i = .int .i64 k ∧ Seen w1 wr ∧ ∀ j, j < k → formedB (nd l j).s = true) (fun i _ => n - (intOf i).toNat)
    case atStart => exact ⟨0, Nat.zero_le _, rfl, Seen.refl _, fun j hj => absurd hj (by omega)⟩
    case round =>
      obtain ⟨k, hk, rfl, hs, hall⟩ := hrel
      have S1 := Lib.hid hs
      have HA := Lib.hid hall
      clear hs hall
      by_cases hlt : k < n
      · have hk' : (k : Int) < (n : Int) := by omega
        have A1 : Hid (At wr b (off + k * 49) (nd l k)) := (HC.out k hlt).seen S1.out
        have HFM := Lib.hid (refFormed_any (nd l k).s (nd l k).full)
        cases hfm : formedB (nd l k).s
        all_goals
          rw [hfm] at HFM
          go_wp2_with (first
            | (refine wpList_loadNS rfl (.tmp 15) rfl b (off + k * 49) (nd l k) rfl A1.out ?_; clear A1)
            | (go_at_call 34; refine (HFM.out wr).mono ?_; clear HFM; rintro e w4 ⟨rfl, hs4⟩; have S4 := Lib.hid (S1.out.trans hs4); clear hs4))
        · go_ret
          exact ⟨ret_bool (formedT_no fun h => by have := (h.2 k (by have := HN.out; omega)).2; rw [hfm] at this; cases this), S4.out⟩
        · refine ⟨⟨k + 1, by omega, by go_num, S4.out, fun j hj => ?_⟩, by simp [intOf]; omega⟩
          rcases Nat.lt_or_ge j k with h | h
          · exact HA.out j h
          · obtain rfl : j = k := by omega
            exact hfm
      · have hk' : ¬ (k : Int) < (n : Int) := by omega
        obtain rfl : k = n := by omega
        go_wp2_with fail
        go_ret
        exact ⟨ret_bool (Eq.symm (decide_eq_true ⟨HSP.out.1, fun i hi => ⟨HSP.out.2 i hi, HA.out i (by have := HN.out; omega)⟩⟩)), S1.out⟩
end Go.Proofs.Yteplmjgohnbpbaa

/- Contract of the reference's Within; no conditions beyond those written in each theorem. -/
namespace Go.Proofs.Yteplmjgohnbpbaa
open Go.ChangeShapes Go.WideShapes Go.ChangeAt Go.RowKit
set_option maxRecDepth 100000
theorem lnIn_iff (x : Ln) : lnIn x = true ↔ ((x.k = 1 → -1099511627776 ≤ x.n ∧ x.n ≤ 1099511627776) ∧ (x.k = 2 → -1000000 ≤ x.n ∧ x.n ≤ 1000000)) := by
  unfold lnIn
  split
  · simp; omega
  · split
    · simp; omega
    · simp; omega
set_option maxRecDepth 100000 in
set_option maxHeartbeats 8000000 in
theorem refWithin_any (s : Sty) (hf : Full s) (w : World) : Calls Try.prog 17 #[sv s] w fun e w' => e = .returned (.bool (withinB s)) ∧ Seen w w' := by
  have HF := Lib.hid hf
  clear hf
  obtain ⟨W0, hW0⟩ : ∃ W0, W0 = w.alloc (.cells (stl s).toArray 39) := ⟨_, rfl⟩
  have H0 : Hid (Hs W0 w.heap.size s) := by rw [hW0]; exact hs_new w s
  have S0 : Hid (Seen w W0) := by rw [hW0]; exact (Seen.refl w).alloc _
  unfold sv
  go_enter Try.func17, Try.ntmps17
  go_wp2_with (first
    | (rw [← hW0]; clear hW0; refine wpList_loadS rfl _ rfl w.heap.size s rfl HF.out H0.out ?_)
    | (go_at_call 35; refine (refLens_any s HF.out _).mono ?_; rintro _ w1 ⟨⟨v1, rfl, ho1⟩, hs1⟩; rw [HF.out.lens] at ho1; obtain ⟨g, c, rfl, hg, hcell⟩ := rowL_at ho1 HF.out.lens (by omega)
       have S1 := Lib.hid hs1
       have HC := Lib.hid hcell
       clear ho1 hs1 hcell hg))
  go_loopw [11] (fun i wr => ∃ k : Nat, k ≤ 18 ∧ i = .int .i64 k ∧ w1 = wr ∧ ∀ j, j < k → lnIn (lat s.lens j) = true) (fun i _ => 18 - (intOf i).toNat)
  case atStart => exact ⟨0, Nat.zero_le _, rfl, rfl, fun j hj => absurd hj (by omega)⟩
  case round =>
    obtain ⟨k, hk, rfl, rfl, hall⟩ := hrel
    have HA := Lib.hid hall
    clear hall
    by_cases hlt : k < 18
    · have hk' : (k : Int) < 18 := by omega
      obtain ⟨c0, c1⟩ := HC.out k hlt _ (Seen.refl _)
      obtain ⟨kd, hkd⟩ : ∃ kd, (lat s.lens k).k = kd := ⟨_, rfl⟩
      obtain ⟨n, hn⟩ : ∃ n, (lat s.lens k).n = n := ⟨_, rfl⟩
      have HL : Hid (lnIn (lat s.lens k) = true ↔ ((kd = 1 → -1099511627776 ≤ n ∧ n ≤ 1099511627776) ∧ (kd = 2 → -1000000 ≤ n ∧ n ≤ 1000000))) := by
        unfold Hid; rw [lnIn_iff, hkd, hn]
      rw [hkd] at c0
      rw [hn] at c1
      clear hkd hn
      have fin : ∀ j, j < k + 1 → ((kd = 1 → -1099511627776 ≤ n ∧ n ≤ 1099511627776) ∧ (kd = 2 → -1000000 ≤ n ∧ n ≤ 1000000)) → lnIn (lat s.lens j) = true := fun j hj hh => by
        rcases Nat.lt_or_ge j k with h | h
        · exact HA.out j h
        · obtain rfl : j = k := by omega
          exact HL.out.2 hh
      have FIN := Lib.hid fin
      clear fin
      cases q2 : (kd == 2)
      · have q2' : kd ≠ 2 := by simpa using q2
        cases q0 : (kd == 0)
        · have q0' : kd ≠ 0 := by simpa using q0
          by_cases q3 : kd < 3
          · by_cases q4 : kd > 0
            · by_cases q5 : n > 1099511627776
              · go_wp2_with fail
                go_ret
                exact ⟨ret_bool (within_not fun h => by have := HL.out.1 (h.1 k hlt); omega), S0.out.trans S1.out⟩
              · by_cases q6 : n < -1099511627776
                · go_wp2_with fail
                  go_ret
                  exact ⟨ret_bool (within_not fun h => by have := HL.out.1 (h.1 k hlt); omega), S0.out.trans S1.out⟩
                · go_wp2_with fail
                  exact ⟨⟨k + 1, hlt, by go_num, trivial, fun j hj => FIN.out j hj (by omega)⟩, by simp [intOf]; omega⟩
            · go_wp2_with fail
              exact ⟨⟨k + 1, hlt, by go_num, trivial, fun j hj => FIN.out j hj (by omega)⟩, by simp [intOf]; omega⟩
          · go_wp2_with fail
            exact ⟨⟨k + 1, hlt, by go_num, trivial, fun j hj => FIN.out j hj (by omega)⟩, by simp [intOf]; omega⟩
        · have q0' : Hid (kd = 0) := by simpa [Hid] using q0
          go_wp2_with fail
          exact ⟨⟨k + 1, hlt, by go_num, trivial, fun j hj => FIN.out j hj (by have := q0'.out; omega)⟩, by simp [intOf]; omega⟩
      · have q2' : kd = 2 := by simpa using q2
        subst q2'
        by_cases q5 : n > 1000000
        · go_wp2_with fail
          go_ret
          exact ⟨ret_bool (within_not fun h => by have := (HL.out.1 (h.1 k hlt)).2 trivial; omega), S0.out.trans S1.out⟩
        · by_cases q6 : n < -1000000
          · go_wp2_with fail
            go_ret
            exact ⟨ret_bool (within_not fun h => by have := (HL.out.1 (h.1 k hlt)).2 trivial; omega), S0.out.trans S1.out⟩
          · go_wp2_with fail
            exact ⟨⟨k + 1, hlt, by go_num, trivial, fun j hj => FIN.out j hj (by omega)⟩, by simp [intOf]; omega⟩
    · have hk' : ¬ (k : Int) < 18 := by omega
      obtain rfl : k = 18 := by omega
      go_wp2_with fail
      go_loopw [62] (fun i wr => ∃ k : Nat, k ≤ 4 ∧ i = .int .i64 k ∧ w1 = wr ∧ ∀ j, j < k → bat s.bord j ≤ 1099511627776) (fun i _ => 4 - (intOf i).toNat)
      case atStart => exact ⟨0, Nat.zero_le _, rfl, rfl, fun j hj => absurd hj (by omega)⟩
      case round =>
        obtain ⟨k, hk, rfl, rfl, hall⟩ := hrel
        have HP := Lib.hid hall
        clear hall
        have hw := H0.out.seen S1.out
        by_cases hlt : k < 4
        · have hk' : (k : Int) < 4 := by omega
          have cb := hw.bord HF.out hlt
          clear hw
          by_cases h2 : bat s.bord k > 1099511627776
          · go_wp2_with fail
            go_ret
            exact ⟨ret_bool (within_not fun h => by have := h.2.1 k hlt; omega), S0.out.trans S1.out⟩
          · go_wp2_with fail
            refine ⟨⟨k + 1, hlt, by go_num, trivial, fun j hj => ?_⟩, by simp [intOf]; omega⟩
            rcases Nat.lt_or_ge j k with h | h
            · exact HP.out j h
            · obtain rfl : j = k := by omega
              omega
        · have hk' : ¬ (k : Int) < 4 := by omega
          obtain rfl : k = 4 := by omega
          have HT : Hid (withinB s = true ↔ (-1073741824 ≤ s.z ∧ s.z ≤ 1073741824 ∧ s.back ≤ 16777216 ∧ s.line ≤ 16777216)) := within_tail HA.out HP.out
          obtain ⟨_, _, c44, _, c46, c47⟩ := hw.tail HF.out
          clear hw
          go_wp2
          all_goals
            go_ret
            exact ⟨ret_bool (bool_iff (by rw [HT.out]; simp <;> omega)), S0.out.trans S1.out⟩
end Go.Proofs.Yteplmjgohnbpbaa

/- Contracts of Check of package tree and of the reference's Check; no conditions beyond those written in each theorem. -/
namespace Go.Proofs.Yteplmjgohnbpbaa
open Go.ChangeShapes Go.WideShapes Go.ChangeAt Go.RowKit
set_option maxRecDepth 100000
theorem check2 {l : List Nd} (h : formedT l = false) : checkT l = 2 := by unfold checkT; rw [h]; rfl
theorem check3 {l : List Nd} (h : formedT l = true) (k : withinT l = false) : checkT l = 3 := by unfold checkT; rw [h, k]; rfl
theorem check0 {l : List Nd} (h : formedT l = true) (k : withinT l = true) : checkT l = 0 := by unfold checkT; rw [h, k]; rfl
set_option maxHeartbeats 4000000 in
theorem check_any (ad : Option Addr) (n c : Nat) (l : List Nd) (w : World) (h : NS w ad n l) (hn : n ≤ 1099511627776) :
    Calls Try.prog 19 #[.slice ad n c] w fun e w' => e = .returned (.int .i64 (checkT l)) ∧ Seen w w' := by
  have HS := Lib.hid h
  have HF := Lib.hid (formedTree_any ad n c l w h hn)
  clear h
  cases hf : formedT l
  · rw [hf] at HF
    go_enter Try.func19, Try.ntmps19
    go_wp2_with (go_at_call 36; refine HF.out.mono ?_; rintro e w1 ⟨rfl, hs⟩; have S1 := Lib.hid hs; clear hs)
    go_ret
    rw [check2 hf]
    exact ⟨rfl, S1.out⟩
  · rw [hf] at HF
    have HW : Hid (∀ w', Seen w w' → Calls Try.prog 37 #[.slice ad n c] w' fun e w'' => e = .returned (.bool (withinT l)) ∧ Seen w' w'') := fun w' h' => withinTree_any ad n c l w' (HS.out.seen h') hn (of_decide_eq_true hf)
    cases hw : withinT l
    all_goals
      rw [hw] at HW
      go_enter Try.func19, Try.ntmps19
      go_wp2_with (first
        | (go_at_call 36; refine HF.out.mono ?_; rintro e w1 ⟨rfl, hs⟩; have S1 := Lib.hid hs; clear hs)
        | (go_at_call 37; refine (HW.out w1 S1.out).mono ?_; rintro e w2 ⟨rfl, hs⟩; have S2 := Lib.hid (S1.out.trans hs); clear hs))
      go_ret
    · rw [check3 hf hw]; exact ⟨rfl, S2.out⟩
    · rw [check0 hf hw]; exact ⟨rfl, S2.out⟩
set_option maxHeartbeats 8000000 in
theorem refCheck_any (ad : Option Addr) (n c : Nat) (l : List Nd) (w : World) (h : NS w ad n l) (hn : n ≤ 1099511627776) :
    Calls Try.prog 7 #[.slice ad n c] w fun e w' => e = .returned (.int .i64 (checkT l)) ∧ Seen w w' := by
  have HN : Hid (l.length = n) := h.1
  have HS := Lib.hid h
  have HF := Lib.hid (refFormedT_any ad n c l w h hn)
  cases hf : formedT l
  · rw [hf] at HF
    clear h
    go_enter Try.func7, Try.ntmps7
    go_wp2_with (go_at_call 16; refine HF.out.mono ?_; rintro e w1 ⟨rfl, hs⟩; have S1 := Lib.hid hs; clear hs)
    go_ret
    rw [check2 hf]
    exact ⟨rfl, S1.out⟩
  · rw [hf] at HF
    have hft : FormedT l := of_decide_eq_true hf
    have HFT := Lib.hid hft
    have h0 : 0 < n := by have := hft.1; have := HN.out; omega
    obtain ⟨b, off, rfl, hc⟩ := h.ats h0
    have HC := Lib.hid hc
    have HNO : Hid (¬ WithinT l → checkT l = 3) := fun h => check3 hf (decide_eq_false h)
    have HYES : Hid (WithinT l → checkT l = 0) := fun h => check0 hf (decide_eq_true h)
    clear h hc hft hf
    go_enter Try.func7, Try.ntmps7
    go_wp2_with (go_at_call 16; refine HF.out.mono ?_; clear HF; rintro e w1 ⟨rfl, hs⟩; have S1 := Lib.hid hs; clear hs)
    go_loopw [9] (fun i wr => ∃ k : Nat, k ≤ n ∧ i = .int .i64 k ∧ Seen w wr ∧ ∀ j, j < k → deep l j ≤ 256 ∧ withinB (nd l j).s = true) (fun i _ => n - (intOf i).toNat)
    case atStart => exact ⟨0, Nat.zero_le _, rfl, S1.out, fun j hj => absurd hj (by omega)⟩
    case round =>
      obtain ⟨k, hk, rfl, hs, hall⟩ := hrel
      have S2 := Lib.hid hs
      have HA := Lib.hid hall
      clear hs hall S1
      by_cases hlt : k < n
      · have hk' : (k : Int) < (n : Int) := by omega
        have A1 : Hid (At wr b (off + k * 49) (nd l k)) := (HC.out k hlt).seen S2.out
        have HL : Hid (Low l (k + 1)) := HFT.out.low.less (by have := HN.out; omega)
        have HDP : Hid (∀ w', Seen w w' → Calls Try.prog 18 #[.slice (some ⟨b, off, none⟩) n c, .int .i64 k] w' fun e w'' => e = .returned (.int .i64 (deep l k : Nat)) ∧ w'' = w') := fun w' h' => deep_any _ n c l k w' (HS.out.seen h') (by omega) (by omega) hn (HL.out.less (by omega))
        obtain ⟨E, hE⟩ : ∃ E, deep l k = E := ⟨_, rfl⟩
        rw [hE] at HDP
        have HE := Lib.hid hE
        clear hE
        have HFM := Lib.hid (refWithin_any (nd l k).s (nd l k).full)
        cases hfm : withinB (nd l k).s
        · rw [hfm] at HFM
          go_wp2_with (first
            | (refine wpList_loadNS rfl (.tmp 15) rfl b (off + k * 49) (nd l k) rfl A1.out ?_; clear A1)
            | (go_at_call 17; refine (HFM.out wr).mono ?_; clear HFM; rintro e w4 ⟨rfl, hs4⟩; have S4 := Lib.hid (S2.out.trans hs4); clear hs4))
          go_ret
          refine ⟨ret_int (HNO.out fun h => ?_).symm, S4.out⟩
          have := (h.2 k (by have := HN.out; omega)).2
          rw [hfm] at this; cases this
        · rw [hfm] at HFM
          by_cases hE256 : (E : Int) > 256
          all_goals
            go_wp2_with (first
              | (refine wpList_loadNS rfl (.tmp 15) rfl b (off + k * 49) (nd l k) rfl A1.out ?_; clear A1)
              | (go_at_call 17; refine (HFM.out wr).mono ?_; clear HFM; rintro e w4 ⟨rfl, hs4⟩; have S4 := Lib.hid (S2.out.trans hs4); clear hs4)
              | (go_at_call 18; refine (HDP.out w4 S4.out).mono ?_; clear HDP; rintro e w5 ⟨rfl, rfl⟩))
          · go_ret
            refine ⟨ret_int (HNO.out fun h => ?_).symm, S4.out⟩
            have := (h.2 k (by have := HN.out; omega)).1
            rw [HE.out] at this; omega
          · refine ⟨⟨k + 1, by omega, by go_num, S4.out, fun j hj => ?_⟩, by simp [intOf]; omega⟩
            rcases Nat.lt_or_ge j k with h | h
            · exact HA.out j h
            · obtain rfl : j = k := by omega
              exact ⟨by rw [HE.out]; omega, hfm⟩
      · have hk' : ¬ (k : Int) < (n : Int) := by omega
        obtain rfl : k = n := by omega
        by_cases hbig : (k : Int) > 65535
        · go_wp2_with fail
          go_ret
          exact ⟨ret_int (HNO.out fun h => by have := h.1; have := HN.out; omega).symm, S2.out⟩
        · go_wp2_with fail
          go_ret
          exact ⟨ret_int (HYES.out ⟨by have := HN.out; omega, fun i hi => HA.out i (by have := HN.out; omega)⟩).symm, S2.out⟩
end Go.Proofs.Yteplmjgohnbpbaa
