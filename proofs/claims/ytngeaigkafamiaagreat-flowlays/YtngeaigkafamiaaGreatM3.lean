/- Texts of the proof, merged: RefFormed. -/
import Derived.Test.YtngeaigkafamiaaGreatM2
namespace Go.Proofs.YtngeaigkafamiaaGreat
open Go.ChangeShapes Go.WideShapes Go.ChangeAt Go.RowKit
set_option maxRecDepth 100000
def refOk (s : Sty) (i : Nat) : Prop := lnOk (lat s.lens i) = true ∧ (4 ≤ i ∧ i < 10 → 0 ≤ (lat s.lens i).n) ∧ (14 ≤ i → 0 ≤ (lat s.lens i).n ∧ (lat s.lens i).k ≠ 0)
theorem refOk_of {s : Sty} (h : FormedP s) {i : Nat} (hi : i < 18) : refOk s i := by
  refine ⟨h.1 i hi, fun h1 => ?_, fun h1 => ?_⟩
  · have := h.2.1 (i - 4) (by omega)
    rwa [show 4 + (i - 4) = i by omega] at this
  · have := h.2.2.1 (i - 14) (by omega)
    rw [show 14 + (i - 14) = i by omega] at this
    exact ⟨this.2, this.1⟩
theorem lnOk_iff (x : Ln) : lnOk x = true ↔ (x.k = 0 ∧ x.n = 0) ∨ x.k = 1 ∨ x.k = 2 := by
  unfold lnOk; simp
set_option maxRecDepth 100000 in
set_option maxHeartbeats 8000000 in
theorem refFormed_any (s : Sty) (hf : Full s) (w : World) : Calls Tryz.prog 35 #[sv s] w fun e w' => e = .returned (.bool (formedB s)) ∧ Seen w w' := by
  have HF := Lib.hid hf
  clear hf
  obtain ⟨W0, hW0⟩ : ∃ W0, W0 = w.alloc (.cells (stl s).toArray 66) := ⟨_, rfl⟩
  have H0 : Hid (Hs W0 w.heap.size s) := by rw [hW0]; exact hs_new w s
  have S0 : Hid (Seen w W0) := by rw [hW0]; exact (Seen.refl w).alloc _
  have hX : w.heap.size < W0.heap.size := H0.out.lt
  unfold sv
  go_enter Tryz.func35, Tryz.ntmps35
  go_wp2_with (first
    | (rw [← hW0]; clear hW0; refine wpList_loadS rfl _ rfl w.heap.size s rfl HF.out H0.out ?_)
    | (go_at_call 36; refine (refLens_any s HF.out _).mono ?_; rintro _ w1 ⟨⟨v1, rfl, ho1⟩, hs1⟩; rw [HF.out.lens] at ho1; obtain ⟨g, c, rfl, hg, hcell⟩ := rowL_at ho1 HF.out.lens (by omega)
       have S1 := Lib.hid hs1
       have HC := Lib.hid hcell
       clear ho1 hs1 hcell hg))
  go_loopw [10] (fun i wr => ∃ k : Nat, k ≤ 18 ∧ i = .int .i64 k ∧ w1 = wr ∧ ∀ j, j < k → refOk s j) (fun i _ => 18 - (intOf i).toNat)
  case atStart => exact ⟨0, Nat.zero_le _, rfl, rfl, fun j hj => absurd hj (by omega)⟩
  case round =>
    obtain ⟨k, hk, rfl, rfl, hall⟩ := hrel
    have HA := Lib.hid hall
    clear hall
    by_cases hlt : k < 18
    · have hk' : (k : Int) < 18 := by omega
      obtain ⟨c0, c1⟩ := HC.out k hlt _ (Seen.refl _)
      obtain ⟨kd, hkd⟩ : ∃ kd, (lat s.lens k).k = kd := ⟨_, rfl⟩
      obtain ⟨n, hn⟩ : ∃ n, (lat s.lens k).n = n := ⟨_, rfl⟩
      have HL : Hid (refOk s k ↔ (((kd = 0 ∧ n = 0) ∨ kd = 1 ∨ kd = 2) ∧ (4 ≤ k ∧ k < 10 → 0 ≤ n) ∧ (14 ≤ k → 0 ≤ n ∧ kd ≠ 0))) := by
        unfold Hid refOk; rw [lnOk_iff, hkd, hn]
      rw [hkd] at c0
      rw [hn] at c1
      clear hkd hn
      by_cases q1 : kd < 0
      · go_wp2_with fail
        go_ret
        exact ⟨ret_bool (formed_not fun h => by have := HL.out.1 (refOk_of h hlt); omega), S0.out.trans S1.out⟩
      by_cases q2 : kd > 2
      · go_wp2_with fail
        go_ret
        exact ⟨ret_bool (formed_not fun h => by have := HL.out.1 (refOk_of h hlt); omega), S0.out.trans S1.out⟩
      have q45 : (k : Int) ≥ 4 ∧ (k : Int) < 10 ∨ (k : Int) ≥ 14 ∨ (¬ ((k : Int) ≥ 4) ∧ ¬ ((k : Int) ≥ 14)) ∨ (((k : Int) ≥ 4) ∧ ¬ ((k : Int) < 10) ∧ ¬ ((k : Int) ≥ 14)) := by omega
      cases q3 : (kd == 0)
      · have q3' : kd ≠ 0 := by simpa using q3
        by_cases q6 : n < 0
        · rcases q45 with ⟨r1, r2⟩ | r1 | ⟨r1, r2⟩ | ⟨r1, r2, r3⟩
          · go_wp2_with fail
            go_ret
            exact ⟨ret_bool (formed_not fun h => by have := HL.out.1 (refOk_of h hlt); omega), S0.out.trans S1.out⟩
          · have r3 : (k : Int) ≥ 4 := by omega
            have r4 : ¬ (k : Int) < 10 := by omega
            go_wp2_with fail
            go_ret
            exact ⟨ret_bool (formed_not fun h => by have := HL.out.1 (refOk_of h hlt); omega), S0.out.trans S1.out⟩
          all_goals
            go_wp2_with fail
            refine ⟨⟨k + 1, hlt, by go_num, trivial, fun j hj => ?_⟩, by simp [intOf]; omega⟩
            rcases Nat.lt_or_ge j k with h | h
            · exact HA.out j h
            · obtain rfl : j = k := by omega
              exact HL.out.2 (by omega)
        · by_cases r1 : (k : Int) ≥ 14
          all_goals
            go_wp2_with fail
            refine ⟨⟨k + 1, hlt, by go_num, trivial, fun j hj => ?_⟩, by simp [intOf]; omega⟩
            rcases Nat.lt_or_ge j k with h | h
            · exact HA.out j h
            · obtain rfl : j = k := by omega
              exact HL.out.2 (by omega)
      · have q3' : kd = 0 := by simpa using q3
        cases q6 : (n == 0)
        · have q6' : n ≠ 0 := by simpa using q6
          go_wp2_with fail
          go_ret
          exact ⟨ret_bool (formed_not fun h => by have := HL.out.1 (refOk_of h hlt); omega), S0.out.trans S1.out⟩
        · have q6' : n = 0 := by simpa using q6
          have q7 : ¬ n < 0 := by omega
          by_cases r1 : (k : Int) ≥ 14
          · have HQ := Lib.hid q3'
            have HQ6 := Lib.hid q6'
            clear q3' q6'
            go_wp2_with fail
            go_ret
            exact ⟨ret_bool (formed_not fun h => by have := HL.out.1 (refOk_of h hlt); have := HQ.out; omega), S0.out.trans S1.out⟩
          · have HQ := Lib.hid q3'
            have HQ6 := Lib.hid q6'
            clear q3' q6'
            go_wp2_with fail
            refine ⟨⟨k + 1, hlt, by go_num, trivial, fun j hj => ?_⟩, by simp [intOf]; omega⟩
            rcases Nat.lt_or_ge j k with h | h
            · exact HA.out j h
            · obtain rfl : j = k := by omega
              have := HQ.out
              have := HQ6.out
              exact HL.out.2 (by omega)
    · have hk' : ¬ (k : Int) < 18 := by omega
      obtain rfl : k = 18 := by omega
      go_wp2_with fail
      go_loopw [74] (fun i wr => ∃ k : Nat, k ≤ 4 ∧ i = .int .i64 k ∧ w1 = wr ∧ ∀ j, j < k → 0 ≤ bat s.bord j) (fun i _ => 4 - (intOf i).toNat)
      case atStart => exact ⟨0, Nat.zero_le _, rfl, rfl, fun j hj => absurd hj (by omega)⟩
      case round =>
        obtain ⟨k, hk, rfl, rfl, hall⟩ := hrel
        have HP := Lib.hid hall
        clear hall
        have hw := H0.out.seen S1.out
        by_cases hlt : k < 4
        · have hk' : (k : Int) < 4 := by omega
          have cb := hw.bord HF.out hlt
          clear hw
          by_cases h2 : bat s.bord k < 0
          · go_wp2_with fail
            go_ret
            exact ⟨ret_bool (formed_not fun h => by have := h.2.2.2.1 k hlt; omega), S0.out.trans S1.out⟩
          · go_wp2_with fail
            refine ⟨⟨k + 1, hlt, by go_num, trivial, fun j hj => ?_⟩, by simp [intOf]; omega⟩
            rcases Nat.lt_or_ge j k with h | h
            · exact HP.out j h
            · obtain rfl : j = k := by omega
              omega
        · have hk' : ¬ (k : Int) < 4 := by omega
          obtain rfl : k = 4 := by omega
          have HT : Hid (formedB s = true ↔ (0 ≤ s.pos ∧ s.pos ≤ 3 ∧ 0 ≤ s.back ∧ 0 ≤ s.line ∧ (s.hasz = true ∨ s.z = 0))) :=
            formed_tail (fun i hi => (HA.out i hi).1) (fun i hi => (HA.out (4 + i) (by omega)).2.1 (by omega)) (fun i hi => ((HA.out (14 + i) (by omega)).2.2 (by omega)).symm) HP.out
          obtain ⟨_, c43, c44, _, c46, c47⟩ := hw.tail HF.out
          obtain ⟨_, c1⟩ := hw.head
          clear hw
          cases hz : s.hasz
          all_goals
            rw [hz] at HT
            rw [hz] at c43
            go_wp2
          all_goals
            go_ret
            exact ⟨ret_bool (bool_iff (by rw [HT.out]; simp <;> omega)), S0.out.trans S1.out⟩
end Go.Proofs.YtngeaigkafamiaaGreat

