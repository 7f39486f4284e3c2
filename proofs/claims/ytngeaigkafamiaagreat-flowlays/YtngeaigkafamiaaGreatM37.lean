/- Texts of the proof, merged: RefWithin. -/
import Derived.Test.YtngeaigkafamiaaGreatM4
namespace Go.Proofs.YtngeaigkafamiaaGreat
open Go.ChangeShapes Go.WideShapes Go.ChangeAt Go.RowKit
set_option maxRecDepth 100000
theorem lnIn_iff (x : Ln) : lnIn x = true ↔ ((x.k = 1 → -1099511627776 ≤ x.n ∧ x.n ≤ 1099511627776) ∧ (x.k = 2 → -1000000 ≤ x.n ∧ x.n ≤ 1000000)) := by
  unfold lnIn
  split
  · simp; omega
  · split
    · simp; omega
    · simp; omega
set_option maxRecDepth 100000 in
set_option maxHeartbeats 8000000 in
theorem refWithin_any (s : Sty) (hf : Full s) (w : World) : Calls Tryz.prog 13 #[sv s] w fun e w' => e = .returned (.bool (withinB s)) ∧ Seen w w' := by
  have HF := Lib.hid hf
  clear hf
  obtain ⟨W0, hW0⟩ : ∃ W0, W0 = w.alloc (.cells (stl s).toArray 66) := ⟨_, rfl⟩
  have H0 : Hid (Hs W0 w.heap.size s) := by rw [hW0]; exact hs_new w s
  have S0 : Hid (Seen w W0) := by rw [hW0]; exact (Seen.refl w).alloc _
  unfold sv
  go_enter Tryz.func13, Tryz.ntmps13
  go_wp2_with (first
    | (rw [← hW0]; clear hW0; refine wpList_loadS rfl _ rfl w.heap.size s rfl HF.out H0.out ?_)
    | (go_at_call 36; refine (refLens_any s HF.out _).mono ?_; rintro _ w1 ⟨⟨v1, rfl, ho1⟩, hs1⟩; rw [HF.out.lens] at ho1; obtain ⟨g, c, rfl, hg, hcell⟩ := rowL_at ho1 HF.out.lens (by omega)
       have S1 := Lib.hid hs1
       have HC := Lib.hid hcell
       clear ho1 hs1 hcell hg))
  go_loopw [11] (fun i wr => ∃ k : Nat, k ≤ 18 ∧ i = .int .i64 k ∧ w1 = wr ∧ ∀ j, j < k → lnIn (lat s.lens j) = true) (fun i _ => 18 - (intOf i).toNat)
  case atStart => exact ⟨0, Nat.zero_le _, rfl, rfl, fun j hj => absurd hj (by omega)⟩
  case round =>
    obtain ⟨k, hk, rfl, rfl, hall⟩ := hrel
    have HA := Lib.hid hall
    clear hall
    by_cases hlt : k < 18
    · have hk' : (k : Int) < 18 := by omega
      obtain ⟨c0, c1⟩ := HC.out k hlt _ (Seen.refl _)
      obtain ⟨kd, hkd⟩ : ∃ kd, (lat s.lens k).k = kd := ⟨_, rfl⟩
      obtain ⟨n, hn⟩ : ∃ n, (lat s.lens k).n = n := ⟨_, rfl⟩
      have HL : Hid (lnIn (lat s.lens k) = true ↔ ((kd = 1 → -1099511627776 ≤ n ∧ n ≤ 1099511627776) ∧ (kd = 2 → -1000000 ≤ n ∧ n ≤ 1000000))) := by
        unfold Hid; rw [lnIn_iff, hkd, hn]
      rw [hkd] at c0
      rw [hn] at c1
      clear hkd hn
      have fin : ∀ j, j < k + 1 → ((kd = 1 → -1099511627776 ≤ n ∧ n ≤ 1099511627776) ∧ (kd = 2 → -1000000 ≤ n ∧ n ≤ 1000000)) → lnIn (lat s.lens j) = true := fun j hj hh => by
        rcases Nat.lt_or_ge j k with h | h
        · exact HA.out j h
        · obtain rfl : j = k := by omega
          exact HL.out.2 hh
      have FIN := Lib.hid fin
      clear fin
      cases q2 : (kd == 2)
      · have q2' : kd ≠ 2 := by simpa using q2
        cases q0 : (kd == 0)
        · have q0' : kd ≠ 0 := by simpa using q0
          by_cases q3 : kd < 3
          · by_cases q4 : kd > 0
            · by_cases q5 : n > 1099511627776
              · go_wp2_with fail
                go_ret
                exact ⟨ret_bool (within_not fun h => by have := HL.out.1 (h.1 k hlt); omega), S0.out.trans S1.out⟩
              · by_cases q6 : n < -1099511627776
                · go_wp2_with fail
                  go_ret
                  exact ⟨ret_bool (within_not fun h => by have := HL.out.1 (h.1 k hlt); omega), S0.out.trans S1.out⟩
                · go_wp2_with fail
                  exact ⟨⟨k + 1, hlt, by go_num, trivial, fun j hj => FIN.out j hj (by omega)⟩, by simp [intOf]; omega⟩
            · go_wp2_with fail
              exact ⟨⟨k + 1, hlt, by go_num, trivial, fun j hj => FIN.out j hj (by omega)⟩, by simp [intOf]; omega⟩
          · go_wp2_with fail
            exact ⟨⟨k + 1, hlt, by go_num, trivial, fun j hj => FIN.out j hj (by omega)⟩, by simp [intOf]; omega⟩
        · have q0' : Hid (kd = 0) := by simpa [Hid] using q0
          go_wp2_with fail
          exact ⟨⟨k + 1, hlt, by go_num, trivial, fun j hj => FIN.out j hj (by have := q0'.out; omega)⟩, by simp [intOf]; omega⟩
      · have q2' : kd = 2 := by simpa using q2
        subst q2'
        by_cases q5 : n > 1000000
        · go_wp2_with fail
          go_ret
          exact ⟨ret_bool (within_not fun h => by have := (HL.out.1 (h.1 k hlt)).2 trivial; omega), S0.out.trans S1.out⟩
        · by_cases q6 : n < -1000000
          · go_wp2_with fail
            go_ret
            exact ⟨ret_bool (within_not fun h => by have := (HL.out.1 (h.1 k hlt)).2 trivial; omega), S0.out.trans S1.out⟩
          · go_wp2_with fail
            exact ⟨⟨k + 1, hlt, by go_num, trivial, fun j hj => FIN.out j hj (by omega)⟩, by simp [intOf]; omega⟩
    · have hk' : ¬ (k : Int) < 18 := by omega
      obtain rfl : k = 18 := by omega
      go_wp2_with fail
      go_loopw [62] (fun i wr => ∃ k : Nat, k ≤ 4 ∧ i = .int .i64 k ∧ w1 = wr ∧ ∀ j, j < k → bat s.bord j ≤ 1099511627776) (fun i _ => 4 - (intOf i).toNat)
      case atStart => exact ⟨0, Nat.zero_le _, rfl, rfl, fun j hj => absurd hj (by omega)⟩
      case round =>
        obtain ⟨k, hk, rfl, rfl, hall⟩ := hrel
        have HP := Lib.hid hall
        clear hall
        have hw := H0.out.seen S1.out
        by_cases hlt : k < 4
        · have hk' : (k : Int) < 4 := by omega
          have cb := hw.bord HF.out hlt
          clear hw
          by_cases h2 : bat s.bord k > 1099511627776
          · go_wp2_with fail
            go_ret
            exact ⟨ret_bool (within_not fun h => by have := h.2.1 k hlt; omega), S0.out.trans S1.out⟩
          · go_wp2_with fail
            refine ⟨⟨k + 1, hlt, by go_num, trivial, fun j hj => ?_⟩, by simp [intOf]; omega⟩
            rcases Nat.lt_or_ge j k with h | h
            · exact HP.out j h
            · obtain rfl : j = k := by omega
              omega
        · have hk' : ¬ (k : Int) < 4 := by omega
          obtain rfl : k = 4 := by omega
          have HT : Hid (withinB s = true ↔ (-1073741824 ≤ s.z ∧ s.z ≤ 1073741824 ∧ s.back ≤ 16777216 ∧ s.line ≤ 16777216)) := within_tail HA.out HP.out
          obtain ⟨_, _, c44, _, c46, c47⟩ := hw.tail HF.out
          clear hw
          go_wp2
          all_goals
            go_ret
            exact ⟨ret_bool (bool_iff (by rw [HT.out]; simp <;> omega)), S0.out.trans S1.out⟩
end Go.Proofs.YtngeaigkafamiaaGreat

