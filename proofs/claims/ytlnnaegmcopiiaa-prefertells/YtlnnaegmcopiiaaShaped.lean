/- Contracts of the reference's Shaped; no conditions beyond those written in each theorem. -/
import Derived.Test.YtlnnaegmcopiiaaSteps
namespace Go.Proofs.Ytlnnaegmcopiiaa
open Go.ChangeShapes Go.WideShapes Go.ChangeAt Go.RowKit
set_option maxRecDepth 100000
/-- A list is a tree. -/
def ShapedP (l : List Nd) : Prop := 0 < l.length ∧ ∀ i, i < l.length → okAt l i
instance (l : List Nd) : Decidable (ShapedP l) := by unfold ShapedP; infer_instance
def shapedB (l : List Nd) : Bool := decide (ShapedP l)
theorem shaped_no {l : List Nd} (h : ¬ ShapedP l) : false = shapedB l := (decide_eq_false h).symm
theorem okAt_above (l : List Nd) {i : Nat} (h : 0 < i) : okAt l i ↔ (0 ≤ (nd l i).p ∧ aboveB l (nd l i).p ((i : Int) - 1) = true) := by
  rw [okAtS l h]; unfold aboveB; rw [beq_iff_eq]
set_option maxHeartbeats 4000000 in
theorem shaped_any (ad : Option Addr) (n c : Nat) (l : List Nd) (w : World) (h : NS w ad n l) (hn : n ≤ 1099511627776) :
    Calls Try.prog 28 #[.slice ad n c] w fun e w' => e = .returned (.bool (shapedB l)) ∧ w' = w := by
  have HN : Hid (l.length = n) := h.1
  have HS := Lib.hid h
  rcases Nat.eq_zero_or_pos n with h0 | h0
  · subst h0
    clear h
    go_enter Try.func28, Try.ntmps28
    go_wp2_with fail
    go_ret
    exact ⟨ret_bool (shaped_no fun h => by have := h.1; have := HN.out; omega), rfl⟩
  · obtain ⟨b, off, rfl, hc⟩ := h.pars h0
    have c0 := hc 0 h0
    rw [Nat.zero_mul, Nat.add_zero] at c0
    have HC := Lib.hid hc
    have hn0 : ((n : Int) == 0) = false := by simp; omega
    obtain ⟨P0, hP0⟩ : ∃ P0, (nd l 0).p = P0 := ⟨_, rfl⟩
    rw [hP0] at c0
    have HP0 := Lib.hid hP0
    clear h hc hP0
    cases hq0 : (P0 == -1)
    · go_enter Try.func28, Try.ntmps28
      go_wp2_with fail
      go_ret
      refine ⟨ret_bool (shaped_no fun h => ?_), rfl⟩
      have := (okAt0 l).1 (h.2 0 (by have := HN.out; omega))
      rw [HP0.out] at this
      simp at hq0
      omega
    · obtain rfl : P0 = -1 := by simpa using hq0
      clear hq0
      go_enter Try.func28, Try.ntmps28
      go_wp2_with fail
      go_loopw [3] (fun i wr => ∃ k : Nat, 1 ≤ k ∧ k ≤ n ∧ i = .int .i64 k ∧ wr = w ∧ ∀ j, j < k → okAt l j) (fun i _ => n - (intOf i).toNat)
      case atStart =>
        refine ⟨1, Nat.le_refl _, h0, rfl, rfl, fun j hj => ?_⟩
        obtain rfl : j = 0 := by omega
        rw [okAt0, HP0.out]
      case round =>
        obtain ⟨k, hk1, hkn, rfl, rfl, hall⟩ := hrel
        have HA := Lib.hid hall
        clear hall
        by_cases hlt : k < n
        · have hk' : (k : Int) < (n : Int) := by omega
          have ck := HC.out k hlt
          obtain ⟨P, hP⟩ : ∃ P, (nd l k).p = P := ⟨_, rfl⟩
          rw [hP] at ck
          have HL : Hid (Low l k) := low_of (by have := HN.out; omega) HA.out
          have HK : Hid (okAt l k ↔ (0 ≤ P ∧ aboveB l P ((k : Int) - 1) = true)) := by
            have := okAt_above l (i := k) hk1
            rw [hP] at this
            exact this
          clear hP
          by_cases hp0 : P < 0
          · go_wp2_with fail
            go_ret
            exact ⟨ret_bool (shaped_no fun h => by have := (HK.out.1 (h.2 k (by have := HN.out; omega))).1; omega), rfl⟩
          · by_cases hpk : (k : Int) ≤ P
            · go_wp2_with fail
              go_ret
              refine ⟨ret_bool (shaped_no fun h => ?_), rfl⟩
              have h1 := HK.out.1 (h.2 k (by have := HN.out; omega))
              have h2 := h1.2
              unfold aboveB at h2
              rw [beq_iff_eq] at h2
              have h3 := (HL.out.up (m := (k : Int) - 1) (by omega) (by omega) (stepsTo l ((k : Int) - 1) P)).2.1
              omega
            · obtain ⟨m, hm⟩ : ∃ m : Int, (k : Int) - 1 = m := ⟨_, rfl⟩
              have hm0 : 0 ≤ m := by omega
              have hmn : m < n := by omega
              have hmk : m.toNat + 1 = k := by omega
              rw [hm] at HK
              have HAB := Lib.hid (above_any (some ⟨b, off, none⟩) n c l P m wr HS.out (by omega) hm0 hmn hn (HL.out.less (by omega)))
              cases hb : aboveB l P m
              · rw [hb] at HAB
                go_wp2_with (go_at_call 40; refine HAB.out.mono ?_; rintro e w1 ⟨rfl, rfl⟩)
                go_ret
                exact ⟨ret_bool (shaped_no fun h => by have := (HK.out.1 (h.2 k (by have := HN.out; omega))).2; rw [hb] at this; cases this), rfl⟩
              · rw [hb] at HAB
                go_wp2_with (go_at_call 40; refine HAB.out.mono ?_; rintro e w1 ⟨rfl, rfl⟩)
                refine ⟨⟨k + 1, by omega, by omega, by go_num, trivial, fun j hj => ?_⟩, by simp [intOf]; omega⟩
                rcases Nat.lt_or_ge j k with h | h
                · exact HA.out j h
                · obtain rfl : j = k := by omega
                  exact HK.out.2 ⟨by omega, hb⟩
        · have hk' : ¬ (k : Int) < (n : Int) := by omega
          obtain rfl : k = n := by omega
          go_wp2_with fail
          go_ret
          exact ⟨ret_bool (Eq.symm (decide_eq_true ⟨by have := HN.out; omega, fun i hi => HA.out i (by have := HN.out; omega)⟩)), rfl⟩
end Go.Proofs.Ytlnnaegmcopiiaa
