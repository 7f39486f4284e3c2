/- Contracts of upTo, withinLen, Within and of the reference's Within; no conditions beyond those written in each theorem. -/
import Derived.Test.YtlnnaegmcopiiaaRefFormed
namespace Go.Proofs.Ytlnnaegmcopiiaa
open Go.ChangeShapes Go.WideShapes Go.ChangeAt Go.RowKit
set_option maxRecDepth 100000
theorem upTo_any (n l : Int) (w : World) (h0 : 0 ≤ l) (h1 : l ≤ 1099511627776) : Calls Try.prog 52 #[.int .i64 n, .int .i64 l] w fun e w' => e = .returned (.bool (decide (-l ≤ n ∧ n ≤ l))) ∧ w' = w := by
  have hw : IntKind.i64.wrap (-l) = -l := by rw [IntKind.wrap_i64]; omega
  go_enter Try.func52, Try.ntmps52
  go_wp2
  all_goals
    go_ret
    exact ⟨ret_bool (bool_iff (by simp <;> omega)), rfl⟩
theorem withinLen_any (x : Ln) (w : World) : Calls Try.prog 51 #[.agg #[.int .i64 x.k, .int .i64 x.n]] w fun e w' => e = .returned (.bool (lnIn x)) ∧ Seen w w' := by
  have s0 : Hid (Seen w (w.alloc (.cells #[.int .i64 x.k, .int .i64 x.n] 35))) := (Seen.refl w).alloc _
  by_cases h1 : x.k = 1
  · have H : Hid (lnIn x = decide (-1099511627776 ≤ x.n ∧ x.n ≤ 1099511627776)) := if_pos h1
    have hd : (x.k == 1) = true := by simp [h1]
    clear h1
    go_enter Try.func51, Try.ntmps51
    go_wp2_with (go_at_call 52; refine (upTo_any _ _ _ (by omega) (by omega)).mono ?_; rintro _ w1 ⟨rfl, rfl⟩)
    go_ret
    exact ⟨ret_bool (by rw [H.out, Bool.decide_and]), s0.out⟩
  · by_cases h2 : x.k = 2
    · have H : Hid (lnIn x = decide (-1000000 ≤ x.n ∧ x.n ≤ 1000000)) := (if_neg h1).trans (if_pos h2)
      have hd : (x.k == 1) = false := by simp [h1]
      have hd2 : (x.k == 2) = true := by simp [h2]
      clear h1 h2
      go_enter Try.func51, Try.ntmps51
      go_wp2_with (go_at_call 52; refine (upTo_any _ _ _ (by omega) (by omega)).mono ?_; rintro _ w1 ⟨rfl, rfl⟩)
      go_ret
      exact ⟨ret_bool (by rw [H.out, Bool.decide_and]), s0.out⟩
    · have H : Hid (lnIn x = true) := (if_neg h1).trans (if_neg h2)
      have hd : (x.k == 1) = false := by simp [h1]
      have hd2 : (x.k == 2) = false := by simp [h2]
      clear h1 h2
      go_enter Try.func51, Try.ntmps51
      go_wp2_with fail
      go_ret
      exact ⟨ret_bool H.out.symm, s0.out⟩
theorem within_tail {s : Sty} (h1 : ∀ i, i < 18 → lnIn (lat s.lens i) = true) (h2 : ∀ i, i < 4 → bat s.bord i ≤ 1099511627776) :
    withinB s = true ↔ (-1073741824 ≤ s.z ∧ s.z ≤ 1073741824 ∧ s.back ≤ 16777216 ∧ s.line ≤ 16777216) := by
  unfold withinB
  rw [decide_eq_true_iff]
  exact ⟨fun h => h.2.2, fun h => ⟨h1, h2, h⟩⟩
theorem within_not {s : Sty} (h : ¬ WithinP s) : false = withinB s := (decide_eq_false h).symm
theorem flatI_index {l : List Int} (hl : l.length = 4) {k : Nat} (hk : k < 4) (w : World) :
    (Instr.index 37 (.agg (flatI l).toArray) (.int .i64 (k : Int))).run Try.prog w = .ok (.int .i64 (bat l k)) w := by
  have h1 : (0 : Int) ≤ (k : Int) ∧ (k : Int) < ((4 : Nat) : Int) := by omega
  unfold Instr.index
  simp only [asIntOf, Sem.run_bind, Sem.run_pure, Result.andThen_ok, run_underlying Try.underlying37, h1, and_self, if_true, Int.toNat_natCast, Try.sizeOf2]
  unfold part
  simp only [Sem.run_bind, Try.isAgg2, Result.andThen_ok, Bool.false_eq_true, if_false, Nat.mul_one, List.getElem?_toArray, flatI_at (l := l) (i := k) (by omega), Sem.run_pure]
theorem info25 : (Try.prog.info? 37).map (·.size) = some 4 := by kernel_rfl
theorem stl_bords {s : Sty} (h : Full s) : ((stl s).drop 38).take 4 = flatI s.bord := by
  have hl := flatL_length s.lens
  rw [h.lens] at hl
  have hb := flatI_length s.bord
  rw [h.bord] at hb
  unfold stl
  rw [List.drop_append, List.drop_of_length_le (by simp), List.nil_append, List.drop_append, List.drop_of_length_le (by rw [hl]; simp), List.nil_append, hl]
  simp only [List.length_cons, List.length_nil, Nat.reduceAdd, Nat.reduceMul, Nat.reduceSub, List.drop_zero]
  rw [List.take_append_of_le_length (by rw [hb]; omega), List.take_of_length_le (by rw [hb]; omega)]
/-- The load of the four borders. -/
theorem wpList_loadB {ops : Array Oper} {rest : List Oper} {op : Oper} {a : Act} {w : World} {Q : Exit → Act → World → Prop} (hgd : op.guard = none) (x : Operand) (ho : op.op = .load 37 x) (X : Nat) (s : Sty)
    (hx : a.eval x = .pointer (some ⟨X, 38, none⟩)) (hf : Full s) (hs : Hs w X s) (h : wpList Try.prog ops Q rest (a.put op.dst (.agg (flatI s.bord).toArray)) w) : wpList Try.prog ops Q (op :: rest) a w := by
  have hr := hs.range 38 4
  rw [stl_bords hf] at hr
  exact wpList_load_mid hgd 37 x ho X 38 hx _ _ hr Try.underlying37 rfl (by rw [flatI_length, hf.bord]; exact info25) h
set_option maxRecDepth 100000 in
set_option maxHeartbeats 8000000 in
theorem styWithin_any (s : Sty) (hf : Full s) (w : World) : Calls Try.prog 43 #[sv s] w fun e w' => e = .returned (.bool (withinB s)) ∧ Seen w w' := by
  have HF := Lib.hid hf
  clear hf
  obtain ⟨W0, hW0⟩ : ∃ W0, W0 = w.alloc (.cells (stl s).toArray 39) := ⟨_, rfl⟩
  have H0 : Hid (Hs W0 w.heap.size s) := by rw [hW0]; exact hs_new w s
  have S0 : Hid (Seen w W0) := by rw [hW0]; exact (Seen.refl w).alloc _
  have hX : w.heap.size < W0.heap.size := H0.out.lt
  unfold sv
  go_enter Try.func43, Try.ntmps43
  go_wp2_with (first
    | (rw [← hW0]; clear hW0; refine wpList_loadS rfl _ rfl w.heap.size s rfl HF.out H0.out ?_)
    | (go_at_call 48; refine (lengths_any s HF.out _).mono ?_; rintro _ w1 ⟨⟨v1, rfl, ho1⟩, hs1⟩; rw [HF.out.lens] at ho1; obtain ⟨g, c, rfl, hg, hcell⟩ := rowL_at ho1 HF.out.lens (by omega)
       have S1 := Lib.hid hs1
       have HC := Lib.hid hcell
       clear ho1 hs1 hcell hg))
  go_loopw [10] (fun i wr => ∃ k : Nat, k ≤ 18 ∧ i = .int .i64 k ∧ Seen w1 wr ∧ ∀ j, j < k → lnIn (lat s.lens j) = true) (fun i _ => 18 - (intOf i).toNat)
  case atStart => exact ⟨0, Nat.zero_le _, rfl, Seen.refl _, fun j hj => absurd hj (by omega)⟩
  case round =>
    obtain ⟨k, hk, rfl, hs, hall⟩ := hrel
    have HS := Lib.hid hs
    have HA := Lib.hid hall
    clear hs hall
    by_cases hlt : k < 18
    · have hk' : (k : Int) < 18 := by omega
      obtain ⟨c0, c1⟩ := HC.out k hlt wr HS.out
      rcases Bool.eq_false_or_eq_true (lnIn (lat s.lens k)) with hb | hb
      · go_wp2_with (go_at_call 51; refine (withinLen_any (lat s.lens k) _).mono ?_; rintro _ w2 ⟨rfl, hs2⟩; have S2 := Lib.hid hs2; clear hs2)
        refine ⟨⟨k + 1, hlt, by go_num, (HS.out.alloc _).trans S2.out, fun j hj => ?_⟩, by simp [intOf]; omega⟩
        rcases Nat.lt_or_ge j k with h | h
        · exact HA.out j h
        · obtain rfl : j = k := by omega
          exact hb
      · go_wp2_with (go_at_call 51; refine (withinLen_any (lat s.lens k) _).mono ?_; rintro _ w2 ⟨rfl, hs2⟩; have S2 := Lib.hid hs2; clear hs2)
        go_ret
        exact ⟨ret_bool (within_not fun h => by rw [h.1 k hlt] at hb; cases hb), ((S0.out.trans S1.out).trans (HS.out.alloc _)).trans S2.out⟩
    · have hk' : ¬ (k : Int) < 18 := by omega
      obtain rfl : k = 18 := by omega
      have SX : Hid (Seen W0 wr) := S1.out.trans HS.out
      clear HC
      go_wp2_with (refine wpList_loadB rfl _ rfl w.heap.size s rfl HF.out (H0.out.seen SX.out) ?_)
      go_loopw [20] (fun i wz => ∃ k : Nat, k ≤ 4 ∧ i = .int .i64 k ∧ wr = wz ∧ ∀ j, j < k → bat s.bord j ≤ 1099511627776) (fun i _ => 4 - (intOf i).toNat)
      case atStart => exact ⟨0, Nat.zero_le _, rfl, rfl, fun j hj => absurd hj (by omega)⟩
      case round =>
        obtain ⟨k, hk, rfl, rfl, hall⟩ := hrel
        have HB := Lib.hid hall
        clear hall
        by_cases hlt : k < 4
        · have hk' : (k : Int) < 4 := by omega
          have hix := flatI_index HF.out.bord hlt
          by_cases hb : bat s.bord k > 1099511627776
          · go_wp2_with fail
            go_ret
            exact ⟨ret_bool (within_not fun h => by have := h.2.1 k hlt; omega), S0.out.trans SX.out⟩
          · go_wp2_with fail
            refine ⟨⟨k + 1, hlt, by go_num, trivial, fun j hj => ?_⟩, by simp [intOf]; omega⟩
            rcases Nat.lt_or_ge j k with h | h
            · exact HB.out j h
            · obtain rfl : j = k := by omega
              omega
        · have hk' : ¬ (k : Int) < 4 := by omega
          obtain rfl : k = 4 := by omega
          have HT : Hid (withinB s = true ↔ (-1073741824 ≤ s.z ∧ s.z ≤ 1073741824 ∧ s.back ≤ 16777216 ∧ s.line ≤ 16777216)) := within_tail HA.out HB.out
          obtain ⟨_, _, c44, _, c46, c47⟩ := (H0.out.seen SX.out).tail HF.out
          by_cases hz : -1073741824 ≤ s.z ∧ s.z ≤ 1073741824
          · have hd : decide (-1073741824 ≤ s.z ∧ s.z ≤ 1073741824) = true := decide_eq_true hz
            have HZ := Lib.hid hz
            clear hz
            go_wp2_with (go_at_call 52; refine (upTo_any _ _ _ (by omega) (by omega)).mono ?_; rintro _ w2 ⟨rfl, rfl⟩; rw [hd]; clear hd)
            all_goals
              go_ret
              exact ⟨ret_bool (bool_iff (by rw [HT.out]; have := HZ.out; simp <;> omega)), S0.out.trans SX.out⟩
          · have hd : decide (-1073741824 ≤ s.z ∧ s.z ≤ 1073741824) = false := decide_eq_false hz
            have HZ := Lib.hid hz
            clear hz
            go_wp2_with (go_at_call 52; refine (upTo_any _ _ _ (by omega) (by omega)).mono ?_; rintro _ w2 ⟨rfl, rfl⟩; rw [hd]; clear hd)
            all_goals
              go_ret
              exact ⟨ret_bool (bool_iff (by rw [HT.out]; have := HZ.out; simp <;> omega)), S0.out.trans SX.out⟩
end Go.Proofs.Ytlnnaegmcopiiaa
