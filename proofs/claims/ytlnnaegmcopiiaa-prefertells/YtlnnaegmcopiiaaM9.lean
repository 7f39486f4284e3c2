/- Texts of the proof, merged: Within, StyMem. -/
import Derived.Test.YtlnnaegmcopiiaaM8
/- Contracts of upTo, withinLen, Within and of the reference's Within; no conditions beyond those written in each theorem. -/
namespace Go.Proofs.Ytlnnaegmcopiiaa
open Go.ChangeShapes Go.WideShapes Go.ChangeAt Go.RowKit
set_option maxRecDepth 100000
theorem upTo_any (n l : Int) (w : World) (h0 : 0 ≤ l) (h1 : l ≤ 1099511627776) : Calls Try.prog 52 #[.int .i64 n, .int .i64 l] w fun e w' => e = .returned (.bool (decide (-l ≤ n ∧ n ≤ l))) ∧ w' = w := by
  have hw : IntKind.i64.wrap (-l) = -l := by rw [IntKind.wrap_i64]; omega
  go_enter Try.func52, Try.ntmps52
  go_wp2
  all_goals
    go_ret
    exact ⟨ret_bool (bool_iff (by simp <;> omega)), rfl⟩
theorem withinLen_any (x : Ln) (w : World) : Calls Try.prog 51 #[.agg #[.int .i64 x.k, .int .i64 x.n]] w fun e w' => e = .returned (.bool (lnIn x)) ∧ Seen w w' := by
  have s0 : Hid (Seen w (w.alloc (.cells #[.int .i64 x.k, .int .i64 x.n] 35))) := (Seen.refl w).alloc _
  by_cases h1 : x.k = 1
  · have H : Hid (lnIn x = decide (-1099511627776 ≤ x.n ∧ x.n ≤ 1099511627776)) := if_pos h1
    have hd : (x.k == 1) = true := by simp [h1]
    clear h1
    go_enter Try.func51, Try.ntmps51
    go_wp2_with (go_at_call 52; refine (upTo_any _ _ _ (by omega) (by omega)).mono ?_; rintro _ w1 ⟨rfl, rfl⟩)
    go_ret
    exact ⟨ret_bool (by rw [H.out, Bool.decide_and]), s0.out⟩
  · by_cases h2 : x.k = 2
    · have H : Hid (lnIn x = decide (-1000000 ≤ x.n ∧ x.n ≤ 1000000)) := (if_neg h1).trans (if_pos h2)
      have hd : (x.k == 1) = false := by simp [h1]
      have hd2 : (x.k == 2) = true := by simp [h2]
      clear h1 h2
      go_enter Try.func51, Try.ntmps51
      go_wp2_with (go_at_call 52; refine (upTo_any _ _ _ (by omega) (by omega)).mono ?_; rintro _ w1 ⟨rfl, rfl⟩)
      go_ret
      exact ⟨ret_bool (by rw [H.out, Bool.decide_and]), s0.out⟩
    · have H : Hid (lnIn x = true) := (if_neg h1).trans (if_neg h2)
      have hd : (x.k == 1) = false := by simp [h1]
      have hd2 : (x.k == 2) = false := by simp [h2]
      clear h1 h2
      go_enter Try.func51, Try.ntmps51
      go_wp2_with fail
      go_ret
      exact ⟨ret_bool H.out.symm, s0.out⟩
theorem within_tail {s : Sty} (h1 : ∀ i, i < 18 → lnIn (lat s.lens i) = true) (h2 : ∀ i, i < 4 → bat s.bord i ≤ 1099511627776) :
    withinB s = true ↔ (-1073741824 ≤ s.z ∧ s.z ≤ 1073741824 ∧ s.back ≤ 16777216 ∧ s.line ≤ 16777216) := by
  unfold withinB
  rw [decide_eq_true_iff]
  exact ⟨fun h => h.2.2, fun h => ⟨h1, h2, h⟩⟩
theorem within_not {s : Sty} (h : ¬ WithinP s) : false = withinB s := (decide_eq_false h).symm
theorem flatI_index {l : List Int} (hl : l.length = 4) {k : Nat} (hk : k < 4) (w : World) :
    (Instr.index 37 (.agg (flatI l).toArray) (.int .i64 (k : Int))).run Try.prog w = .ok (.int .i64 (bat l k)) w := by
  have h1 : (0 : Int) ≤ (k : Int) ∧ (k : Int) < ((4 : Nat) : Int) := by omega
  unfold Instr.index
  simp only [asIntOf, Sem.run_bind, Sem.run_pure, Result.andThen_ok, run_underlying Try.underlying37, h1, and_self, if_true, Int.toNat_natCast, Try.sizeOf2]
  unfold part
  simp only [Sem.run_bind, Try.isAgg2, Result.andThen_ok, Bool.false_eq_true, if_false, Nat.mul_one, List.getElem?_toArray, flatI_at (l := l) (i := k) (by omega), Sem.run_pure]
theorem info25 : (Try.prog.info? 37).map (·.size) = some 4 := by kernel_rfl
theorem stl_bords {s : Sty} (h : Full s) : ((stl s).drop 38).take 4 = flatI s.bord := by
  have hl := flatL_length s.lens
  rw [h.lens] at hl
  have hb := flatI_length s.bord
  rw [h.bord] at hb
  unfold stl
  rw [List.drop_append, List.drop_of_length_le (by simp), List.nil_append, List.drop_append, List.drop_of_length_le (by rw [hl]; simp), List.nil_append, hl]
  simp only [List.length_cons, List.length_nil, Nat.reduceAdd, Nat.reduceMul, Nat.reduceSub, List.drop_zero]
  rw [List.take_append_of_le_length (by rw [hb]; omega), List.take_of_length_le (by rw [hb]; omega)]
/-- The load of the four borders. -/
theorem wpList_loadB {ops : Array Oper} {rest : List Oper} {op : Oper} {a : Act} {w : World} {Q : Exit → Act → World → Prop} (hgd : op.guard = none) (x : Operand) (ho : op.op = .load 37 x) (X : Nat) (s : Sty)
    (hx : a.eval x = .pointer (some ⟨X, 38, none⟩)) (hf : Full s) (hs : Hs w X s) (h : wpList Try.prog ops Q rest (a.put op.dst (.agg (flatI s.bord).toArray)) w) : wpList Try.prog ops Q (op :: rest) a w := by
  have hr := hs.range 38 4
  rw [stl_bords hf] at hr
  exact wpList_load_mid hgd 37 x ho X 38 hx _ _ hr Try.underlying37 rfl (by rw [flatI_length, hf.bord]; exact info25) h
set_option maxRecDepth 100000 in
set_option maxHeartbeats 8000000 in
theorem styWithin_any (s : Sty) (hf : Full s) (w : World) : Calls Try.prog 43 #[sv s] w fun e w' => e = .returned (.bool (withinB s)) ∧ Seen w w' := by
  have HF := Lib.hid hf
  clear hf
  obtain ⟨W0, hW0⟩ : ∃ W0, W0 = w.alloc (.cells (stl s).toArray 39) := ⟨_, rfl⟩
  have H0 : Hid (Hs W0 w.heap.size s) := by rw [hW0]; exact hs_new w s
  have S0 : Hid (Seen w W0) := by rw [hW0]; exact (Seen.refl w).alloc _
  have hX : w.heap.size < W0.heap.size := H0.out.lt
  unfold sv
  go_enter Try.func43, Try.ntmps43
  go_wp2_with (first
    | (rw [← hW0]; clear hW0; refine wpList_loadS rfl _ rfl w.heap.size s rfl HF.out H0.out ?_)
    | (go_at_call 48; refine (lengths_any s HF.out _).mono ?_; rintro _ w1 ⟨⟨v1, rfl, ho1⟩, hs1⟩; rw [HF.out.lens] at ho1; obtain ⟨g, c, rfl, hg, hcell⟩ := rowL_at ho1 HF.out.lens (by omega)
       have S1 := Lib.hid hs1
       have HC := Lib.hid hcell
       clear ho1 hs1 hcell hg))
  go_loopw [10] (fun i wr => ∃ k : Nat, k ≤ 18 ∧ i = .int .i64 k ∧ Seen w1 wr ∧ ∀ j, j < k → lnIn (lat s.lens j) = true) (fun i _ => 18 - (intOf i).toNat)
  case atStart => exact ⟨0, Nat.zero_le _, rfl, Seen.refl _, fun j hj => absurd hj (by omega)⟩
  case round =>
    obtain ⟨k, hk, rfl, hs, hall⟩ := hrel
    have HS := Lib.hid hs
    have HA := Lib.hid hall
    clear hs hall
    by_cases hlt : k < 18
    · have hk' : (k : Int) < 18 := by omega
      obtain ⟨c0, c1⟩ := HC.out k hlt wr HS.out
      rcases Bool.eq_false_or_eq_true (lnIn (lat s.lens k)) with hb | hb
      · go_wp2_with (go_at_call 51; refine (withinLen_any (lat s.lens k) _).mono ?_; rintro _ w2 ⟨rfl, hs2⟩; have S2 := Lib.hid hs2; clear hs2)
        refine ⟨⟨k + 1, hlt, by go_num, (HS.out.alloc _).trans S2.out, fun j hj => ?_⟩, by simp [intOf]; omega⟩
        rcases Nat.lt_or_ge j k with h | h
        · exact HA.out j h
        · obtain rfl : j = k := by omega
          exact hb
      · go_wp2_with (go_at_call 51; refine (withinLen_any (lat s.lens k) _).mono ?_; rintro _ w2 ⟨rfl, hs2⟩; have S2 := Lib.hid hs2; clear hs2)
        go_ret
        exact ⟨ret_bool (within_not fun h => by rw [h.1 k hlt] at hb; cases hb), ((S0.out.trans S1.out).trans (HS.out.alloc _)).trans S2.out⟩
    · have hk' : ¬ (k : Int) < 18 := by omega
      obtain rfl : k = 18 := by omega
      have SX : Hid (Seen W0 wr) := S1.out.trans HS.out
      clear HC
      go_wp2_with (refine wpList_loadB rfl _ rfl w.heap.size s rfl HF.out (H0.out.seen SX.out) ?_)
      go_loopw [20] (fun i wz => ∃ k : Nat, k ≤ 4 ∧ i = .int .i64 k ∧ wr = wz ∧ ∀ j, j < k → bat s.bord j ≤ 1099511627776) (fun i _ => 4 - (intOf i).toNat)
      case atStart => exact ⟨0, Nat.zero_le _, rfl, rfl, fun j hj => absurd hj (by omega)⟩
      case round =>
        obtain ⟨k, hk, rfl, rfl, hall⟩ := hrel
        have HB := Lib.hid hall
        clear hall
        by_cases hlt : k < 4
        · have hk' : (k : Int) < 4 := by omega
          have hix := flatI_index HF.out.bord hlt
          by_cases hb : bat s.bord k > 1099511627776
          · go_wp2_with fail
            go_ret
            exact ⟨ret_bool (within_not fun h => by have := h.2.1 k hlt; omega), S0.out.trans SX.out⟩
          · go_wp2_with fail
            refine ⟨⟨k + 1, hlt, by go_num, trivial, fun j hj => ?_⟩, by simp [intOf]; omega⟩
            rcases Nat.lt_or_ge j k with h | h
            · exact HB.out j h
            · obtain rfl : j = k := by omega
              omega
        · have hk' : ¬ (k : Int) < 4 := by omega
          obtain rfl : k = 4 := by omega
          have HT : Hid (withinB s = true ↔ (-1073741824 ≤ s.z ∧ s.z ≤ 1073741824 ∧ s.back ≤ 16777216 ∧ s.line ≤ 16777216)) := within_tail HA.out HB.out
          obtain ⟨_, _, c44, _, c46, c47⟩ := (H0.out.seen SX.out).tail HF.out
          by_cases hz : -1073741824 ≤ s.z ∧ s.z ≤ 1073741824
          · have hd : decide (-1073741824 ≤ s.z ∧ s.z ≤ 1073741824) = true := decide_eq_true hz
            have HZ := Lib.hid hz
            clear hz
            go_wp2_with (go_at_call 52; refine (upTo_any _ _ _ (by omega) (by omega)).mono ?_; rintro _ w2 ⟨rfl, rfl⟩; rw [hd]; clear hd)
            all_goals
              go_ret
              exact ⟨ret_bool (bool_iff (by rw [HT.out]; have := HZ.out; simp <;> omega)), S0.out.trans SX.out⟩
          · have hd : decide (-1073741824 ≤ s.z ∧ s.z ≤ 1073741824) = false := decide_eq_false hz
            have HZ := Lib.hid hz
            clear hz
            go_wp2_with (go_at_call 52; refine (upTo_any _ _ _ (by omega) (by omega)).mono ?_; rintro _ w2 ⟨rfl, rfl⟩; rw [hd]; clear hd)
            all_goals
              go_ret
              exact ⟨ret_bool (bool_iff (by rw [HT.out]; have := HZ.out; simp <;> omega)), S0.out.trans SX.out⟩
end Go.Proofs.Ytlnnaegmcopiiaa

/- Stores into a style in memory, and a style as a result; no conditions beyond those written in each theorem. -/
namespace Go.Proofs.Ytlnnaegmcopiiaa
open Go.ChangeShapes Go.WideShapes Go.ChangeAt Go.RowKit
set_option maxRecDepth 100000
/-- Cells set one behind the other. -/
def setsL (l : List Value) (o : Nat) : List Value → List Value
  | [] => l
  | v :: r => setsL (l.set o v) (o + 1) r
theorem setsL_mid (p m q vs : List Value) (h : m.length = vs.length) : setsL (p ++ (m ++ q)) p.length vs = p ++ (vs ++ q) := by
  induction vs generalizing p m with
  | nil =>
    obtain rfl : m = [] := List.eq_nil_of_length_eq_zero h
    rfl
  | cons v r ih =>
    match m, h with
    | x :: m, h =>
      have e : (p ++ (x :: m ++ q)).set p.length v = (p ++ [v]) ++ (m ++ q) := by simp
      have := ih (p ++ [v]) m (by simpa using h)
      rw [List.length_append, List.length_singleton] at this
      rw [setsL, e, this]
      simp
section
variable {w : World} {X : Nat} {s s' : Sty}
theorem Hs.set {w : World} {X : Nat} {cs cs' : List Value} {t : TypeId} (h : w.heap[X]? = some (.cells cs.toArray t)) (j : Nat) (v : Value) (e : cs.set j v = cs') : (w.setCell ⟨X, j, none⟩ v).heap[X]? = some (.cells cs'.toArray t) := by
  rw [Go.Joins.block_setCell h, ← e]; simp
theorem block_sets {w : World} {X : Nat} {cs cs' : List Value} {t : TypeId} (h : w.heap[X]? = some (.cells cs.toArray t)) (o : Nat) (vs : List Value) (e : setsL cs o vs = cs') : (w.setCells X o vs).heap[X]? = some (.cells cs'.toArray t) := by
  induction vs generalizing w cs o with
  | nil => rw [← e]; exact h
  | cons v r ih => exact ih (Hs.set h o v rfl) (o + 1) e
theorem turns_sets (w : World) (X o : Nat) (vs : List Value) : Turns X w (w.setCells X o vs) := by
  induction vs generalizing w o with
  | nil => exact Moves.refl _ _
  | cons v r ih => exact (Turns.set w X o v).trans (ih _ _)
theorem there_block {w : World} {X : Nat} {cs : List Value} {t : TypeId} (h : w.heap[X]? = some (.cells cs.toArray t)) {o n : Nat} (hn : o + n ≤ cs.length) : w.there X o n := fun j hj => by
  refine ⟨?_, by simp [World.frozen?, h]⟩
  rw [Go.Joins.cell_of_block h]
  simp; omega
end
/-- A store of several cells into a block that is known whole. -/
theorem wpList_storeC {ops : Array Oper} {rest : List Oper} {op : Oper} {a : Act} {w : World} {Q : Exit → Act → World → Prop} (hgd : op.guard = none) (ty : TypeId) (x y : Operand) (ho : op.op = .store ty x y) (X o : Nat) (vs : List Value)
    (hx : a.eval x = .pointer (some ⟨X, o, none⟩)) (hy : a.eval y = .agg vs.toArray) (hi : (Try.prog.info? ty).map (·.size) = some vs.length) (h1 : ∀ u ∈ vs, u.oneCell' = true)
    {cs cs' : List Value} {t : TypeId} (hb : w.heap[X]? = some (.cells cs.toArray t)) (hn : o + vs.length ≤ cs.length) (e : setsL cs o vs = cs')
    (h : ∀ w', w'.heap[X]? = some (.cells cs'.toArray t) → Turns X w w' → wpList Try.prog ops Q rest (a.put op.dst undef) w') : wpList Try.prog ops Q (op :: rest) a w := by
  refine wpList_store_mid hgd ty x y ho X o vs.toArray hx hy (by simpa using there_block hb hn) (by simpa using hi) (all_oneCell_toArray h1) ?_
  exact h _ (by simpa using block_sets hb o vs e) (by simpa using turns_sets w X o vs)
/-- A whole style stored. -/
theorem wpList_storeS {ops : Array Oper} {rest : List Oper} {op : Oper} {a : Act} {w : World} {Q : Exit → Act → World → Prop} (hgd : op.guard = none) (x y : Operand) (ho : op.op = .store 39 x y) (X : Nat) (s' s : Sty)
    (hx : a.eval x = .pointer (some ⟨X, 0, none⟩)) (hy : a.eval y = sv s) (hf : Full s) (hf' : Full s') (hs : Hs w X s')
    (h : ∀ w', Hs w' X s → Turns X w w' → wpList Try.prog ops Q rest (a.put op.dst undef) w') : wpList Try.prog ops Q (op :: rest) a w := by
  refine wpList_storeC hgd 39 x y ho X 0 (stl s) hx hy (by rw [hf.len]; exact info27) (stl_one s) hs (by rw [hf.len, hf'.len]; omega) ?_ h
  have := setsL_mid [] (stl s') [] (stl s) (by rw [hf.len, hf'.len])
  simpa using this
theorem mkS_lens (f : Int) (D : List Ln) (B : List Int) (z b l : Int) (L : List Ln) (h : D.length + L.length ≤ 18) : setsL (stl (mkS f D B z b l)) (2 + D.length * 2) (flatL L) = stl (mkS f (D ++ L) B z b l) := by
  have hr : List.replicate (18 - D.length) (⟨0, 0⟩ : Ln) = List.replicate L.length ⟨0, 0⟩ ++ List.replicate (18 - (D ++ L).length) ⟨0, 0⟩ := by
    rw [List.replicate_append_replicate]; congr 1; simp; omega
  have e1 : stl (mkS f D B z b l) = ([.bool (f % 2 == 1), .int .i64 (f / 2 % 4)] ++ flatL D) ++ (flatL (List.replicate L.length ⟨0, 0⟩) ++ (flatL (List.replicate (18 - (D ++ L).length) ⟨0, 0⟩) ++ (flatI (mkS f D B z b l).bord ++ tailS (mkS f D B z b l)))) := by
    show [.bool (f % 2 == 1), .int .i64 (f / 2 % 4)] ++ (flatL (D ++ List.replicate (18 - D.length) ⟨0, 0⟩) ++ _) = _
    rw [hr, flatL_append, flatL_append]
    simp [List.append_assoc]
  have e2 : stl (mkS f (D ++ L) B z b l) = ([.bool (f % 2 == 1), .int .i64 (f / 2 % 4)] ++ flatL D) ++ (flatL L ++ (flatL (List.replicate (18 - (D ++ L).length) ⟨0, 0⟩) ++ (flatI (mkS f D B z b l).bord ++ tailS (mkS f D B z b l)))) := by
    show [.bool (f % 2 == 1), .int .i64 (f / 2 % 4)] ++ (flatL (D ++ L ++ List.replicate (18 - (D ++ L).length) ⟨0, 0⟩) ++ _) = _
    rw [flatL_append, flatL_append]
    simp only [List.append_assoc]
    rfl
  rw [e1, e2]
  have := setsL_mid ([.bool (f % 2 == 1), .int .i64 (f / 2 % 4)] ++ flatL D) (flatL (List.replicate L.length ⟨0, 0⟩)) (flatL (List.replicate (18 - (D ++ L).length) ⟨0, 0⟩) ++ (flatI (mkS f D B z b l).bord ++ tailS (mkS f D B z b l))) (flatL L) (by simp [flatL_length])
  have hp : ([Value.bool (f % 2 == 1), .int .i64 (f / 2 % 4)] ++ flatL D).length = 2 + D.length * 2 := by simp [flatL_length]; omega
  rw [hp] at this
  exact this
theorem mkS_bord (f : Int) (D : List Ln) (B : List Int) (z b l v : Int) (hD : D.length ≤ 18) (h : B.length < 4) : (stl (mkS f D B z b l)).set (38 + B.length) (.int .i64 v) = stl (mkS f D (B ++ [v]) z b l) := by
  have hr : List.replicate (4 - B.length) (0 : Int) = 0 :: List.replicate (4 - (B ++ [v]).length) 0 := by
    rw [← List.replicate_succ]; congr 1; simp; omega
  have hl : (flatL (mkS f D B z b l).lens).length = 36 := by rw [flatL_length]; simp [mkS]; omega
  have e1 : stl (mkS f D B z b l) = ([.bool (f % 2 == 1), .int .i64 (f / 2 % 4)] ++ flatL (mkS f D B z b l).lens ++ flatI B) ++ (.int .i64 0 :: (flatI (List.replicate (4 - (B ++ [v]).length) 0) ++ tailS (mkS f D B z b l))) := by
    show [.bool (f % 2 == 1), .int .i64 (f / 2 % 4)] ++ (flatL _ ++ (flatI (B ++ List.replicate (4 - B.length) 0) ++ _)) = _
    rw [hr, flatI_append]
    simp [List.append_assoc, flatI]
  have e2 : stl (mkS f D (B ++ [v]) z b l) = ([.bool (f % 2 == 1), .int .i64 (f / 2 % 4)] ++ flatL (mkS f D B z b l).lens ++ flatI B) ++ (.int .i64 v :: (flatI (List.replicate (4 - (B ++ [v]).length) 0) ++ tailS (mkS f D B z b l))) := by
    show [.bool (f % 2 == 1), .int .i64 (f / 2 % 4)] ++ (flatL _ ++ (flatI (B ++ [v] ++ List.replicate (4 - (B ++ [v]).length) 0) ++ _)) = _
    rw [flatI_append, flatI_append]
    simp only [List.append_assoc]
    rfl
  rw [e1, e2]
  have hp : 38 + B.length = ([Value.bool (f % 2 == 1), .int .i64 (f / 2 % 4)] ++ flatL (mkS f D B z b l).lens ++ flatI B).length := by
    simp only [List.length_append, hl, flatI_length, List.length_cons, List.length_nil]
  rw [hp, List.set_append_right _ _ (Nat.le_refl _)]
  simp
theorem stl_pre (s : Sty) (h : Full s) : ([Value.bool s.shown, .int .i64 s.pos] ++ (flatL s.lens ++ flatI s.bord)).length = 42 := by
  simp [flatL_length, flatI_length, h.lens, h.bord]
theorem stl_split (s : Sty) : stl s = ([Value.bool s.shown, .int .i64 s.pos] ++ (flatL s.lens ++ flatI s.bord)) ++ tailS s := by simp [stl]
theorem stl_set_tail {s : Sty} (h : Full s) (j : Nat) (v : Value) : (stl s).set (42 + j) v = ([Value.bool s.shown, .int .i64 s.pos] ++ (flatL s.lens ++ flatI s.bord)) ++ (tailS s).set j v := by
  rw [stl_split, List.set_append_right _ _ (by rw [stl_pre s h]; omega), stl_pre s h]
  congr 2
  omega
theorem mkS_z (f : Int) (D : List Ln) (B : List Int) (z b l v : Int) (hD : D.length ≤ 18) (hB : B.length ≤ 4) : (stl (mkS f D B z b l)).set 44 (.int .i64 v) = stl (mkS f D B v b l) := by
  rw [stl_set_tail (mkS_full hD hB) 2, stl_split]; rfl
theorem mkS_back (f : Int) (D : List Ln) (B : List Int) (z b l v : Int) (hD : D.length ≤ 18) (hB : B.length ≤ 4) : (stl (mkS f D B z b l)).set 46 (.int .i64 v) = stl (mkS f D B z v l) := by
  rw [stl_set_tail (mkS_full hD hB) 4, stl_split]; rfl
theorem mkS_line (f : Int) (D : List Ln) (B : List Int) (z b l v : Int) (hD : D.length ≤ 18) (hB : B.length ≤ 4) : (stl (mkS f D B z b l)).set 47 (.int .i64 v) = stl (mkS f D B z b v) := by
  rw [stl_set_tail (mkS_full hD hB) 5, stl_split]; rfl
/-- A result that lies in a cell of the function. -/
theorem results_cell {fn : Func} {tmps : Array Value} {k : Nat} {t : TypeId} {w : World} {X : Addr} {v : Value} (hr : fn.results = #[.cell k t]) (hp : tmps.getD k undef = .pointer (some X)) (hl : (loadVar t X).run Try.prog w = .ok v w) :
    (results fn tmps).run Try.prog w = .ok v w := by
  have hp' : tmps[k]?.getD undef = .pointer (some X) := by simpa using hp
  simp [results, hr, asAddr, hp', hl]
theorem run_loadS {w : World} {X : Nat} {s : Sty} (h : Hs w X s) (hf : Full s) : (loadVar 39 ⟨X, 0, none⟩).run Try.prog w = .ok (sv s) w := by
  have hr := h.range 0 48
  rw [List.drop_zero, List.take_of_length_le (by rw [hf.len]; omega)] at hr
  exact run_loadVar_mid w X 0 39 (stl s) _ hr Try.underlying39 rfl (by rw [hf.len]; exact info27)
end Go.Proofs.Ytlnnaegmcopiiaa
