/- Texts of the proof, merged: Within, StyMem, EqS, EqN, NdMem, KinMem, Base, Parts, DivMath. -/
import Derived.Test.YtngeaigkafamiaaGreatM3
import Derived.Test.YtngeaigkafamiaaGreatM1
import Derived.Test.YtngeaigkafamiaaGreatM2
import Derived.Laws.MakeOwn
import Derived.Test.YtngeaigkafamiaaGreatM0
import Derived.WalkKit
import Derived.ProofKit
import Derived.OpenShut
import Derived.Lib.Hide
import Derived.Laws.Bits64b
import Derived.Lib.Mul64
namespace Go.Proofs.YtngeaigkafamiaaGreat
open Go.ChangeShapes Go.WideShapes Go.ChangeAt Go.RowKit
set_option maxRecDepth 100000
theorem upTo_any (n l : Int) (w : World) (h0 : 0 ≤ l) (h1 : l ≤ 1099511627776) : Calls Tryz.prog 87 #[.int .i64 n, .int .i64 l] w fun e w' => e = .returned (.bool (decide (-l ≤ n ∧ n ≤ l))) ∧ w' = w := by
  have hw : IntKind.i64.wrap (-l) = -l := by rw [IntKind.wrap_i64]; omega
  go_enter Tryz.func87, Tryz.ntmps87
  go_wp2
  all_goals
    go_ret
    exact ⟨ret_bool (bool_iff (by simp <;> omega)), rfl⟩
theorem withinLen_any (x : Ln) (w : World) : Calls Tryz.prog 86 #[.agg #[.int .i64 x.k, .int .i64 x.n]] w fun e w' => e = .returned (.bool (lnIn x)) ∧ Seen w w' := by
  have s0 : Hid (Seen w (w.alloc (.cells #[.int .i64 x.k, .int .i64 x.n] 63))) := (Seen.refl w).alloc _
  by_cases h1 : x.k = 1
  · have H : Hid (lnIn x = decide (-1099511627776 ≤ x.n ∧ x.n ≤ 1099511627776)) := if_pos h1
    have hd : (x.k == 1) = true := by simp [h1]
    clear h1
    go_enter Tryz.func86, Tryz.ntmps86
    go_wp2_with (go_at_call 87; refine (upTo_any _ _ _ (by omega) (by omega)).mono ?_; rintro _ w1 ⟨rfl, rfl⟩)
    go_ret
    exact ⟨ret_bool (by rw [H.out, Bool.decide_and]), s0.out⟩
  · by_cases h2 : x.k = 2
    · have H : Hid (lnIn x = decide (-1000000 ≤ x.n ∧ x.n ≤ 1000000)) := (if_neg h1).trans (if_pos h2)
      have hd : (x.k == 1) = false := by simp [h1]
      have hd2 : (x.k == 2) = true := by simp [h2]
      clear h1 h2
      go_enter Tryz.func86, Tryz.ntmps86
      go_wp2_with (go_at_call 87; refine (upTo_any _ _ _ (by omega) (by omega)).mono ?_; rintro _ w1 ⟨rfl, rfl⟩)
      go_ret
      exact ⟨ret_bool (by rw [H.out, Bool.decide_and]), s0.out⟩
    · have H : Hid (lnIn x = true) := (if_neg h1).trans (if_neg h2)
      have hd : (x.k == 1) = false := by simp [h1]
      have hd2 : (x.k == 2) = false := by simp [h2]
      clear h1 h2
      go_enter Tryz.func86, Tryz.ntmps86
      go_wp2_with fail
      go_ret
      exact ⟨ret_bool H.out.symm, s0.out⟩
theorem within_tail {s : Sty} (h1 : ∀ i, i < 18 → lnIn (lat s.lens i) = true) (h2 : ∀ i, i < 4 → bat s.bord i ≤ 1099511627776) :
    withinB s = true ↔ (-1073741824 ≤ s.z ∧ s.z ≤ 1073741824 ∧ s.back ≤ 16777216 ∧ s.line ≤ 16777216) := by
  unfold withinB
  rw [decide_eq_true_iff]
  exact ⟨fun h => h.2.2, fun h => ⟨h1, h2, h⟩⟩
theorem within_not {s : Sty} (h : ¬ WithinP s) : false = withinB s := (decide_eq_false h).symm
theorem flatI_index {l : List Int} (hl : l.length = 4) {k : Nat} (hk : k < 4) (w : World) :
    (Instr.index 31 (.agg (flatI l).toArray) (.int .i64 (k : Int))).run Tryz.prog w = .ok (.int .i64 (bat l k)) w := by
  have h1 : (0 : Int) ≤ (k : Int) ∧ (k : Int) < ((4 : Nat) : Int) := by omega
  unfold Instr.index
  simp only [asIntOf, Sem.run_bind, Sem.run_pure, Result.andThen_ok, run_underlying Tryz.underlying31, h1, and_self, if_true, Int.toNat_natCast, Tryz.sizeOf2]
  unfold part
  simp only [Sem.run_bind, Tryz.isAgg2, Result.andThen_ok, Bool.false_eq_true, if_false, Nat.mul_one, List.getElem?_toArray, flatI_at (l := l) (i := k) (by omega), Sem.run_pure]
theorem info25 : (Tryz.prog.info? 31).map (·.size) = some 4 := by kernel_rfl
theorem stl_bords {s : Sty} (h : Full s) : ((stl s).drop 38).take 4 = flatI s.bord := by
  have hl := flatL_length s.lens
  rw [h.lens] at hl
  have hb := flatI_length s.bord
  rw [h.bord] at hb
  unfold stl
  rw [List.drop_append, List.drop_of_length_le (by simp), List.nil_append, List.drop_append, List.drop_of_length_le (by rw [hl]; simp), List.nil_append, hl]
  simp only [List.length_cons, List.length_nil, Nat.reduceAdd, Nat.reduceMul, Nat.reduceSub, List.drop_zero]
  rw [List.take_append_of_le_length (by rw [hb]; omega), List.take_of_length_le (by rw [hb]; omega)]
theorem wpList_loadB {ops : Array Oper} {rest : List Oper} {op : Oper} {a : Act} {w : World} {Q : Exit → Act → World → Prop} (hgd : op.guard = none) (x : Operand) (ho : op.op = .load 31 x) (X : Nat) (s : Sty)
    (hx : a.eval x = .pointer (some ⟨X, 38, none⟩)) (hf : Full s) (hs : Hs w X s) (h : wpList Tryz.prog ops Q rest (a.put op.dst (.agg (flatI s.bord).toArray)) w) : wpList Tryz.prog ops Q (op :: rest) a w := by
  have hr := hs.range 38 4
  rw [stl_bords hf] at hr
  exact wpList_load_mid hgd 31 x ho X 38 hx _ _ hr Tryz.underlying31 rfl (by rw [flatI_length, hf.bord]; exact info25) h
set_option maxRecDepth 100000 in
set_option maxHeartbeats 8000000 in
theorem styWithin_any (s : Sty) (hf : Full s) (w : World) : Calls Tryz.prog 63 #[sv s] w fun e w' => e = .returned (.bool (withinB s)) ∧ Seen w w' := by
  have HF := Lib.hid hf
  clear hf
  obtain ⟨W0, hW0⟩ : ∃ W0, W0 = w.alloc (.cells (stl s).toArray 66) := ⟨_, rfl⟩
  have H0 : Hid (Hs W0 w.heap.size s) := by rw [hW0]; exact hs_new w s
  have S0 : Hid (Seen w W0) := by rw [hW0]; exact (Seen.refl w).alloc _
  have hX : w.heap.size < W0.heap.size := H0.out.lt
  unfold sv
  go_enter Tryz.func63, Tryz.ntmps63
  go_wp2_with (first
    | (rw [← hW0]; clear hW0; refine wpList_loadS rfl _ rfl w.heap.size s rfl HF.out H0.out ?_)
    | (go_at_call 83; refine (lengths_any s HF.out _).mono ?_; rintro _ w1 ⟨⟨v1, rfl, ho1⟩, hs1⟩; rw [HF.out.lens] at ho1; obtain ⟨g, c, rfl, hg, hcell⟩ := rowL_at ho1 HF.out.lens (by omega)
       have S1 := Lib.hid hs1
       have HC := Lib.hid hcell
       clear ho1 hs1 hcell hg))
  go_loopw [10] (fun i wr => ∃ k : Nat, k ≤ 18 ∧ i = .int .i64 k ∧ Seen w1 wr ∧ ∀ j, j < k → lnIn (lat s.lens j) = true) (fun i _ => 18 - (intOf i).toNat)
  case atStart => exact ⟨0, Nat.zero_le _, rfl, Seen.refl _, fun j hj => absurd hj (by omega)⟩
  case round =>
    obtain ⟨k, hk, rfl, hs, hall⟩ := hrel
    have HS := Lib.hid hs
    have HA := Lib.hid hall
    clear hs hall
    by_cases hlt : k < 18
    · have hk' : (k : Int) < 18 := by omega
      obtain ⟨c0, c1⟩ := HC.out k hlt wr HS.out
      rcases Bool.eq_false_or_eq_true (lnIn (lat s.lens k)) with hb | hb
      · go_wp2_with (go_at_call 86; refine (withinLen_any (lat s.lens k) _).mono ?_; rintro _ w2 ⟨rfl, hs2⟩; have S2 := Lib.hid hs2; clear hs2)
        refine ⟨⟨k + 1, hlt, by go_num, (HS.out.alloc _).trans S2.out, fun j hj => ?_⟩, by simp [intOf]; omega⟩
        rcases Nat.lt_or_ge j k with h | h
        · exact HA.out j h
        · obtain rfl : j = k := by omega
          exact hb
      · go_wp2_with (go_at_call 86; refine (withinLen_any (lat s.lens k) _).mono ?_; rintro _ w2 ⟨rfl, hs2⟩; have S2 := Lib.hid hs2; clear hs2)
        go_ret
        exact ⟨ret_bool (within_not fun h => by rw [h.1 k hlt] at hb; cases hb), ((S0.out.trans S1.out).trans (HS.out.alloc _)).trans S2.out⟩
    · have hk' : ¬ (k : Int) < 18 := by omega
      obtain rfl : k = 18 := by omega
      have SX : Hid (Seen W0 wr) := S1.out.trans HS.out
      clear HC
      go_wp2_with (refine wpList_loadB rfl _ rfl w.heap.size s rfl HF.out (H0.out.seen SX.out) ?_)
      go_loopw [20] (fun i wz => ∃ k : Nat, k ≤ 4 ∧ i = .int .i64 k ∧ wr = wz ∧ ∀ j, j < k → bat s.bord j ≤ 1099511627776) (fun i _ => 4 - (intOf i).toNat)
      case atStart => exact ⟨0, Nat.zero_le _, rfl, rfl, fun j hj => absurd hj (by omega)⟩
      case round =>
        obtain ⟨k, hk, rfl, rfl, hall⟩ := hrel
        have HB := Lib.hid hall
        clear hall
        by_cases hlt : k < 4
        · have hk' : (k : Int) < 4 := by omega
          have hix := flatI_index HF.out.bord hlt
          by_cases hb : bat s.bord k > 1099511627776
          · go_wp2_with fail
            go_ret
            exact ⟨ret_bool (within_not fun h => by have := h.2.1 k hlt; omega), S0.out.trans SX.out⟩
          · go_wp2_with fail
            refine ⟨⟨k + 1, hlt, by go_num, trivial, fun j hj => ?_⟩, by simp [intOf]; omega⟩
            rcases Nat.lt_or_ge j k with h | h
            · exact HB.out j h
            · obtain rfl : j = k := by omega
              omega
        · have hk' : ¬ (k : Int) < 4 := by omega
          obtain rfl : k = 4 := by omega
          have HT : Hid (withinB s = true ↔ (-1073741824 ≤ s.z ∧ s.z ≤ 1073741824 ∧ s.back ≤ 16777216 ∧ s.line ≤ 16777216)) := within_tail HA.out HB.out
          obtain ⟨_, _, c44, _, c46, c47⟩ := (H0.out.seen SX.out).tail HF.out
          by_cases hz : -1073741824 ≤ s.z ∧ s.z ≤ 1073741824
          · have hd : decide (-1073741824 ≤ s.z ∧ s.z ≤ 1073741824) = true := decide_eq_true hz
            have HZ := Lib.hid hz
            clear hz
            go_wp2_with (go_at_call 87; refine (upTo_any _ _ _ (by omega) (by omega)).mono ?_; rintro _ w2 ⟨rfl, rfl⟩; rw [hd]; clear hd)
            all_goals
              go_ret
              exact ⟨ret_bool (bool_iff (by rw [HT.out]; have := HZ.out; simp <;> omega)), S0.out.trans SX.out⟩
          · have hd : decide (-1073741824 ≤ s.z ∧ s.z ≤ 1073741824) = false := decide_eq_false hz
            have HZ := Lib.hid hz
            clear hz
            go_wp2_with (go_at_call 87; refine (upTo_any _ _ _ (by omega) (by omega)).mono ?_; rintro _ w2 ⟨rfl, rfl⟩; rw [hd]; clear hd)
            all_goals
              go_ret
              exact ⟨ret_bool (bool_iff (by rw [HT.out]; have := HZ.out; simp <;> omega)), S0.out.trans SX.out⟩
end Go.Proofs.YtngeaigkafamiaaGreat
namespace Go.Proofs.YtngeaigkafamiaaGreat
open Go.ChangeShapes Go.WideShapes Go.ChangeAt Go.RowKit
set_option maxRecDepth 100000
def setsL (l : List Value) (o : Nat) : List Value → List Value
  | [] => l
  | v :: r => setsL (l.set o v) (o + 1) r
theorem setsL_mid (p m q vs : List Value) (h : m.length = vs.length) : setsL (p ++ (m ++ q)) p.length vs = p ++ (vs ++ q) := by
  induction vs generalizing p m with
  | nil =>
    obtain rfl : m = [] := List.eq_nil_of_length_eq_zero h
    rfl
  | cons v r ih =>
    match m, h with
    | x :: m, h =>
      have e : (p ++ (x :: m ++ q)).set p.length v = (p ++ [v]) ++ (m ++ q) := by simp
      have := ih (p ++ [v]) m (by simpa using h)
      rw [List.length_append, List.length_singleton] at this
      rw [setsL, e, this]
      simp
section
variable {w : World} {X : Nat} {s s' : Sty}
theorem Hs.set {w : World} {X : Nat} {cs cs' : List Value} {t : TypeId} (h : w.heap[X]? = some (.cells cs.toArray t)) (j : Nat) (v : Value) (e : cs.set j v = cs') : (w.setCell ⟨X, j, none⟩ v).heap[X]? = some (.cells cs'.toArray t) := by
  rw [Go.Joins.block_setCell h, ← e]; simp
theorem block_sets {w : World} {X : Nat} {cs cs' : List Value} {t : TypeId} (h : w.heap[X]? = some (.cells cs.toArray t)) (o : Nat) (vs : List Value) (e : setsL cs o vs = cs') : (w.setCells X o vs).heap[X]? = some (.cells cs'.toArray t) := by
  induction vs generalizing w cs o with
  | nil => rw [← e]; exact h
  | cons v r ih => exact ih (Hs.set h o v rfl) (o + 1) e
theorem turns_sets (w : World) (X o : Nat) (vs : List Value) : Turns X w (w.setCells X o vs) := by
  induction vs generalizing w o with
  | nil => exact Moves.refl _ _
  | cons v r ih => exact (Turns.set w X o v).trans (ih _ _)
theorem there_block {w : World} {X : Nat} {cs : List Value} {t : TypeId} (h : w.heap[X]? = some (.cells cs.toArray t)) {o n : Nat} (hn : o + n ≤ cs.length) : w.there X o n := fun j hj => by
  refine ⟨?_, by simp [World.frozen?, h]⟩
  rw [Go.Joins.cell_of_block h]
  simp; omega
end
theorem wpList_storeC {ops : Array Oper} {rest : List Oper} {op : Oper} {a : Act} {w : World} {Q : Exit → Act → World → Prop} (hgd : op.guard = none) (ty : TypeId) (x y : Operand) (ho : op.op = .store ty x y) (X o : Nat) (vs : List Value)
    (hx : a.eval x = .pointer (some ⟨X, o, none⟩)) (hy : a.eval y = .agg vs.toArray) (hi : (Tryz.prog.info? ty).map (·.size) = some vs.length) (h1 : ∀ u ∈ vs, u.oneCell' = true)
    {cs cs' : List Value} {t : TypeId} (hb : w.heap[X]? = some (.cells cs.toArray t)) (hn : o + vs.length ≤ cs.length) (e : setsL cs o vs = cs')
    (h : ∀ w', w'.heap[X]? = some (.cells cs'.toArray t) → Turns X w w' → wpList Tryz.prog ops Q rest (a.put op.dst undef) w') : wpList Tryz.prog ops Q (op :: rest) a w := by
  refine wpList_store_mid hgd ty x y ho X o vs.toArray hx hy (by simpa using there_block hb hn) (by simpa using hi) (all_oneCell_toArray h1) ?_
  exact h _ (by simpa using block_sets hb o vs e) (by simpa using turns_sets w X o vs)
theorem wpList_storeS {ops : Array Oper} {rest : List Oper} {op : Oper} {a : Act} {w : World} {Q : Exit → Act → World → Prop} (hgd : op.guard = none) (x y : Operand) (ho : op.op = .store 66 x y) (X : Nat) (s' s : Sty)
    (hx : a.eval x = .pointer (some ⟨X, 0, none⟩)) (hy : a.eval y = sv s) (hf : Full s) (hf' : Full s') (hs : Hs w X s')
    (h : ∀ w', Hs w' X s → Turns X w w' → wpList Tryz.prog ops Q rest (a.put op.dst undef) w') : wpList Tryz.prog ops Q (op :: rest) a w := by
  refine wpList_storeC hgd 66 x y ho X 0 (stl s) hx hy (by rw [hf.len]; exact info27) (stl_one s) hs (by rw [hf.len, hf'.len]; omega) ?_ h
  have := setsL_mid [] (stl s') [] (stl s) (by rw [hf.len, hf'.len])
  simpa using this
theorem results_cell {fn : Func} {tmps : Array Value} {k : Nat} {t : TypeId} {w : World} {X : Addr} {v : Value} (hr : fn.results = #[.cell k t]) (hp : tmps.getD k undef = .pointer (some X)) (hl : (loadVar t X).run Tryz.prog w = .ok v w) :
    (results fn tmps).run Tryz.prog w = .ok v w := by
  have hp' : tmps[k]?.getD undef = .pointer (some X) := by simpa using hp
  simp [results, hr, asAddr, hp', hl]
theorem run_loadS {w : World} {X : Nat} {s : Sty} (h : Hs w X s) (hf : Full s) : (loadVar 66 ⟨X, 0, none⟩).run Tryz.prog w = .ok (sv s) w := by
  have hr := h.range 0 48
  rw [List.drop_zero, List.take_of_length_le (by rw [hf.len]; omega)] at hr
  exact run_loadVar_mid w X 0 66 (stl s) _ hr Tryz.underlying66 rfl (by rw [hf.len]; exact info27)
end Go.Proofs.YtngeaigkafamiaaGreat
namespace Go.Proofs.YtngeaigkafamiaaGreat
open Go.ChangeShapes Go.WideShapes Go.ChangeAt Go.RowKit
set_option maxRecDepth 100000
theorem eq25 (d : Nat) (a0 a1 a2 a3 : Int) (w : World) : (Op.equalIn (d + 3) 31 (.agg #[.int .i64 a0, .int .i64 a1, .int .i64 a2, .int .i64 a3]) (.agg #[.int .i64 a0, .int .i64 a1, .int .i64 a2, .int .i64 a3])).run Tryz.prog w = .ok true w := by
  rw [Op.equalIn.eq_def]
  simp only [Sem.run_bind, run_underlying Tryz.underlying31, Result.andThen_ok, Tryz.sizeOf2]
  simp [Std.Legacy.Range.forIn_eq_forIn_range', Std.Legacy.Range.size, List.range', part, Tryz.isAgg2, Tryz.sizeOf2, Sem.run_bind, run_equalIn_int, Tryz.underlying2]
end Go.Proofs.YtngeaigkafamiaaGreat
namespace Go.Proofs.YtngeaigkafamiaaGreat
open Go.ChangeShapes Go.WideShapes Go.ChangeAt Go.RowKit
set_option maxRecDepth 100000
def nv (x : Nd) : Value := .agg (ndl x).toArray
end Go.Proofs.YtngeaigkafamiaaGreat
namespace Go.Proofs.YtngeaigkafamiaaGreat
open Go.ChangeShapes Go.WideShapes Go.ChangeAt Go.RowKit
set_option maxRecDepth 100000
theorem info51 : (Tryz.prog.info? 69).map (·.size) = some 49 := by kernel_rfl
def At (w : World) (b o : Nat) (x : Nd) : Prop := w.rangeAt b o (ndl x)
theorem At.seen {w w' : World} {b o : Nat} {x : Nd} (h : At w b o x) (hs : Seen w w') : At w' b o x := fun j v hj => hs.cell (h j v hj)
theorem At.sty {w : World} {b o : Nat} {x : Nd} (h : At w b o x) : w.rangeAt b o (stl x.s) := fun j v hj => by
  refine h j v ?_
  unfold ndl
  rw [List.getElem?_append_left]
  · exact hj
  · rcases Nat.lt_or_ge j (stl x.s).length with h1 | h1
    · exact h1
    · rw [List.getElem?_eq_none h1] at hj; cases hj
theorem At.par {w : World} {b o : Nat} {x : Nd} (h : At w b o x) : w.cell? ⟨b, o + 48, none⟩ = some (.int .i64 x.p) := h 48 _ (ndl_par x)
theorem NS.ats {w : World} {ad : Option Addr} {n : Nat} {l : List Nd} (h : NS w ad n l) (h0 : 0 < n) :
    ∃ b off, ad = some ⟨b, off, none⟩ ∧ ∀ i, i < n → At w b (off + i * 49) (nd l i) := by
  obtain ⟨b, off, e, hc⟩ := h.2 h0
  refine ⟨b, off, e, fun i hi j v hj => ?_⟩
  have hj' : j < 49 := by
    rcases Nat.lt_or_ge j 49 with h1 | h1
    · exact h1
    · rw [List.getElem?_eq_none (by rw [ndl_length]; exact h1)] at hj; cases hj
  rw [hc i hi j hj']
  exact hj
def Hn (w : World) (X : Nat) (x : Nd) : Prop := w.heap[X]? = some (.cells (ndl x).toArray 69)
theorem Hn.at {w : World} {X : Nat} {x : Nd} (h : Hn w X x) : At w X 0 x := fun j v hj => by
  rw [Go.Joins.cell_of_block h]; simpa using hj
theorem Hn.lt {w : World} {X : Nat} {x : Nd} (h : Hn w X x) : X < w.heap.size := by
  rcases Nat.lt_or_ge X w.heap.size with h1 | h1
  · exact h1
  · unfold Hn at h; rw [Array.getElem?_eq_none h1] at h; cases h
theorem Hn.seen {w w' : World} {X : Nat} {x : Nd} (h : Hn w X x) (hs : Seen w w') : Hn w' X x := (hs.block X h.lt).trans h
theorem hn_new (w : World) (x : Nd) : Hn (w.alloc (.cells (ndl x).toArray 69)) w.heap.size x := World.alloc_heap_new w _
theorem wpList_loadN {ops : Array Oper} {rest : List Oper} {op : Oper} {a : Act} {w : World} {Q : Exit → Act → World → Prop} (hgd : op.guard = none) (x : Operand) (ho : op.op = .load 69 x) (b o : Nat) (q : Nd)
    (hx : a.eval x = .pointer (some ⟨b, o, none⟩)) (hs : At w b o q) (h : wpList Tryz.prog ops Q rest (a.put op.dst (nv q)) w) : wpList Tryz.prog ops Q (op :: rest) a w :=
  wpList_load_mid hgd 69 x ho b o hx (ndl q) _ hs Tryz.underlying69 rfl (by rw [ndl_length]; exact info51) h
theorem wpList_loadNS {ops : Array Oper} {rest : List Oper} {op : Oper} {a : Act} {w : World} {Q : Exit → Act → World → Prop} (hgd : op.guard = none) (x : Operand) (ho : op.op = .load 66 x) (b o : Nat) (q : Nd)
    (hx : a.eval x = .pointer (some ⟨b, o, none⟩)) (hs : At w b o q) (h : wpList Tryz.prog ops Q rest (a.put op.dst (sv q.s)) w) : wpList Tryz.prog ops Q (op :: rest) a w :=
  wpList_load_mid hgd 66 x ho b o hx (stl q.s) _ hs.sty Tryz.underlying66 rfl (by rw [q.full.len]; exact info27) h
theorem wpList_loadNSg {ops : Array Oper} {rest : List Oper} {op : Oper} {a : Act} {w : World} {Q : Exit → Act → World → Prop} (hw : Region.wanted op (yielded ops a.tmps) = true) (x : Operand) (ho : op.op = .load 66 x) (b o : Nat) (q : Nd)
    (hx : a.eval x = .pointer (some ⟨b, o, none⟩)) (hs : At w b o q) (h : wpList Tryz.prog ops Q rest (a.put op.dst (sv q.s)) w) : wpList Tryz.prog ops Q (op :: rest) a w := by
  refine wpList_step fun K hK => ?_
  rw [if_pos hw]
  exact wp_load_mid 66 x ho b o hx (stl q.s) _ hs.sty Tryz.underlying66 rfl (by rw [q.full.len]; exact info27) (hK _ _ h)
theorem wpList_storeN {ops : Array Oper} {rest : List Oper} {op : Oper} {a : Act} {w : World} {Q : Exit → Act → World → Prop} (hgd : op.guard = none) (x y : Operand) (ho : op.op = .store 69 x y) (X : Nat) (q' q : Nd)
    (hx : a.eval x = .pointer (some ⟨X, 0, none⟩)) (hy : a.eval y = nv q) (hs : Hn w X q')
    (h : ∀ w', Hn w' X q → Turns X w w' → wpList Tryz.prog ops Q rest (a.put op.dst undef) w') : wpList Tryz.prog ops Q (op :: rest) a w := by
  refine wpList_storeC hgd 69 x y ho X 0 (ndl q) hx hy (by rw [ndl_length]; exact info51) (ndl_one q) hs (by rw [ndl_length, ndl_length]; omega) ?_ h
  have := setsL_mid [] (ndl q') [] (ndl q) (by rw [ndl_length, ndl_length])
  simpa using this
theorem zeroN_lit : (#[.bool false, .int .i64 0, .int .i64 0, .int .i64 0, .int .i64 0, .int .i64 0, .int .i64 0, .int .i64 0, .int .i64 0, .int .i64 0, .int .i64 0, .int .i64 0, .int .i64 0, .int .i64 0, .int .i64 0, .int .i64 0, .int .i64 0, .int .i64 0, .int .i64 0, .int .i64 0, .int .i64 0, .int .i64 0, .int .i64 0, .int .i64 0, .int .i64 0, .int .i64 0, .int .i64 0, .int .i64 0, .int .i64 0, .int .i64 0, .int .i64 0, .int .i64 0, .int .i64 0, .int .i64 0, .int .i64 0, .int .i64 0, .int .i64 0, .int .i64 0, .int .i64 0, .int .i64 0, .int .i64 0, .int .i64 0, .bool false, .bool false, .int .i64 0, .bool false, .int .i64 0, .int .i64 0, .int .i64 0] : Array Value) = (ndl zeroN).toArray := by kernel_rfl
theorem Seen.fresh {w w1 w2 : World} {o : Obj} (h : Seen w w1) (k : Turns w1.heap.size (w1.alloc o) w2) : Seen w w2 := (h.alloc o).turns k h.size
end Go.Proofs.YtngeaigkafamiaaGreat
namespace Go.Proofs.YtngeaigkafamiaaGreat
open Go.ChangeShapes Go.WideShapes Go.ChangeAt Go.RowKit
set_option maxRecDepth 100000
theorem fl_split {α : Type} {enc : α → List Value} (l : List α) {i : Nat} (hi : i < l.length) : l.flatMap enc = (l.take i).flatMap enc ++ (enc l[i] ++ (l.drop (i + 1)).flatMap enc) := by
  rw [← List.flatMap_cons, ← List.drop_eq_getElem_cons hi, ← List.flatMap_append, List.take_append_drop]
section
variable {α : Type} {enc : α → List Value} {size : Nat} (hf : ∀ q, (enc q).length = size)
include hf
theorem fl_len (l : List α) : (l.flatMap enc).length = l.length * size := by
  induction l with
  | nil => simp
  | cons a l ih => rw [List.flatMap_cons, List.length_append, hf, ih, List.length_cons, Nat.add_mul]; omega
theorem fl_at (l : List α) (z : α) {i : Nat} (hi : i < l.length) {j : Nat} (hj : j < size) : (l.flatMap enc)[i * size + j]? = (enc (l.getD i z))[j]? := by
  induction l generalizing i with
  | nil => simp at hi
  | cons a l ih =>
    rw [List.flatMap_cons]
    cases i with
    | zero => rw [List.getElem?_append_left (by rw [hf]; omega), Nat.zero_mul, Nat.zero_add]; rfl
    | succ i =>
      have e2 : (a :: l).getD (i + 1) z = l.getD i z := rfl
      rw [e2, List.getElem?_append_right (by rw [hf, Nat.add_mul]; omega), hf, show (i + 1) * size + j - size = i * size + j by rw [Nat.add_mul]; omega]
      exact ih (by simpa using hi)
theorem fl_sets (l : List α) {i : Nat} (hi : i < l.length) (x : α) : setsL (l.flatMap enc) (i * size) (enc x) = (l.set i x).flatMap enc := by
  have e : ((l.take i).flatMap enc).length = i * size := by rw [fl_len hf, List.length_take, Nat.min_eq_left (by omega)]
  rw [fl_split l hi, ← e, setsL_mid _ _ _ _ (by rw [hf, hf]), fl_split (l.set i x) (by rw [List.length_set]; exact hi)]
  rw [List.getElem_set_self, List.take_set_of_le (Nat.le_refl i), List.drop_set_of_lt (by omega)]
theorem made_flat (hpos : 0 < size) (z : α) (n : Nat) : madeCells (enc z).toArray (n * size) = ((List.replicate n z).flatMap enc).toArray := by
  have hs : (enc z).toArray.size = size := by simp [hf]
  apply Array.ext
  · rw [size_madeCells]; simp [fl_len hf]
  · intro i h1 h2
    rw [size_madeCells] at h1
    have hq : i / size < n := Nat.div_lt_of_lt_mul (by rw [Nat.mul_comm]; exact h1)
    have hm : i % size < size := Nat.mod_lt _ hpos
    have e : i = i / size * size + i % size := by rw [Nat.mul_comm]; exact (Nat.div_add_mod i size).symm
    have h3 := fl_at hf (List.replicate n z) z (i := i / size) (by simpa using hq) hm
    rw [← e] at h3
    have e2 : (List.replicate n z).getD (i / size) z = z := by rw [List.getD_eq_getElem?_getD, List.getElem?_replicate, if_pos hq]; rfl
    rw [e2] at h3
    have h4 : (enc z)[i % size]? = some ((enc z)[i % size]'(by rw [hf]; exact hm)) := List.getElem?_eq_getElem _
    rw [h4] at h3
    have h5 : ((List.replicate n z).flatMap enc).toArray[i] = (enc z)[i % size]'(by rw [hf]; exact hm) := by
      rw [List.getElem_toArray]
      rw [List.getElem?_eq_getElem (by simpa using h2)] at h3
      exact Option.some.inj h3
    rw [h5]
    simp [madeCells, hs]
    rw [h4]; rfl
end
structure Pl where
  par : Int
  stop : Int
  deep : Int
  made : Bool
  out : Bool
def pll (p : Pl) : List Value := [.int .i64 p.par, .int .i64 p.stop, .int .i64 p.deep, .bool p.made, .bool p.out]
def plv (p : Pl) : Value := .agg (pll p).toArray
theorem pll_length (p : Pl) : (pll p).length = 5 := rfl
def zeroP : Pl := ⟨0, 0, 0, false, false⟩
def noP : Pl := ⟨-1, 0, 0, false, false⟩
def plE (l : List Nd) (E : Nat → Nat) (n : Nat) : Pl := ⟨(nd l n).p, E n, deep l n, madeB l n, outB l n⟩
def plAt (l : List Nd) (n : Int) : Pl := if inB l n then plE l (endN l) n.toNat else noP
def styAt (l : List Nd) (n : Int) : Sty := if inB l n then (nd l n.toNat).s else zeroS
theorem styAt_full (l : List Nd) (n : Int) : Full (styAt l n) := by
  unfold styAt; split
  · exact (nd l _).full
  · exact zero_full
def stn (x : Nd) : List Value := stl x.s
theorem stn_length (x : Nd) : (stn x).length = 48 := x.full.len
def places (l : List Nd) (E : Nat → Nat) : List Pl := (List.range l.length).map (plE l E)
theorem places_length (l : List Nd) (E : Nat → Nat) : (places l E).length = l.length := by simp [places]
theorem places_at {l : List Nd} {E : Nat → Nat} {n : Nat} (h : n < l.length) : (places l E).getD n zeroP = plE l E n := by
  unfold places
  rw [List.getD_eq_getElem?_getD, List.getElem?_map, List.getElem?_range h]; rfl
structure KK (w : World) (B G H : Nat) (l : List Nd) (E : Nat → Nat) : Prop where
  obj : w.heap[B]? = some (.cells #[.slice (some ⟨G, 0, none⟩) l.length l.length, .slice (some ⟨H, 0, none⟩) l.length l.length] 77)
  sty : w.heap[G]? = some (.cells (l.flatMap stn).toArray 66)
  pls : w.heap[H]? = some (.cells ((places l E).flatMap pll).toArray 79)
theorem lt_of_block {w : World} {X : Nat} {o : Obj} (h : w.heap[X]? = some o) : X < w.heap.size := by
  rcases Nat.lt_or_ge X w.heap.size with h1 | h1
  · exact h1
  · rw [Array.getElem?_eq_none h1] at h; cases h
theorem KK.keeps {w w' : World} {B G H : Nat} {l : List Nd} {E : Nat → Nat} (h : KK w B G H l E) (hb : w'.heap[B]? = w.heap[B]?) (hg : w'.heap[G]? = w.heap[G]?) (hh : w'.heap[H]? = w.heap[H]?) : KK w' B G H l E :=
  ⟨hb.trans h.obj, hg.trans h.sty, hh.trans h.pls⟩
theorem KK.seen {w w' : World} {B G H : Nat} {l : List Nd} {E : Nat → Nat} (h : KK w B G H l E) (hs : Seen w w') : KK w' B G H l E :=
  h.keeps (hs.block _ (lt_of_block h.obj)) (hs.block _ (lt_of_block h.sty)) (hs.block _ (lt_of_block h.pls))
theorem KK.objs {w : World} {B G H : Nat} {l : List Nd} {E : Nat → Nat} (h : KK w B G H l E) : w.cell? ⟨B, 0, none⟩ = some (.slice (some ⟨G, 0, none⟩) l.length l.length) ∧ w.cell? ⟨B, 1, none⟩ = some (.slice (some ⟨H, 0, none⟩) l.length l.length) :=
  ⟨by rw [Go.Joins.cell_of_block h.obj]; rfl, by rw [Go.Joins.cell_of_block h.obj]; rfl⟩
theorem KK.place {w : World} {B G H : Nat} {l : List Nd} {E : Nat → Nat} (h : KK w B G H l E) {n : Nat} (hn : n < l.length) :
    w.cell? ⟨H, n * 5, none⟩ = some (.int .i64 (nd l n).p) ∧ w.cell? ⟨H, n * 5 + 1, none⟩ = some (.int .i64 (E n)) ∧ w.cell? ⟨H, n * 5 + 2, none⟩ = some (.int .i64 (deep l n)) ∧ w.cell? ⟨H, n * 5 + 3, none⟩ = some (.bool (madeB l n)) ∧ w.cell? ⟨H, n * 5 + 4, none⟩ = some (.bool (outB l n)) := by
  have key : ∀ j, j < 5 → w.cell? ⟨H, n * 5 + j, none⟩ = (pll (plE l E n))[j]? := fun j hj => by
    rw [Go.Joins.cell_of_block h.pls, List.getElem?_toArray, fl_at pll_length _ zeroP (by rw [places_length]; exact hn) hj, places_at hn]
  exact ⟨key 0 (by omega), key 1 (by omega), key 2 (by omega), key 3 (by omega), key 4 (by omega)⟩
theorem KK.style {w : World} {B G H : Nat} {l : List Nd} {E : Nat → Nat} (h : KK w B G H l E) {n : Nat} (hn : n < l.length) : w.rangeAt G (n * 48) (stl (nd l n).s) := fun j v hj => by
  have hj' : j < 48 := by
    rcases Nat.lt_or_ge j 48 with h1 | h1
    · exact h1
    · rw [List.getElem?_eq_none (by rw [(nd l n).full.len]; exact h1)] at hj; cases hj
  rw [Go.Joins.cell_of_block h.sty, List.getElem?_toArray, fl_at stn_length l zeroN hn hj']
  exact hj
def KV (w : World) (v : Value) (l : List Nd) : Prop := (v = .pointer none ∧ l = []) ∨ (FormedT l ∧ l.length ≤ 65535 ∧ ∃ B G H, v = .pointer (some ⟨B, 0, none⟩) ∧ KK w B G H l (endN l))
theorem KV.seen {w w' : World} {v : Value} {l : List Nd} (h : KV w v l) (hs : Seen w w') : KV w' v l := by
  rcases h with h | ⟨h1, h2, B, G, H, e, h3⟩
  · exact .inl h
  · exact .inr ⟨h1, h2, B, G, H, e, h3.seen hs⟩
theorem KV.len {w : World} {v : Value} {l : List Nd} (h : KV w v l) : l.length ≤ 65535 := by
  rcases h with ⟨_, rfl⟩ | h
  · simp
  · exact h.2.1
theorem len_any (v : Value) (l : List Nd) (w : World) (h : KV w v l) : Calls Tryz.prog 88 #[v] w fun e w' => e = .returned (.int .i64 l.length) ∧ w' = w := by
  rcases h with ⟨rfl, rfl⟩ | ⟨_, _, B, G, H, rfl, hk⟩
  · go_enter Tryz.func88, Tryz.ntmps88
    go_wp2_with fail
    go_ret
    exact ⟨rfl, rfl⟩
  · obtain ⟨c0, c1⟩ := hk.objs
    clear hk
    go_enter Tryz.func88, Tryz.ntmps88
    go_wp2_with fail
    go_ret
    exact ⟨rfl, rfl⟩
theorem has_any (v : Value) (l : List Nd) (n : Int) (w : World) (h : KV w v l) : Calls Tryz.prog 64 #[v, .int .i64 n] w fun e w' => e = .returned (.bool (inB l n)) ∧ w' = w := by
  have HL := Lib.hid (len_any v l w h)
  clear h
  unfold inB
  by_cases h0 : 0 ≤ n
  · go_enter Tryz.func64, Tryz.ntmps64
    go_wp2_with (go_at_call 88; refine HL.out.mono ?_; clear HL; rintro e w1 ⟨rfl, rfl⟩)
    go_ret
    exact ⟨by simp [h0], rfl⟩
  · go_enter Tryz.func64, Tryz.ntmps64
    go_wp2_with fail
    go_ret
    exact ⟨by simp; omega, rfl⟩
end Go.Proofs.YtngeaigkafamiaaGreat
namespace Go.Proofs.YtngeaigkafamiaaGreat
open Go.ChangeShapes Go.WideShapes Go.ChangeAt Go.RowKit
set_option maxRecDepth 100000
def fitsB (n : Int) : Bool := decide (-1125899906842624 ≤ n ∧ n ≤ 1125899906842624)
theorem fitsB_t {n : Int} (h1 : -1125899906842624 ≤ n) (h2 : n ≤ 1125899906842624) : fitsB n = true := by
  unfold fitsB; simp; omega
theorem fitsB_f {n : Int} (h : ¬ (-1125899906842624 ≤ n ∧ n ≤ 1125899906842624)) : fitsB n = false := by
  unfold fitsB; simpa using h
theorem fits_any (n : Int) (w : World) :
    Calls Tryz.prog 91 #[.int .i64 n] w fun e w' => e = .returned (.bool (fitsB n)) ∧ w = w' := by
  by_cases h1 : -1125899906842624 ≤ n
  · by_cases h2 : n ≤ 1125899906842624
    · have H := Lib.hid (fitsB_t h1 h2)
      go_enter Tryz.func91, Tryz.ntmps91
      go_wp2
      go_ret
      exact ⟨ret_bool H.out.symm, rfl⟩
    · have H := Lib.hid (fitsB_f (n := n) (by omega))
      go_enter Tryz.func91, Tryz.ntmps91
      go_wp2
      go_ret
      exact ⟨ret_bool H.out.symm, rfl⟩
  · have H := Lib.hid (fitsB_f (n := n) (by omega))
    go_enter Tryz.func91, Tryz.ntmps91
    go_wp2
    go_ret
    exact ⟨ret_bool H.out.symm, rfl⟩
theorem refFits_any (n : Int) (w : World) :
    Calls Tryz.prog 52 #[.int .i64 n] w fun e w' => e = .returned (.bool (fitsB n)) ∧ w = w' := by
  by_cases h1 : -1125899906842624 ≤ n
  · by_cases h2 : n ≤ 1125899906842624
    · have H := Lib.hid (fitsB_t h1 h2)
      go_enter Tryz.func52, Tryz.ntmps52
      go_wp2
      go_ret
      exact ⟨ret_bool H.out.symm, rfl⟩
    · have H := Lib.hid (fitsB_f (n := n) (by omega))
      go_enter Tryz.func52, Tryz.ntmps52
      go_wp2
      go_ret
      exact ⟨ret_bool H.out.symm, rfl⟩
  · have H := Lib.hid (fitsB_f (n := n) (by omega))
    go_enter Tryz.func52, Tryz.ntmps52
    go_wp2
    go_ret
    exact ⟨ret_bool H.out.symm, rfl⟩
def clampI (n l m : Int) : Int := max (min n m) l
def halfI (n : Int) : Int := n / 2
theorem half_any (n : Int) (w : World) :
    Calls Tryz.prog 115 #[.int .i64 n] w fun e w' => e = .returned (.int .i64 (halfI n)) ∧ w = w' := by
  have H := Lib.hid (show halfI n = n / 2 from rfl)
  go_enter Tryz.func115, Tryz.ntmps115
  go_wp2
  go_ret
  exact ⟨ret_int (by rw [H.out]), rfl⟩
theorem tdiv2 (n : Int) (h : n < 0) : n.tdiv 2 = -((-n) / 2) := by
  have h2 : n = -(-n) := by omega
  rw [h2, Int.neg_tdiv, Int.tdiv_eq_ediv_of_nonneg (by omega)]; omega
theorem tmod2 (n : Int) (h : n < 0) : n.tmod 2 = -((-n) % 2) := by
  have h2 : n = -(-n) := by omega
  rw [h2, Int.neg_tmod, Int.tmod_eq_emod_of_nonneg (by omega)]; omega
theorem refHalf_any (n : Int) (w : World) (h1 : -9223372036854775808 ≤ n) (h2 : n ≤ 9223372036854775807) :
    Calls Tryz.prog 81 #[.int .i64 n] w fun e w' => e = .returned (.int .i64 (halfI n)) ∧ w = w' := by
  have H := Lib.hid (show halfI n = n / 2 from rfl)
  go_enter Tryz.func81, Tryz.ntmps81
  go_wp2
  · rename_i h3 h4
    go_ret
    refine ⟨ret_int ?_, rfl⟩
    have h5 := (by simpa using h4 : ¬ n.tmod 2 = 0)
    rw [tmod2 n h3] at h5
    rw [H.out, tdiv2 n h3]
    unfold wrap64; omega
  · rename_i h3 h4
    go_ret
    refine ⟨ret_int ?_, rfl⟩
    have h5 := (by simpa using h4 : n.tmod 2 = 0)
    rw [tmod2 n h3] at h5
    rw [H.out, tdiv2 n h3]
    omega
  · go_ret
    exact ⟨ret_int (by rw [H.out]), rfl⟩
end Go.Proofs.YtngeaigkafamiaaGreat
namespace Go.Proofs.YtngeaigkafamiaaGreat
open Go.ChangeShapes Go.WideShapes Go.ChangeAt Go.RowKit
set_option maxRecDepth 100000
theorem tdiv_neg (n k : Int) (h : n < 0) : n.tdiv k = -((-n) / k) := by
  have h2 : (-(-n)).tdiv k = -((-n) / k) := by rw [Int.neg_tdiv, Int.tdiv_eq_ediv_of_nonneg (by omega)]
  rwa [Int.neg_neg] at h2
theorem tmod_neg (n k : Int) (h : n < 0) : n.tmod k = -((-n) % k) := by
  have h2 : (-(-n)).tmod k = -((-n) % k) := by rw [Int.neg_tmod, Int.tmod_eq_emod_of_nonneg (by omega)]
  rwa [Int.neg_neg] at h2
def divI (n : Int) : Int := n / 10000
theorem floorDiv_any (n : Int) (w : World) (h1 : -10000000000 ≤ n) (h2 : n ≤ 10000000000) :
    Calls Tryz.prog 104 #[.int .i64 n, .int .i64 10000] w fun e w' => e = .returned (.int .i64 (divI n)) ∧ w = w' := by
  have H := Lib.hid (show divI n = n / 10000 from rfl)
  by_cases h3 : n < 0
  · have hd := Lib.hid (tdiv_neg n 10000 h3)
    have hm := Lib.hid (tmod_neg n 10000 h3)
    go_enter Tryz.func104, Tryz.ntmps104
    go_wp2
    all_goals
      go_ret
      refine ⟨ret_int ?_, rfl⟩
      have := hd.out
      have := hm.out
      rw [H.out]
      try unfold wrap64
      omega
  · go_enter Tryz.func104, Tryz.ntmps104
    go_wp2
    go_ret
    exact ⟨ret_int (by rw [H.out]), rfl⟩
def partV (b p : Int) : Int := b * p / 10000
theorem mul_bounds {q p Q P : Int} (hq0 : 0 ≤ q) (hq : q ≤ Q) (hp0 : -P ≤ p) (hp : p ≤ P) : -(Q * P) ≤ q * p ∧ q * p ≤ Q * P := by
  have hP : 0 ≤ P := by omega
  have h1 : q * p ≤ q * P := Int.mul_le_mul_of_nonneg_left hp hq0
  have h2 : q * P ≤ Q * P := Int.mul_le_mul_of_nonneg_right hq hP
  have h3 : q * (-P) ≤ q * p := Int.mul_le_mul_of_nonneg_left hp0 hq0
  have h4 : q * (-P) = -(q * P) := Int.mul_neg q P
  omega
theorem partV_eq (b p : Int) : b / 10000 * p + divI (b % 10000 * p) = partV b p := by
  unfold divI partV
  have h : b * p = b % 10000 * p + (b / 10000 * p) * 10000 := by
    have e := Int.emod_add_mul_ediv b 10000
    have e2 : b * p = (b % 10000 + 10000 * (b / 10000)) * p := by rw [e]
    rw [e2, Int.add_mul, Int.mul_assoc, Int.mul_comm 10000]
  rw [h, Int.add_mul_ediv_right _ _ (by decide)]
  omega
def partR (b p : Int) : Bool := decide (0 ≤ b ∧ b ≤ 1125899906842624 ∧ -1000000 ≤ p ∧ p ≤ 1000000)
def partB (b p : Int) : Bool := partR b p && fitsB (partV b p)
def partN (b p : Int) : Int := if partB b p then partV b p else 0
theorem ret_two {a b : Int} {c d : Bool} (h : a = b) (h2 : c = d) : Ending.returned (.tuple #[.int .i64 a, .bool c]) = .returned (.tuple #[.int .i64 b, .bool d]) := by rw [h, h2]
theorem part_no (b p : Int) (w : World) (h : partR b p = false) :
    Calls Tryz.prog 92 #[.int .i64 b, .int .i64 p] w fun e w' => e = .returned (.tuple #[.int .i64 (partN b p), .bool (partB b p)]) ∧ w = w' := by
  have H1 := Lib.hid (show partB b p = false by unfold partB; simp [h])
  have H2 := Lib.hid (show partN b p = 0 by unfold partN; rw [H1.out]; rfl)
  have h3 : ¬ (0 ≤ b ∧ b ≤ 1125899906842624 ∧ -1000000 ≤ p ∧ p ≤ 1000000) := by unfold partR at h; simpa using h
  clear h
  by_cases h4 : b < 0
  · clear h3
    go_enter Tryz.func92, Tryz.ntmps92
    go_wp2
    go_ret2
    exact ⟨ret_two H2.out.symm H1.out.symm, rfl⟩
  · by_cases h5 : 1125899906842624 < b
    · clear h3
      go_enter Tryz.func92, Tryz.ntmps92
      go_wp2
      go_ret2
      exact ⟨ret_two H2.out.symm H1.out.symm, rfl⟩
    · by_cases h6 : p < -1000000
      · clear h3
        go_enter Tryz.func92, Tryz.ntmps92
        go_wp2
        go_ret2
        exact ⟨ret_two H2.out.symm H1.out.symm, rfl⟩
      · have h7 : 1000000 < p := by omega
        clear h3
        go_enter Tryz.func92, Tryz.ntmps92
        go_wp2
        go_ret2
        exact ⟨ret_two H2.out.symm H1.out.symm, rfl⟩
theorem part_yes (b p : Int) (w : World) (h : partR b p = true) :
    Calls Tryz.prog 92 #[.int .i64 b, .int .i64 p] w fun e w' => e = .returned (.tuple #[.int .i64 (partN b p), .bool (partB b p)]) ∧ w = w' := by
  have h3 : 0 ≤ b ∧ b ≤ 1125899906842624 ∧ -1000000 ≤ p ∧ p ≤ 1000000 := by unfold partR at h; simpa using h
  have H1 := Lib.hid (show partB b p = fitsB (partV b p) by unfold partB; simp [h])
  have H2 := Lib.hid (show partN b p = if fitsB (partV b p) then partV b p else 0 by unfold partN; rw [H1.out])
  clear h
  obtain ⟨h4, h5, h6, h7⟩ := h3
  have m1 := mul_bounds (q := b / 10000) (p := p) (Q := 112589990684) (P := 1000000) (by omega) (by omega) (by omega) (by omega)
  have m2 := mul_bounds (q := b % 10000) (p := p) (Q := 9999) (P := 1000000) (by omega) (by omega) (by omega) (by omega)
  have HE := Lib.hid (partV_eq b p)
  have hd : -1000000 ≤ divI (b % 10000 * p) ∧ divI (b % 10000 * p) ≤ 1000000 := by unfold divI; omega
  obtain ⟨m11, m12⟩ := m1
  obtain ⟨m21, m22⟩ := m2
  obtain ⟨hd1, hd2⟩ := hd
  cases hf : fitsB (partV b p) with
  | true =>
    rw [hf] at H1 H2
    have HF := Lib.hid hf
    clear hf
    go_enter Tryz.func92, Tryz.ntmps92
    go_wp2_with fail
    refine (floorDiv_any _ _ (by omega) (by omega)).mono ?_
    rintro e w' ⟨rfl, rfl⟩
    go_wp2_with fail
    rw [HE.out]
    refine (fits_any _ _).mono ?_
    rintro e w' ⟨rfl, rfl⟩
    rw [HF.out]
    go_wp2
    go_ret2
    exact ⟨ret_two H2.out.symm H1.out.symm, rfl⟩
  | false =>
    rw [hf] at H1 H2
    have HF := Lib.hid hf
    clear hf
    go_enter Tryz.func92, Tryz.ntmps92
    go_wp2_with fail
    refine (floorDiv_any _ _ (by omega) (by omega)).mono ?_
    rintro e w' ⟨rfl, rfl⟩
    go_wp2_with fail
    rw [HE.out]
    refine (fits_any _ _).mono ?_
    rintro e w' ⟨rfl, rfl⟩
    rw [HF.out]
    go_wp2
    go_ret2
    exact ⟨ret_two H2.out.symm H1.out.symm, rfl⟩
theorem part_any (b p : Int) (w : World) :
    Calls Tryz.prog 92 #[.int .i64 b, .int .i64 p] w fun e w' => e = .returned (.tuple #[.int .i64 (partN b p), .bool (partB b p)]) ∧ w = w' := by
  cases h : partR b p with
  | true => exact part_yes b p w h
  | false => exact part_no b p w h
end Go.Proofs.YtngeaigkafamiaaGreat
namespace Go.Proofs.YtngeaigkafamiaaGreat
open Go.ChangeShapes Go.WideShapes Go.ChangeAt Go.RowKit
set_option maxRecDepth 100000
theorem e_and : bits .and .u64 11258999068426240000 4294967295 = 0 := by decide +kernel
theorem e_or (hi lo : Int) (g0 : 0 ≤ hi) (g1 : hi ≤ 63) (h0 : 0 ≤ lo) (h1 : lo ≤ 18446744073709551615) :
    bits .or .u64 (hi * 1125899906842624) (lo / 16384) = hi * 1125899906842624 + lo / 16384 := by
  obtain ⟨a, rfl⟩ := Int.eq_ofNat_of_zero_le g0
  obtain ⟨b, rfl⟩ := Int.eq_ofNat_of_zero_le h0
  have h := bits_or_u64_nat (a * 1125899906842624) (b / 16384) (by omega) (by omega)
  have e : 1125899906842624 * a + b / 16384 = 1125899906842624 * a ||| b / 16384 := Nat.two_pow_add_eq_or_of_lt (i := 50) (b := b / 16384) (by omega) a
  rw [Nat.mul_comm a, ← e] at h
  have c1 : ((1125899906842624 * a : Nat) : Int) = (a : Int) * 1125899906842624 := by omega
  have c2 : ((b / 16384 : Nat) : Int) = (b : Int) / 16384 := by omega
  rw [c1, c2] at h
  rw [h]; omega
theorem e_wrap (lo : Int) :
    IntKind.u64.wrap (lo * 1125899906842624) = lo % 16384 * 1125899906842624 := by
  rw [IntKind.wrap_u64]; omega
theorem e_and2 (r : Int) (h0 : 0 ≤ r) (h1 : r < 16384) : bits .and .u64 (r * 1125899906842624) 4294967295 = 0 := by
  obtain ⟨a, rfl⟩ := Int.eq_ofNat_of_zero_le h0
  have h := bits_and_u64_nat (a * 1125899906842624) 4294967295 (by omega) (by omega)
  have e : a * 1125899906842624 &&& 4294967295 = a * 1125899906842624 % 4294967296 := Nat.and_two_pow_sub_one_eq_mod _ 32
  rw [e] at h
  have c1 : ((a * 1125899906842624 : Nat) : Int) = (a : Int) * 1125899906842624 := by omega
  rw [c1] at h
  refine h.trans ?_
  omega
theorem e_un21 (U Q R L : Int) (hR : U - Q * 2621440000 = R) (R0 : 0 ≤ R) (R1 : R < 2621440000) (L0 : 0 ≤ L) (L1 : L < 16384) :
    IntKind.u64.wrap (IntKind.u64.wrap (IntKind.u64.wrap (U * 4294967296) + L * 1125899906842624 / 4294967296) - IntKind.u64.wrap (Q * 11258999068426240000)) = R * 4294967296 + L * 262144 := by
  simp only [IntKind.wrap_u64]
  have h : L * 1125899906842624 / 4294967296 = L * 262144 := by omega
  rw [h]
  omega
theorem e_rem (T P r : Int) (hr : T - P * 2621440000 = r * 262144) (r0 : 0 ≤ r) (r1 : r < 10000) :
    IntKind.u64.wrap (IntKind.u64.wrap (IntKind.u64.wrap (T * 4294967296)) - IntKind.u64.wrap (P * 11258999068426240000)) / 1125899906842624 = r := by
  simp only [IntKind.wrap_u64]; omega
theorem div_fin (hi lo U Q R T P S : Int) (hU : hi * 1125899906842624 + lo / 16384 = U) (hR : U - Q * 2621440000 = R) (hT : R * 4294967296 + lo % 16384 * 262144 = T)
    (hS : T - P * 2621440000 = S) (S0 : 0 ≤ S) (S1 : S < 2621440000) :
    Q * 4294967296 + P = (hi * 18446744073709551616 + lo) / 10000 ∧ T - P * 2621440000 = ((hi * 18446744073709551616 + lo) % 10000) * 262144 := by
  omega
theorem e_mask (a : Int) (h0 : 0 ≤ a) (h1 : a ≤ 18446744073709551615) : bits .and .u64 a 4294967295 = a % 4294967296 := by
  obtain ⟨n, rfl⟩ := Int.eq_ofNat_of_zero_le h0
  have h := bits_and_u64_nat n 4294967295 (by omega) (by omega)
  have e : n &&& 4294967295 = n % 4294967296 := Nat.and_two_pow_sub_one_eq_mod _ 32
  rw [e] at h
  refine h.trans ?_
  omega
theorem mul_hi (x y : Int) (x0 : 0 ≤ x) (x1 : x ≤ 1125899906842624) (y0 : 0 ≤ y) (y1 : y ≤ 1000000) :
    IntKind.u64.wrap (IntKind.u64.wrap (IntKind.u64.wrap (x / 4294967296 * (y / 4294967296)) +
      IntKind.u64.wrap (IntKind.u64.wrap (x / 4294967296 * bits BinOp.and IntKind.u64 y 4294967295) +
        IntKind.u64.wrap (bits BinOp.and IntKind.u64 x 4294967295 * bits BinOp.and IntKind.u64 y 4294967295) / 4294967296) / 4294967296) +
      IntKind.u64.wrap (bits BinOp.and IntKind.u64 (IntKind.u64.wrap (IntKind.u64.wrap (x / 4294967296 * bits BinOp.and IntKind.u64 y 4294967295) +
        IntKind.u64.wrap (bits BinOp.and IntKind.u64 x 4294967295 * bits BinOp.and IntKind.u64 y 4294967295) / 4294967296)) 4294967295 +
        IntKind.u64.wrap (bits BinOp.and IntKind.u64 x 4294967295 * (y / 4294967296))) / 4294967296) = x * y / 18446744073709551616 := by
  have m1 := mul_bounds (q := x / 4294967296) (p := y) (Q := 262144) (P := 1000000) (by omega) (by omega) (by omega) (by omega)
  have m2 := mul_bounds (q := x % 4294967296) (p := y) (Q := 4294967295) (P := 1000000) (by omega) (by omega) (by omega) (by omega)
  have n1 : 0 ≤ x / 4294967296 * y := Int.mul_nonneg (by omega) y0
  have n2 : 0 ≤ x % 4294967296 * y := Int.mul_nonneg (by omega) y0
  have hy : y / 4294967296 = 0 := by omega
  have hy2 : y % 4294967296 = y := by omega
  have hxy : x * y = x % 4294967296 * y + (x / 4294967296 * y) * 4294967296 := by
    have e := Int.emod_add_mul_ediv x 4294967296
    have e2 : x * y = (x % 4294967296 + 4294967296 * (x / 4294967296)) * y := by rw [e]
    rw [e2, Int.add_mul, Int.mul_assoc, Int.mul_comm 4294967296]
  rw [e_mask x x0 (by omega), e_mask y y0 (by omega), hy, hy2, Int.mul_zero, Int.mul_zero, hxy]
  generalize x / 4294967296 * y = A at *
  generalize x % 4294967296 * y = B at *
  have hw : IntKind.u64.wrap (IntKind.u64.wrap A + IntKind.u64.wrap B / 4294967296) = A + B / 4294967296 := by
    simp only [IntKind.wrap_u64]; omega
  rw [hw, e_mask _ (by omega) (by omega)]
  simp only [IntKind.wrap_u64]
  omega
end Go.Proofs.YtngeaigkafamiaaGreat

