/- Texts of the proof, merged: Concat, Lens. -/
import Derived.Test.YtlnnaegmcopiiaaM2
import Derived.Lib.AppendZeros
import Derived.Deep.MidRow
/- Contracts of slices.Grow at nil and of slices.Concat, at slices of lengths; no conditions beyond those written in each theorem. -/
namespace Go.Proofs.Ytlnnaegmcopiiaa
open Go.ChangeShapes Go.WideShapes Go.ChangeAt Go.RowKit
set_option maxRecDepth 100000
theorem info23 : (Try.prog.info? 35).map (fun i => (i.zero, i.size, i.bytes)) = some (some (.agg #[.int .i64 0, .int .i64 0]), 2, 16) := by kernel_rfl
/-- The answer is a new row of these lengths; nothing old has turned. -/
def RowL (l : List Ln) (w : World) (e : Ending) (w' : World) : Prop :=
  (∃ v, e = .returned v ∧ w'.ownsRow w.heap.size 35 2 v l.length (flatL l)) ∧ Seen w w'
set_option maxHeartbeats 2000000 in
theorem grow_nil (n : Nat) (w : World) (h0 : 0 < n) (hn : n ≤ 1000000) :
    Calls Try.prog 56 #[.slice none 0 0, .int .i64 n] w (RowL [] w) := by
  obtain ⟨i0, hi, hz0, hz1, hz2⟩ := info_parts info23
  have h1 : ¬ ((n : Int) < 0) := by omega
  have h4 : (n : Int) > 0 := by omega
  have hr := fun ty => Lib.run_append_nil_zeros w 64 3 ty 35 i0 _ .i64 .i64 Try.underlying64 Try.underlying3 hi hz0 n h0 (by rw [hz1]; omega) (by omega) (by rw [hz2]; omega)
  have hge := grownCap_ge w n 0 35
  have hle := grownCap_le_maxLen w n 0 35 (by unfold maxLen; omega)
  obtain ⟨G, hG⟩ : ∃ G, G = grownCap w n 0 35 := ⟨_, rfl⟩
  rw [← hG] at hr hge hle
  have hG63 : G ≤ 9223372036854775807 := by unfold maxLen at hle; omega
  have HR := Lib.hid hr
  clear hr hG
  go_enter Try.func56, Try.ntmps56
  go_wp2_with (at_builtin; refine Lib.wpList_append_run _ rfl _ _ _ _ rfl _ _ rfl rfl _ _ (HR.out _) ?_)
  all_goals
    go_ret
    refine ⟨⟨_, rfl, ?_⟩, ((Seen.refl w).drew).alloc _⟩
    refine World.ownsRow_made (base := w.heap.size) w.drew _ G (Nat.le_refl _) hle ?_
    rw [Array.size_append, size_zeroCells, size_zeroCells, ← Nat.add_mul, show n + (G - n) = G by omega]
    rfl
/-- A part: a slice and the lengths that it reads as. -/
structure Pt where
  a : Option Addr
  n : Nat
  c : Nat
  l : List Ln
def pv (q : Pt) : Value := .slice q.a q.n q.c
def allL (ps : List Pt) : List Ln := ps.flatMap Pt.l
def ptat (ps : List Pt) (i : Nat) : Pt := ps.getD i ⟨none, 0, 0, []⟩
theorem ptat_eq {ps : List Pt} {i : Nat} (h : i < ps.length) : ptat ps i = ps[i] := by
  unfold ptat; rw [List.getD_eq_getElem?_getD, List.getElem?_eq_getElem h]; rfl
theorem allL_step {ps : List Pt} {k : Nat} (h : k < ps.length) : allL (ps.take (k + 1)) = allL (ps.take k) ++ (ptat ps k).l := by
  unfold allL
  rw [List.take_succ_eq_append_getElem h, List.flatMap_append, ptat_eq h]; simp
theorem allL_le (ps : List Pt) (k : Nat) : (allL (ps.take k)).length ≤ (allL ps).length := by
  have : allL ps = allL (ps.take k) ++ allL (ps.drop k) := by unfold allL; rw [← List.flatMap_append, List.take_append_drop]
  rw [this, List.length_append]; omega
set_option maxHeartbeats 4000000 in
theorem concat_any (ps : List Pt) (b off m c : Nat) (w : World) (hm : ps.length = m) (hc : ∀ i, i < m → w.cell? ⟨b, off + i, none⟩ = some (pv (ptat ps i)))
    (hs : ∀ i, i < m → (ptat ps i).l.length = (ptat ps i).n ∧ SrcC w (pv (ptat ps i)) (ptat ps i).n 2 (flatL (ptat ps i).l)) (h0 : 0 < (allL ps).length) (hn : (allL ps).length ≤ 1000000) (hm6 : m ≤ 1000000) :
    Calls Try.prog 55 #[.slice (some ⟨b, off, none⟩) m c] w (RowL (allL ps) w) := by
  obtain ⟨i0, hi, hz0, hz1, hz2⟩ := info_parts info23
  have HC := Lib.hid hc
  have HS := Lib.hid hs
  have HM := Lib.hid hm
  clear hc hs hm
  go_enter Try.func55, Try.ntmps55
  go_wp2_with fail
  go_loopw [3, 11] (fun s i wr => ∃ k : Nat, k ≤ m ∧ s = .int .i64 ((allL (ps.take k)).length : Nat) ∧ i = .int .i64 k ∧ w = wr) (fun _ i _ => m - (intOf i).toNat)
  case atStart => exact ⟨0, Nat.zero_le _, rfl, rfl, rfl⟩
  case round =>
    obtain ⟨k, hk, rfl, rfl, rfl⟩ := hrel
    by_cases hlt : k < m
    · have hkm : (k : Int) < (m : Int) := by omega
      have ck := HC.out k hlt
      unfold pv at ck
      have hst : Hid (allL (ps.take (k + 1)) = allL (ps.take k) ++ (ptat ps k).l) := allL_step (by rw [HM.out]; exact hlt)
      have hle := allL_le ps (k + 1)
      have hsum : Hid ((allL (ps.take (k + 1))).length = (allL (ps.take k)).length + (ptat ps k).n) := by
        unfold Hid; rw [hst.out, List.length_append, (HS.out k hlt).1]
      have hle2 : (allL (ps.take k)).length + (ptat ps k).n ≤ 1000000 := by have := hsum.out; omega
      obtain ⟨S, hS⟩ : ∃ S, (allL (ps.take k)).length = S := ⟨_, rfl⟩
      rw [hS] at hle2 hsum ⊢
      have hneg : ¬ ((S : Int) + ((ptat ps k).n : Int) < 0) := by omega
      clear hle hS
      go_wp2_with fail
      refine ⟨⟨k + 1, hlt, by rw [hsum.out]; go_num, by go_num, trivial⟩, by simp [intOf]; omega⟩
    · have hkm : ¬ (k : Int) < (m : Int) := by omega
      have hall : Hid (allL (ps.take k) = allL ps) := by unfold Hid; rw [List.take_of_length_le (by rw [HM.out]; omega)]
      rw [hall.out]
      go_wp2_with (go_at_call 56; refine (grow_nil _ _ h0 hn).mono ?_; rintro _ w1 ⟨⟨v1, rfl, ho1⟩, hs1⟩; have R1 := Lib.hid (And.intro ho1 hs1); clear ho1 hs1)
      go_loopw [6, 27] (fun v i wz => ∃ k : Nat, k ≤ m ∧ i = .int .i64 k ∧ wz.ownsRow w.heap.size 35 2 v (allL (ps.take k)).length (flatL (allL (ps.take k))) ∧ Seen w wz) (fun _ i _ => m - (intOf i).toNat)
      case atStart => exact ⟨0, Nat.zero_le _, rfl, R1.out.1, R1.out.2⟩
      case round =>
        obtain ⟨j, hj, rfl, ho, hsn⟩ := hrel
        have HO := Lib.hid ho
        have HN := Lib.hid hsn
        clear ho hsn
        by_cases hlt2 : j < m
        · have hjm : (j : Int) < (m : Int) := by omega
          have cj := HN.out.cell (HC.out j hlt2)
          unfold pv at cj
          have hst : Hid (allL (ps.take (j + 1)) = allL (ps.take j) ++ (ptat ps j).l) := allL_step (by rw [HM.out]; exact hlt2)
          have hle := allL_le ps (j + 1)
          have hsum : Hid ((allL (ps.take (j + 1))).length = (allL (ps.take j)).length + (ptat ps j).n) := by
            unfold Hid; rw [hst.out, List.length_append, (HS.out j hlt2).1]
          have hle2 : (allL (ps.take j)).length + (ptat ps j).n ≤ 1000000 := by have := hsum.out; omega
          have hsrc : Hid (SrcC wr (.slice (ptat ps j).a (ptat ps j).n (ptat ps j).c) (ptat ps j).n 2 (flatL (ptat ps j).l)) := src_seen (HS.out j hlt2).2 HN.out
          go_wp2_with (at_builtin; refine wpList_append_src _ rfl (.tmp 31) (.tmp 32) 64 rfl 35 i0 _ 2 16 Try.underlying64 hi hz0 hz1 hz2 rfl (by decide) w.heap.size _ _ _ rfl HO.out (.slice (ptat ps j).a (ptat ps j).n (ptat ps j).c) (ptat ps j).n (flatL (ptat ps j).l) rfl hsrc.out (flatL_one _) (by unfold maxLen; omega) (by omega) HN.out.size ?_
                       intro v2 w2 ho2 hg2 hat2
                       have R2 := Lib.hid (And.intro ho2 hg2)
                       clear ho2 hg2 hat2)
          obtain ⟨ho2, hg2⟩ := R2.out
          refine ⟨⟨j + 1, hlt2, by go_num, by rw [hsum.out, hst.out, flatL_append]; exact ho2, Below.grown HN.out hg2 HN.out.size (fun i hi => (HO.out.lt i hi).1)⟩, by simp [intOf]; omega⟩
        · have hjm : ¬ (j : Int) < (m : Int) := by omega
          have hall2 : Hid (allL (ps.take j) = allL ps) := by unfold Hid; rw [List.take_of_length_le (by rw [HM.out]; omega)]
          go_wp2_with fail
          go_ret
          have := HO.out
          rw [hall2.out] at this
          exact ⟨⟨_, rfl, this⟩, HN.out⟩
end Go.Proofs.Ytlnnaegmcopiiaa

/- A style in memory; contracts of sizes, lengths and of the reference's Lens; no conditions beyond those written in each theorem. -/
namespace Go.Proofs.Ytlnnaegmcopiiaa
open Go.ChangeShapes Go.WideShapes Go.ChangeAt Go.RowKit
set_option maxRecDepth 100000
/-- A style as a value. -/
def sv (s : Sty) : Value := .agg (stl s).toArray
/-- The block X is this style. -/
def Hs (w : World) (X : Nat) (s : Sty) : Prop := w.heap[X]? = some (.cells (stl s).toArray 39)
theorem hs_new (w : World) (s : Sty) : Hs (w.alloc (.cells (stl s).toArray 39)) w.heap.size s := World.alloc_heap_new w _
section
variable {w : World} {X : Nat} {s : Sty}
theorem Hs.at (h : Hs w X s) (j : Nat) : w.cell? ⟨X, j, none⟩ = (stl s)[j]? := by
  rw [Go.Joins.cell_of_block h]; simp
theorem Hs.lt (h : Hs w X s) : X < w.heap.size := by
  rcases Nat.lt_or_ge X w.heap.size with h1 | h1
  · exact h1
  · unfold Hs at h; rw [Array.getElem?_eq_none h1] at h; cases h
theorem Hs.seen (h : Hs w X s) {w' : World} (hs : Seen w w') : Hs w' X s := (hs.block X h.lt).trans h
theorem Hs.range (h : Hs w X s) (k m : Nat) : w.rangeAt X k (((stl s).drop k).take m) := fun j v hj => by
  rw [h.at]
  have hjm : j < m := by
    rcases Nat.lt_or_ge j m with h1 | h1
    · exact h1
    · rw [List.getElem?_eq_none (by simp; omega)] at hj; cases hj
  rw [List.getElem?_take_of_lt hjm, List.getElem?_drop] at hj
  exact hj
theorem Hs.free (h : Hs w X s) (j : Nat) : w.frozen? ⟨X, j, none⟩ = false := by
  unfold Hs at h
  simp [World.frozen?, h]
end
theorem stl_drop2 {s : Sty} (h : Full s) {i m : Nat} (hi : i + m ≤ 18) : ((stl s).drop (2 + i * 2)).take (m * 2) = flatL ((s.lens.drop i).take m) := by
  have hl := flatL_length s.lens
  rw [h.lens] at hl
  unfold stl
  rw [List.drop_append, List.drop_of_length_le (by simp), List.nil_append, show 2 + i * 2 - [Value.bool s.shown, Value.int IntKind.i64 s.pos].length = i * 2 by simp, List.drop_append_of_le_length (by rw [hl]; omega),
    List.take_append_of_le_length (by rw [List.length_drop, hl]; omega), flatL_drop, flatL_take]
theorem info27 : (Try.prog.info? 39).map (·.size) = some 48 := by kernel_rfl
theorem info24 : (Try.prog.info? 36).map (·.size) = some 8 := by kernel_rfl
theorem info53 : (Try.prog.info? 77).map (·.size) = some 12 := by kernel_rfl
/-- The load of a whole style. -/
theorem wpList_loadS {ops : Array Oper} {rest : List Oper} {op : Oper} {a : Act} {w : World} {Q : Exit → Act → World → Prop} (hgd : op.guard = none) (x : Operand) (ho : op.op = .load 39 x) (X : Nat) (s : Sty)
    (hx : a.eval x = .pointer (some ⟨X, 0, none⟩)) (hf : Full s) (hs : Hs w X s) (h : wpList Try.prog ops Q rest (a.put op.dst (sv s)) w) : wpList Try.prog ops Q (op :: rest) a w := by
  have hr := hs.range 0 48
  rw [List.drop_zero, List.take_of_length_le (by rw [hf.len]; omega)] at hr
  exact wpList_load_mid hgd 39 x ho X 0 hx (stl s) _ hr Try.underlying39 rfl (by rw [hf.len]; exact info27) h
/-- The load of four lengths of it, the first of them length i. -/
theorem wpList_load4 {ops : Array Oper} {rest : List Oper} {op : Oper} {a : Act} {w : World} {Q : Exit → Act → World → Prop} (hgd : op.guard = none) (x : Operand) (ho : op.op = .load 36 x) (X i : Nat) (s : Sty)
    (hx : a.eval x = .pointer (some ⟨X, 2 + i * 2, none⟩)) (hf : Full s) (hi : i + 4 ≤ 18) (hs : Hs w X s) (h : wpList Try.prog ops Q rest (a.put op.dst (.agg (flatL ((s.lens.drop i).take 4)).toArray)) w) : wpList Try.prog ops Q (op :: rest) a w := by
  have hr := hs.range (2 + i * 2) (4 * 2)
  rw [stl_drop2 hf hi] at hr
  exact wpList_load_mid hgd 36 x ho X (2 + i * 2) hx _ _ hr Try.underlying36 rfl (by rw [flatL_length, List.length_take, List.length_drop, hf.lens, Nat.min_eq_left (by omega)]; exact info24) h
/-- The six sizes. -/
def six (s : Sty) : List Ln := (s.lens.drop 4).take 6
theorem six_length {s : Sty} (h : Full s) : (six s).length = 6 := by simp [six, h.lens]
theorem list6 {l : List Ln} (h : l.length = 6) : flatL l = [.int .i64 (lat l 0).k, .int .i64 (lat l 0).n, .int .i64 (lat l 1).k, .int .i64 (lat l 1).n, .int .i64 (lat l 2).k, .int .i64 (lat l 2).n, .int .i64 (lat l 3).k, .int .i64 (lat l 3).n, .int .i64 (lat l 4).k, .int .i64 (lat l 4).n, .int .i64 (lat l 5).k, .int .i64 (lat l 5).n] := by
  match l, h with
  | [a, b, c, d, e, f], _ => rfl
theorem six_at (s : Sty) {i : Nat} (h : i < 6) : lat (six s) i = lat s.lens (4 + i) := by
  unfold six; rw [lat_take h, lat_drop]
set_option maxHeartbeats 4000000 in
theorem sizes_any (s : Sty) (hf : Full s) (w : World) : Calls Try.prog 50 #[sv s] w fun e w' => e = .returned (.agg (flatL (six s)).toArray) ∧ Seen w w' := by
  have HF := Lib.hid hf
  obtain ⟨a0, b0⟩ := stl_len hf (i := 4) (by omega)
  obtain ⟨a1, b1⟩ := stl_len hf (i := 5) (by omega)
  obtain ⟨a2, b2⟩ := stl_len hf (i := 6) (by omega)
  obtain ⟨a3, b3⟩ := stl_len hf (i := 7) (by omega)
  obtain ⟨a4, b4⟩ := stl_len hf (i := 8) (by omega)
  obtain ⟨a5, b5⟩ := stl_len hf (i := 9) (by omega)
  simp only [Nat.reduceAdd, Nat.reduceMul] at a0 b0 a1 b1 a2 b2 a3 b3 a4 b4 a5 b5
  clear hf
  unfold sv
  go_enter Try.func50, Try.ntmps50
  go_wp2_with fail
  go_returns
  refine ⟨?_, by unfold Seen; go_grown⟩
  rw [list6 (six_length HF.out)]
  simp only [six_at s (show 0 < 6 by omega), six_at s (show 1 < 6 by omega), six_at s (show 2 < 6 by omega), six_at s (show 3 < 6 by omega), six_at s (show 4 < 6 by omega), six_at s (show 5 < 6 by omega)]
theorem range_seen {w w' : World} {b o : Nat} {cs : List Value} (h : w.rangeAt b o cs) (hs : Seen w w') : w'.rangeAt b o cs := fun j v hj => hs.cell (h j v hj)
theorem src_of_range {w : World} {b o m c : Nat} {cs : List Value} (h : w.rangeAt b o cs) (hl : cs.length = m * 2) : SrcC w (.slice (some ⟨b, o, none⟩) m c) m 2 cs :=
  .inr ⟨⟨b, o, none⟩, c, rfl, hl, fun j v hj => by rw [add_plain]; exact h j v hj⟩
/-- The four parts that the lengths of a style lie in. -/
def parts (s : Sty) (X Y : Nat) : List Pt :=
  [⟨some ⟨X, 2, none⟩, 4, 4, (s.lens.drop 0).take 4⟩, ⟨some ⟨Y, 0, none⟩, 6, 6, six s⟩, ⟨some ⟨X, 22, none⟩, 4, 4, (s.lens.drop 10).take 4⟩, ⟨some ⟨X, 30, none⟩, 4, 4, (s.lens.drop 14).take 4⟩]
theorem parts_all {s : Sty} (h : Full s) (X Y : Nat) : allL (parts s X Y) = s.lens := by
  have hl := h.lens
  unfold parts allL six
  generalize s.lens = l at hl
  match l, hl with
  | [_, _, _, _, _, _, _, _, _, _, _, _, _, _, _, _, _, _], _ => rfl
theorem parts_src {s : Sty} (h : Full s) {w : World} {X Y : Nat} (hx : Hs w X s) (hy : w.rangeAt Y 0 (flatL (six s))) :
    ∀ i, i < 4 → (ptat (parts s X Y) i).l.length = (ptat (parts s X Y) i).n ∧ SrcC w (pv (ptat (parts s X Y) i)) (ptat (parts s X Y) i).n 2 (flatL (ptat (parts s X Y) i).l) := by
  have key : ∀ i, i + 4 ≤ 18 → ((s.lens.drop i).take 4).length = 4 ∧ SrcC w (.slice (some ⟨X, 2 + i * 2, none⟩) 4 4) 4 2 (flatL ((s.lens.drop i).take 4)) := fun i hi => by
    have hl : ((s.lens.drop i).take 4).length = 4 := by rw [List.length_take, List.length_drop, h.lens]; omega
    refine ⟨hl, src_of_range ?_ (by rw [flatL_length, hl])⟩
    have hr := hx.range (2 + i * 2) (4 * 2)
    rwa [stl_drop2 h hi] at hr
  intro i hi
  match i, hi with
  | 0, _ => exact key 0 (by omega)
  | 1, _ => exact ⟨six_length h, src_of_range hy (by rw [flatL_length]; exact congrArg (· * 2) (six_length h))⟩
  | 2, _ => exact key 10 (by omega)
  | 3, _ => exact key 14 (by omega)
set_option maxHeartbeats 4000000 in
theorem lengths_any (s : Sty) (hf : Full s) (w : World) : Calls Try.prog 48 #[sv s] w (RowL s.lens w) := by
  have HF := Lib.hid hf
  clear hf
  obtain ⟨W0, hW0⟩ : ∃ W0, W0 = w.alloc (.cells (stl s).toArray 39) := ⟨_, rfl⟩
  have H0 : Hid (Hs W0 w.heap.size s) := by rw [hW0]; exact hs_new w s
  have S0 : Hid (Seen w W0) := by rw [hW0]; exact (Seen.refl w).alloc _
  unfold sv
  go_enter Try.func48, Try.ntmps48
  go_wp2_with (first
    | (rw [← hW0]; clear hW0; refine wpList_loadS rfl _ rfl w.heap.size s rfl HF.out H0.out ?_)
    | (go_at_call 50; refine (sizes_any s HF.out _).mono ?_; rintro _ w1 ⟨rfl, hs1⟩; rw [list6 (six_length HF.out)]; have S1 := Lib.hid hs1; clear hs1))
  obtain ⟨W2, hW2⟩ : ∃ W2, W2 = w1.alloc (.cells (flatL (six s)).toArray 77) := ⟨_, rfl⟩
  have hW2' := hW2
  rw [list6 (six_length HF.out)] at hW2
  rw [← hW2]
  have HY : Hid (W2.rangeAt w1.heap.size 0 (flatL (six s))) := by
    rw [hW2']
    intro j v hj
    rw [World.cell?_alloc_new]
    simpa using hj
  have S2 : Hid (Seen W0 W2) := by rw [hW2']; exact S1.out.alloc _
  have HX : Hid (Hs W2 w.heap.size s) := H0.out.seen S2.out
  clear hW2 hW2'
  have hq : ∀ i, i < 4 → (W2.alloc (.cells #[.slice (some ⟨w.heap.size, 2, none⟩) 4 4, .slice (some ⟨w1.heap.size, 0, none⟩) 6 6, .slice (some ⟨w.heap.size, 22, none⟩) 4 4, .slice (some ⟨w.heap.size, 30, none⟩) 4 4] 64)).drew.cell? ⟨W2.heap.size, 0 + i, none⟩ = some (pv (ptat (parts s w.heap.size w1.heap.size) i)) := by
    intro i hi
    rw [World.cell?_drew, World.cell?_alloc_new]
    match i, hi with
    | 0, _ => rfl
    | 1, _ => rfl
    | 2, _ => rfl
    | 3, _ => rfl
  have HQ := Lib.hid hq
  clear hq
  go_region_with ((go_at_call 55; refine (concat_any (parts s w.heap.size w1.heap.size) W2.heap.size 0 4 4 _ rfl HQ.out (parts_src HF.out (HX.out.seen ((Seen.refl W2).alloc _).drew) (range_seen HY.out ((Seen.refl W2).alloc _).drew)) (by rw [parts_all HF.out, HF.out.lens]; omega) (by rw [parts_all HF.out, HF.out.lens]; omega) (by omega)).mono ?_; rintro _ w3 ⟨⟨v3, rfl, ho3⟩, hs3⟩; have R3 := Lib.hid (And.intro ho3 hs3); clear ho3 hs3))
  all_goals
    go_wp2_with fail
    go_ret
    obtain ⟨h1, h2⟩ := R3.out
    rw [parts_all HF.out] at h1
    have hs : Seen w w3 := ((S0.out.trans S2.out).trans ((Seen.refl W2).alloc _).drew).trans h2
    exact ⟨⟨v3, rfl, row_more h1 (by have := (S0.out.trans S2.out).size; simp; omega)⟩, hs⟩
end Go.Proofs.Ytlnnaegmcopiiaa
