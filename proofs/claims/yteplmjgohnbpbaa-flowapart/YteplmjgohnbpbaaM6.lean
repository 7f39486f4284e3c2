/- Texts of the proof, merged: Lens, RefLens. -/
import Derived.Test.YteplmjgohnbpbaaM5
/- A style in memory; contracts of sizes, lengths and of the reference's Lens; no conditions beyond those written in each theorem. -/
namespace Go.Proofs.Yteplmjgohnbpbaa
open Go.ChangeShapes Go.WideShapes Go.ChangeAt Go.RowKit
set_option maxRecDepth 100000
/-- A style as a value. -/
def sv (s : Sty) : Value := .agg (stl s).toArray
/-- The block X is this style. -/
def Hs (w : World) (X : Nat) (s : Sty) : Prop := w.heap[X]? = some (.cells (stl s).toArray 39)
theorem hs_new (w : World) (s : Sty) : Hs (w.alloc (.cells (stl s).toArray 39)) w.heap.size s := World.alloc_heap_new w _
section
variable {w : World} {X : Nat} {s : Sty}
theorem Hs.at (h : Hs w X s) (j : Nat) : w.cell? ⟨X, j, none⟩ = (stl s)[j]? := by
  rw [Go.Joins.cell_of_block h]; simp
theorem Hs.lt (h : Hs w X s) : X < w.heap.size := by
  rcases Nat.lt_or_ge X w.heap.size with h1 | h1
  · exact h1
  · unfold Hs at h; rw [Array.getElem?_eq_none h1] at h; cases h
theorem Hs.seen (h : Hs w X s) {w' : World} (hs : Seen w w') : Hs w' X s := (hs.block X h.lt).trans h
theorem Hs.range (h : Hs w X s) (k m : Nat) : w.rangeAt X k (((stl s).drop k).take m) := fun j v hj => by
  rw [h.at]
  have hjm : j < m := by
    rcases Nat.lt_or_ge j m with h1 | h1
    · exact h1
    · rw [List.getElem?_eq_none (by simp; omega)] at hj; cases hj
  rw [List.getElem?_take_of_lt hjm, List.getElem?_drop] at hj
  exact hj
theorem Hs.free (h : Hs w X s) (j : Nat) : w.frozen? ⟨X, j, none⟩ = false := by
  unfold Hs at h
  simp [World.frozen?, h]
end
theorem stl_drop2 {s : Sty} (h : Full s) {i m : Nat} (hi : i + m ≤ 18) : ((stl s).drop (2 + i * 2)).take (m * 2) = flatL ((s.lens.drop i).take m) := by
  have hl := flatL_length s.lens
  rw [h.lens] at hl
  unfold stl
  rw [List.drop_append, List.drop_of_length_le (by simp), List.nil_append, show 2 + i * 2 - [Value.bool s.shown, Value.int IntKind.i64 s.pos].length = i * 2 by simp, List.drop_append_of_le_length (by rw [hl]; omega),
    List.take_append_of_le_length (by rw [List.length_drop, hl]; omega), flatL_drop, flatL_take]
theorem info27 : (Try.prog.info? 39).map (·.size) = some 48 := by kernel_rfl
theorem info24 : (Try.prog.info? 36).map (·.size) = some 8 := by kernel_rfl
theorem info53 : (Try.prog.info? 145).map (·.size) = some 12 := by kernel_rfl
/-- The load of a whole style. -/
theorem wpList_loadS {ops : Array Oper} {rest : List Oper} {op : Oper} {a : Act} {w : World} {Q : Exit → Act → World → Prop} (hgd : op.guard = none) (x : Operand) (ho : op.op = .load 39 x) (X : Nat) (s : Sty)
    (hx : a.eval x = .pointer (some ⟨X, 0, none⟩)) (hf : Full s) (hs : Hs w X s) (h : wpList Try.prog ops Q rest (a.put op.dst (sv s)) w) : wpList Try.prog ops Q (op :: rest) a w := by
  have hr := hs.range 0 48
  rw [List.drop_zero, List.take_of_length_le (by rw [hf.len]; omega)] at hr
  exact wpList_load_mid hgd 39 x ho X 0 hx (stl s) _ hr Try.underlying39 rfl (by rw [hf.len]; exact info27) h
/-- The load of four lengths of it, the first of them length i. -/
theorem wpList_load4 {ops : Array Oper} {rest : List Oper} {op : Oper} {a : Act} {w : World} {Q : Exit → Act → World → Prop} (hgd : op.guard = none) (x : Operand) (ho : op.op = .load 36 x) (X i : Nat) (s : Sty)
    (hx : a.eval x = .pointer (some ⟨X, 2 + i * 2, none⟩)) (hf : Full s) (hi : i + 4 ≤ 18) (hs : Hs w X s) (h : wpList Try.prog ops Q rest (a.put op.dst (.agg (flatL ((s.lens.drop i).take 4)).toArray)) w) : wpList Try.prog ops Q (op :: rest) a w := by
  have hr := hs.range (2 + i * 2) (4 * 2)
  rw [stl_drop2 hf hi] at hr
  exact wpList_load_mid hgd 36 x ho X (2 + i * 2) hx _ _ hr Try.underlying36 rfl (by rw [flatL_length, List.length_take, List.length_drop, hf.lens, Nat.min_eq_left (by omega)]; exact info24) h
/-- The six sizes. -/
def six (s : Sty) : List Ln := (s.lens.drop 4).take 6
theorem six_length {s : Sty} (h : Full s) : (six s).length = 6 := by simp [six, h.lens]
theorem list6 {l : List Ln} (h : l.length = 6) : flatL l = [.int .i64 (lat l 0).k, .int .i64 (lat l 0).n, .int .i64 (lat l 1).k, .int .i64 (lat l 1).n, .int .i64 (lat l 2).k, .int .i64 (lat l 2).n, .int .i64 (lat l 3).k, .int .i64 (lat l 3).n, .int .i64 (lat l 4).k, .int .i64 (lat l 4).n, .int .i64 (lat l 5).k, .int .i64 (lat l 5).n] := by
  match l, h with
  | [a, b, c, d, e, f], _ => rfl
theorem six_at (s : Sty) {i : Nat} (h : i < 6) : lat (six s) i = lat s.lens (4 + i) := by
  unfold six; rw [lat_take h, lat_drop]
set_option maxHeartbeats 4000000 in
theorem sizes_any (s : Sty) (hf : Full s) (w : World) : Calls Try.prog 80 #[sv s] w fun e w' => e = .returned (.agg (flatL (six s)).toArray) ∧ Seen w w' := by
  have HF := Lib.hid hf
  obtain ⟨a0, b0⟩ := stl_len hf (i := 4) (by omega)
  obtain ⟨a1, b1⟩ := stl_len hf (i := 5) (by omega)
  obtain ⟨a2, b2⟩ := stl_len hf (i := 6) (by omega)
  obtain ⟨a3, b3⟩ := stl_len hf (i := 7) (by omega)
  obtain ⟨a4, b4⟩ := stl_len hf (i := 8) (by omega)
  obtain ⟨a5, b5⟩ := stl_len hf (i := 9) (by omega)
  simp only [Nat.reduceAdd, Nat.reduceMul] at a0 b0 a1 b1 a2 b2 a3 b3 a4 b4 a5 b5
  clear hf
  unfold sv
  go_enter Try.func80, Try.ntmps80
  go_wp2_with fail
  go_returns
  refine ⟨?_, by unfold Seen; go_grown⟩
  rw [list6 (six_length HF.out)]
  simp only [six_at s (show 0 < 6 by omega), six_at s (show 1 < 6 by omega), six_at s (show 2 < 6 by omega), six_at s (show 3 < 6 by omega), six_at s (show 4 < 6 by omega), six_at s (show 5 < 6 by omega)]
theorem range_seen {w w' : World} {b o : Nat} {cs : List Value} (h : w.rangeAt b o cs) (hs : Seen w w') : w'.rangeAt b o cs := fun j v hj => hs.cell (h j v hj)
theorem src_of_range {w : World} {b o m c : Nat} {cs : List Value} (h : w.rangeAt b o cs) (hl : cs.length = m * 2) : SrcC w (.slice (some ⟨b, o, none⟩) m c) m 2 cs :=
  .inr ⟨⟨b, o, none⟩, c, rfl, hl, fun j v hj => by rw [add_plain]; exact h j v hj⟩
/-- The four parts that the lengths of a style lie in. -/
def parts (s : Sty) (X Y : Nat) : List Pt :=
  [⟨some ⟨X, 2, none⟩, 4, 4, (s.lens.drop 0).take 4⟩, ⟨some ⟨Y, 0, none⟩, 6, 6, six s⟩, ⟨some ⟨X, 22, none⟩, 4, 4, (s.lens.drop 10).take 4⟩, ⟨some ⟨X, 30, none⟩, 4, 4, (s.lens.drop 14).take 4⟩]
theorem parts_all {s : Sty} (h : Full s) (X Y : Nat) : allL (parts s X Y) = s.lens := by
  have hl := h.lens
  unfold parts allL six
  generalize s.lens = l at hl
  match l, hl with
  | [_, _, _, _, _, _, _, _, _, _, _, _, _, _, _, _, _, _], _ => rfl
theorem parts_src {s : Sty} (h : Full s) {w : World} {X Y : Nat} (hx : Hs w X s) (hy : w.rangeAt Y 0 (flatL (six s))) :
    ∀ i, i < 4 → (ptat (parts s X Y) i).l.length = (ptat (parts s X Y) i).n ∧ SrcC w (pv (ptat (parts s X Y) i)) (ptat (parts s X Y) i).n 2 (flatL (ptat (parts s X Y) i).l) := by
  have key : ∀ i, i + 4 ≤ 18 → ((s.lens.drop i).take 4).length = 4 ∧ SrcC w (.slice (some ⟨X, 2 + i * 2, none⟩) 4 4) 4 2 (flatL ((s.lens.drop i).take 4)) := fun i hi => by
    have hl : ((s.lens.drop i).take 4).length = 4 := by rw [List.length_take, List.length_drop, h.lens]; omega
    refine ⟨hl, src_of_range ?_ (by rw [flatL_length, hl])⟩
    have hr := hx.range (2 + i * 2) (4 * 2)
    rwa [stl_drop2 h hi] at hr
  intro i hi
  match i, hi with
  | 0, _ => exact key 0 (by omega)
  | 1, _ => exact ⟨six_length h, src_of_range hy (by rw [flatL_length]; exact congrArg (· * 2) (six_length h))⟩
  | 2, _ => exact key 10 (by omega)
  | 3, _ => exact key 14 (by omega)
set_option maxHeartbeats 4000000 in
theorem lengths_any (s : Sty) (hf : Full s) (w : World) : Calls Try.prog 78 #[sv s] w (RowL s.lens w) := by
  have HF := Lib.hid hf
  clear hf
  obtain ⟨W0, hW0⟩ : ∃ W0, W0 = w.alloc (.cells (stl s).toArray 39) := ⟨_, rfl⟩
  have H0 : Hid (Hs W0 w.heap.size s) := by rw [hW0]; exact hs_new w s
  have S0 : Hid (Seen w W0) := by rw [hW0]; exact (Seen.refl w).alloc _
  unfold sv
  go_enter Try.func78, Try.ntmps78
  go_wp2_with (first
    | (rw [← hW0]; clear hW0; refine wpList_loadS rfl _ rfl w.heap.size s rfl HF.out H0.out ?_)
    | (go_at_call 80; refine (sizes_any s HF.out _).mono ?_; rintro _ w1 ⟨rfl, hs1⟩; rw [list6 (six_length HF.out)]; have S1 := Lib.hid hs1; clear hs1))
  obtain ⟨W2, hW2⟩ : ∃ W2, W2 = w1.alloc (.cells (flatL (six s)).toArray 145) := ⟨_, rfl⟩
  have hW2' := hW2
  rw [list6 (six_length HF.out)] at hW2
  rw [← hW2]
  have HY : Hid (W2.rangeAt w1.heap.size 0 (flatL (six s))) := by
    rw [hW2']
    intro j v hj
    rw [World.cell?_alloc_new]
    simpa using hj
  have S2 : Hid (Seen W0 W2) := by rw [hW2']; exact S1.out.alloc _
  have HX : Hid (Hs W2 w.heap.size s) := H0.out.seen S2.out
  clear hW2 hW2'
  have hq : ∀ i, i < 4 → (W2.alloc (.cells #[.slice (some ⟨w.heap.size, 2, none⟩) 4 4, .slice (some ⟨w1.heap.size, 0, none⟩) 6 6, .slice (some ⟨w.heap.size, 22, none⟩) 4 4, .slice (some ⟨w.heap.size, 30, none⟩) 4 4] 96)).drew.cell? ⟨W2.heap.size, 0 + i, none⟩ = some (pv (ptat (parts s w.heap.size w1.heap.size) i)) := by
    intro i hi
    rw [World.cell?_drew, World.cell?_alloc_new]
    match i, hi with
    | 0, _ => rfl
    | 1, _ => rfl
    | 2, _ => rfl
    | 3, _ => rfl
  have HQ := Lib.hid hq
  clear hq
  go_region_with ((go_at_call 91; refine (concat_any (parts s w.heap.size w1.heap.size) W2.heap.size 0 4 4 _ rfl HQ.out (parts_src HF.out (HX.out.seen ((Seen.refl W2).alloc _).drew) (range_seen HY.out ((Seen.refl W2).alloc _).drew)) (by rw [parts_all HF.out, HF.out.lens]; omega) (by rw [parts_all HF.out, HF.out.lens]; omega) (by omega)).mono ?_; rintro _ w3 ⟨⟨v3, rfl, ho3⟩, hs3⟩; have R3 := Lib.hid (And.intro ho3 hs3); clear ho3 hs3))
  all_goals
    go_wp2_with fail
    go_ret
    obtain ⟨h1, h2⟩ := R3.out
    rw [parts_all HF.out] at h1
    have hs : Seen w w3 := ((S0.out.trans S2.out).trans ((Seen.refl W2).alloc _).drew).trans h2
    exact ⟨⟨v3, rfl, row_more h1 (by have := (S0.out.trans S2.out).size; simp; omega)⟩, hs⟩
end Go.Proofs.Yteplmjgohnbpbaa

/- Contract of the reference's Lens; no conditions beyond those written in each theorem. -/
namespace Go.Proofs.Yteplmjgohnbpbaa
open Go.ChangeShapes Go.WideShapes Go.ChangeAt Go.RowKit
set_option maxRecDepth 100000
theorem Hs.two {w : World} {X : Nat} {s : Sty} (h : Hs w X s) (hf : Full s) {i : Nat} (hi : i < 18) : w.cell? ⟨X, 2 + i * 2, none⟩ = some (.int .i64 (lat s.lens i).k) ∧ w.cell? ⟨X, 2 + i * 2 + 1, none⟩ = some (.int .i64 (lat s.lens i).n) := by
  rw [h.at, h.at]; exact stl_len hf hi
theorem Hs.six {w : World} {X : Nat} {s : Sty} (h : Hs w X s) (hf : Full s) {i : Nat} (hi : i < 6) : w.cell? ⟨X, 10 + i * 2, none⟩ = some (.int .i64 (lat (six s) i).k) ∧ w.cell? ⟨X, 10 + i * 2 + 1, none⟩ = some (.int .i64 (lat (six s) i).n) := by
  rw [six_at s hi]
  have := h.two hf (i := 4 + i) (by omega)
  rw [show 2 + (4 + i) * 2 = 10 + i * 2 by omega] at this
  exact this
theorem part_src {s : Sty} (h : Full s) {w : World} {X : Nat} (hx : Hs w X s) (i : Nat) (hi : i + 4 ≤ 18) : SrcC w (.slice (some ⟨X, 2 + i * 2, none⟩) 4 4) 4 2 (flatL ((s.lens.drop i).take 4)) := by
  have hl : ((s.lens.drop i).take 4).length = 4 := by rw [List.length_take, List.length_drop, h.lens]; omega
  refine src_of_range ?_ (by rw [flatL_length, hl])
  have hr := hx.range (2 + i * 2) (4 * 2)
  rwa [stl_drop2 h hi] at hr
theorem lens_parts {s : Sty} (h : Full s) : ((s.lens.drop 0).take 4 ++ six s) ++ (s.lens.drop 10).take 4 ++ (s.lens.drop 14).take 4 = s.lens := by
  have hl := h.lens
  unfold six
  generalize s.lens = l at hl
  match l, hl with
  | [_, _, _, _, _, _, _, _, _, _, _, _, _, _, _, _, _, _], _ => rfl
theorem row6 (W : World) {l : List Ln} (h : l.length = 6) (base : Nat) (hb : base ≤ W.heap.size) : (W.alloc (.cells #[.int .i64 (lat l 0).k, .int .i64 (lat l 0).n, .int .i64 (lat l 1).k, .int .i64 (lat l 1).n, .int .i64 (lat l 2).k, .int .i64 (lat l 2).n, .int .i64 (lat l 3).k, .int .i64 (lat l 3).n, .int .i64 (lat l 4).k, .int .i64 (lat l 4).n, .int .i64 (lat l 5).k, .int .i64 (lat l 5).n] 35)).ownsRow base 35 2 (.slice (some ⟨W.heap.size, 0, none⟩) 6 6) 6 (flatL l) :=
  ⟨by rw [flatL_length, h], .inr ⟨W.heap.size, 6, _, rfl, hb, World.alloc_heap_new W _, Nat.le_refl _, by unfold maxLen; omega, rfl, by rw [list6 h]; rfl⟩⟩
set_option maxHeartbeats 8000000 in
theorem refLens_any (s : Sty) (hf : Full s) (w : World) : Calls Try.prog 35 #[sv s] w (RowL s.lens w) := by
  obtain ⟨i0, hi, hz0, hz1, hz2⟩ := info_parts info23
  have HF := Lib.hid hf
  clear hf
  obtain ⟨V, hV⟩ : ∃ V, V = w.alloc (.cells (stl s).toArray 39) := ⟨_, rfl⟩
  have HX : Hid (Hs V w.heap.size s) := by rw [hV]; exact hs_new w s
  have SV : Hid (Seen w V) := by rw [hV]; exact (Seen.refl w).alloc _
  have hVs : V.heap.size = w.heap.size + 1 := by rw [hV]; simp
  have HVs := Lib.hid hVs
  obtain ⟨W0, hW0⟩ : ∃ W0, W0 = V.alloc (.cells #[] 35) := ⟨_, rfl⟩
  have S0 : Hid (Seen V W0) := by rw [hW0]; exact (Seen.refl V).alloc _
  have R0 : Hid (W0.ownsRow V.heap.size 35 2 (.slice (some ⟨w.heap.size + 1, 0, none⟩) 0 0) 0 []) := by
    unfold Hid
    rw [hW0, ← hVs]
    exact World.ownsRow_made (base := V.heap.size) (e := 35) (size := 2) V #[] 0 (Nat.le_refl _) (Nat.zero_le _) rfl
  rw [hV] at hW0
  clear hV hVs
  unfold sv
  go_enter Try.func35, Try.ntmps35
  go_wp2_with (first
    | (at_builtin; rw [← hW0]; clear hW0; refine wpList_append_src _ rfl (.tmp 4) (.tmp 6) 96 rfl 35 i0 _ 2 16 Try.underlying96 hi hz0 hz1 hz2 rfl (by decide) V.heap.size (.slice (some ⟨w.heap.size + 1, 0, none⟩) 0 0) 0 [] rfl R0.out (.slice (some ⟨w.heap.size, 2, none⟩) 4 4) 4 (flatL ((s.lens.drop 0).take 4)) rfl (part_src HF.out (HX.out.seen S0.out) 0 (by omega)) (flatL_one _) (by unfold maxLen; omega) (by omega) S0.out.size ?_
       intro v1 w1 ho1 hg1 hat1
       have S1 : Hid (Seen V w1) := Below.grown S0.out hg1 S0.out.size (fun k hk => (R0.out.lt k hk).1)
       have O1 : Hid (w1.ownsRow V.heap.size 35 2 v1 4 (flatL ((s.lens.drop 0).take 4))) := ho1
       obtain ⟨c0, d0⟩ := (HX.out.seen S1.out).six HF.out (i := 0) (by omega)
       obtain ⟨c1, d1⟩ := (HX.out.seen S1.out).six HF.out (i := 1) (by omega)
       obtain ⟨c2, d2⟩ := (HX.out.seen S1.out).six HF.out (i := 2) (by omega)
       obtain ⟨c3, d3⟩ := (HX.out.seen S1.out).six HF.out (i := 3) (by omega)
       obtain ⟨c4, d4⟩ := (HX.out.seen S1.out).six HF.out (i := 4) (by omega)
       obtain ⟨c5, d5⟩ := (HX.out.seen S1.out).six HF.out (i := 5) (by omega)
       simp only [Nat.reduceAdd, Nat.reduceMul] at c0 d0 c1 d1 c2 d2 c3 d3 c4 d4 c5 d5
       clear ho1 hg1 hat1 R0 S0)
    | (at_builtin; refine wpList_append_rows _ rfl (.tmp 8) (.tmp 21) 96 rfl 35 i0 _ 2 16 Try.underlying96 hi hz0 hz1 hz2 rfl (by decide) V.heap.size V.heap.size v1 4 _ rfl (O1.out.alloc _) (.slice (some ⟨w1.heap.size, 0, none⟩) 6 6) 6 (flatL (six s)) rfl (row6 w1 (six_length HF.out) _ S1.out.size) (flatL_one _) (by unfold maxLen; omega) (by omega) (S1.out.alloc _).size ?_
       intro v2 w2 ho2 hg2 hat2
       have S2 : Hid (Seen V w2) := Below.grown (S1.out.alloc _) hg2 (S1.out.alloc _).size (fun k hk => (O1.out.lt k hk).1)
       have O2 : Hid (w2.ownsRow V.heap.size 35 2 v2 10 (flatL ((s.lens.drop 0).take 4) ++ flatL (six s))) := ho2
       clear ho2 hg2 hat2 O1 S1 c0 d0 c1 d1 c2 d2 c3 d3 c4 d4 c5 d5)
    | (at_builtin; refine wpList_append_src _ rfl (.tmp 23) (.tmp 25) 96 rfl 35 i0 _ 2 16 Try.underlying96 hi hz0 hz1 hz2 rfl (by decide) V.heap.size v2 10 _ rfl O2.out (.slice (some ⟨w.heap.size, 22, none⟩) 4 4) 4 (flatL ((s.lens.drop 10).take 4)) rfl (part_src HF.out (HX.out.seen S2.out) 10 (by omega)) (flatL_one _) (by unfold maxLen; omega) (by omega) S2.out.size ?_
       intro v3 w3 ho3 hg3 hat3
       have S3 : Hid (Seen V w3) := Below.grown S2.out hg3 S2.out.size (fun k hk => (O2.out.lt k hk).1)
       have O3 : Hid (w3.ownsRow V.heap.size 35 2 v3 14 (flatL ((s.lens.drop 0).take 4) ++ flatL (six s) ++ flatL ((s.lens.drop 10).take 4))) := ho3
       clear ho3 hg3 hat3 O2 S2)
    | (at_builtin; refine wpList_append_src _ rfl (.tmp 27) (.tmp 29) 96 rfl 35 i0 _ 2 16 Try.underlying96 hi hz0 hz1 hz2 rfl (by decide) V.heap.size v3 14 _ rfl O3.out (.slice (some ⟨w.heap.size, 30, none⟩) 4 4) 4 (flatL ((s.lens.drop 14).take 4)) rfl (part_src HF.out (HX.out.seen S3.out) 14 (by omega)) (flatL_one _) (by unfold maxLen; omega) (by omega) S3.out.size ?_
       intro v4 w4 ho4 hg4 hat4
       have S4 : Hid (Seen V w4) := Below.grown S3.out hg4 S3.out.size (fun k hk => (O3.out.lt k hk).1)
       have O4 : Hid (w4.ownsRow V.heap.size 35 2 v4 18 (flatL ((s.lens.drop 0).take 4) ++ flatL (six s) ++ flatL ((s.lens.drop 10).take 4) ++ flatL ((s.lens.drop 14).take 4))) := ho4
       clear ho4 hg4 hat4 O3 S3))
  go_ret
  have h4 := O4.out
  rw [← flatL_append, ← flatL_append, ← flatL_append, lens_parts HF.out, ← HF.out.lens] at h4
  exact ⟨⟨v4, rfl, row_more h4 SV.out.size⟩, SV.out.trans S4.out⟩
end Go.Proofs.Yteplmjgohnbpbaa
