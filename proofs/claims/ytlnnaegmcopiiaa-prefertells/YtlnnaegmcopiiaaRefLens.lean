/- Contract of the reference's Lens; no conditions beyond those written in each theorem. -/
import Derived.Test.YtlnnaegmcopiiaaLens
namespace Go.Proofs.Ytlnnaegmcopiiaa
open Go.ChangeShapes Go.WideShapes Go.ChangeAt Go.RowKit
set_option maxRecDepth 100000
theorem Hs.two {w : World} {X : Nat} {s : Sty} (h : Hs w X s) (hf : Full s) {i : Nat} (hi : i < 18) : w.cell? ⟨X, 2 + i * 2, none⟩ = some (.int .i64 (lat s.lens i).k) ∧ w.cell? ⟨X, 2 + i * 2 + 1, none⟩ = some (.int .i64 (lat s.lens i).n) := by
  rw [h.at, h.at]; exact stl_len hf hi
theorem Hs.six {w : World} {X : Nat} {s : Sty} (h : Hs w X s) (hf : Full s) {i : Nat} (hi : i < 6) : w.cell? ⟨X, 10 + i * 2, none⟩ = some (.int .i64 (lat (six s) i).k) ∧ w.cell? ⟨X, 10 + i * 2 + 1, none⟩ = some (.int .i64 (lat (six s) i).n) := by
  rw [six_at s hi]
  have := h.two hf (i := 4 + i) (by omega)
  rw [show 2 + (4 + i) * 2 = 10 + i * 2 by omega] at this
  exact this
theorem part_src {s : Sty} (h : Full s) {w : World} {X : Nat} (hx : Hs w X s) (i : Nat) (hi : i + 4 ≤ 18) : SrcC w (.slice (some ⟨X, 2 + i * 2, none⟩) 4 4) 4 2 (flatL ((s.lens.drop i).take 4)) := by
  have hl : ((s.lens.drop i).take 4).length = 4 := by rw [List.length_take, List.length_drop, h.lens]; omega
  refine src_of_range ?_ (by rw [flatL_length, hl])
  have hr := hx.range (2 + i * 2) (4 * 2)
  rwa [stl_drop2 h hi] at hr
theorem lens_parts {s : Sty} (h : Full s) : ((s.lens.drop 0).take 4 ++ six s) ++ (s.lens.drop 10).take 4 ++ (s.lens.drop 14).take 4 = s.lens := by
  have hl := h.lens
  unfold six
  generalize s.lens = l at hl
  match l, hl with
  | [_, _, _, _, _, _, _, _, _, _, _, _, _, _, _, _, _, _], _ => rfl
theorem row6 (W : World) {l : List Ln} (h : l.length = 6) (base : Nat) (hb : base ≤ W.heap.size) : (W.alloc (.cells #[.int .i64 (lat l 0).k, .int .i64 (lat l 0).n, .int .i64 (lat l 1).k, .int .i64 (lat l 1).n, .int .i64 (lat l 2).k, .int .i64 (lat l 2).n, .int .i64 (lat l 3).k, .int .i64 (lat l 3).n, .int .i64 (lat l 4).k, .int .i64 (lat l 4).n, .int .i64 (lat l 5).k, .int .i64 (lat l 5).n] 35)).ownsRow base 35 2 (.slice (some ⟨W.heap.size, 0, none⟩) 6 6) 6 (flatL l) :=
  ⟨by rw [flatL_length, h], .inr ⟨W.heap.size, 6, _, rfl, hb, World.alloc_heap_new W _, Nat.le_refl _, by unfold maxLen; omega, rfl, by rw [list6 h]; rfl⟩⟩
set_option maxHeartbeats 8000000 in
theorem refLens_any (s : Sty) (hf : Full s) (w : World) : Calls Try.prog 30 #[sv s] w (RowL s.lens w) := by
  obtain ⟨i0, hi, hz0, hz1, hz2⟩ := info_parts info23
  have HF := Lib.hid hf
  clear hf
  obtain ⟨V, hV⟩ : ∃ V, V = w.alloc (.cells (stl s).toArray 39) := ⟨_, rfl⟩
  have HX : Hid (Hs V w.heap.size s) := by rw [hV]; exact hs_new w s
  have SV : Hid (Seen w V) := by rw [hV]; exact (Seen.refl w).alloc _
  have hVs : V.heap.size = w.heap.size + 1 := by rw [hV]; simp
  have HVs := Lib.hid hVs
  obtain ⟨W0, hW0⟩ : ∃ W0, W0 = V.alloc (.cells #[] 35) := ⟨_, rfl⟩
  have S0 : Hid (Seen V W0) := by rw [hW0]; exact (Seen.refl V).alloc _
  have R0 : Hid (W0.ownsRow V.heap.size 35 2 (.slice (some ⟨w.heap.size + 1, 0, none⟩) 0 0) 0 []) := by
    unfold Hid
    rw [hW0, ← hVs]
    exact World.ownsRow_made (base := V.heap.size) (e := 35) (size := 2) V #[] 0 (Nat.le_refl _) (Nat.zero_le _) rfl
  rw [hV] at hW0
  clear hV hVs
  unfold sv
  go_enter Try.func30, Try.ntmps30
  go_wp2_with (first
    | (at_builtin; rw [← hW0]; clear hW0; refine wpList_append_src _ rfl (.tmp 4) (.tmp 6) 64 rfl 35 i0 _ 2 16 Try.underlying64 hi hz0 hz1 hz2 rfl (by decide) V.heap.size (.slice (some ⟨w.heap.size + 1, 0, none⟩) 0 0) 0 [] rfl R0.out (.slice (some ⟨w.heap.size, 2, none⟩) 4 4) 4 (flatL ((s.lens.drop 0).take 4)) rfl (part_src HF.out (HX.out.seen S0.out) 0 (by omega)) (flatL_one _) (by unfold maxLen; omega) (by omega) S0.out.size ?_
       intro v1 w1 ho1 hg1 hat1
       have S1 : Hid (Seen V w1) := Below.grown S0.out hg1 S0.out.size (fun k hk => (R0.out.lt k hk).1)
       have O1 : Hid (w1.ownsRow V.heap.size 35 2 v1 4 (flatL ((s.lens.drop 0).take 4))) := ho1
       obtain ⟨c0, d0⟩ := (HX.out.seen S1.out).six HF.out (i := 0) (by omega)
       obtain ⟨c1, d1⟩ := (HX.out.seen S1.out).six HF.out (i := 1) (by omega)
       obtain ⟨c2, d2⟩ := (HX.out.seen S1.out).six HF.out (i := 2) (by omega)
       obtain ⟨c3, d3⟩ := (HX.out.seen S1.out).six HF.out (i := 3) (by omega)
       obtain ⟨c4, d4⟩ := (HX.out.seen S1.out).six HF.out (i := 4) (by omega)
       obtain ⟨c5, d5⟩ := (HX.out.seen S1.out).six HF.out (i := 5) (by omega)
       simp only [Nat.reduceAdd, Nat.reduceMul] at c0 d0 c1 d1 c2 d2 c3 d3 c4 d4 c5 d5
       clear ho1 hg1 hat1 R0 S0)
    | (at_builtin; refine wpList_append_rows _ rfl (.tmp 8) (.tmp 21) 64 rfl 35 i0 _ 2 16 Try.underlying64 hi hz0 hz1 hz2 rfl (by decide) V.heap.size V.heap.size v1 4 _ rfl (O1.out.alloc _) (.slice (some ⟨w1.heap.size, 0, none⟩) 6 6) 6 (flatL (six s)) rfl (row6 w1 (six_length HF.out) _ S1.out.size) (flatL_one _) (by unfold maxLen; omega) (by omega) (S1.out.alloc _).size ?_
       intro v2 w2 ho2 hg2 hat2
       have S2 : Hid (Seen V w2) := Below.grown (S1.out.alloc _) hg2 (S1.out.alloc _).size (fun k hk => (O1.out.lt k hk).1)
       have O2 : Hid (w2.ownsRow V.heap.size 35 2 v2 10 (flatL ((s.lens.drop 0).take 4) ++ flatL (six s))) := ho2
       clear ho2 hg2 hat2 O1 S1 c0 d0 c1 d1 c2 d2 c3 d3 c4 d4 c5 d5)
    | (at_builtin; refine wpList_append_src _ rfl (.tmp 23) (.tmp 25) 64 rfl 35 i0 _ 2 16 Try.underlying64 hi hz0 hz1 hz2 rfl (by decide) V.heap.size v2 10 _ rfl O2.out (.slice (some ⟨w.heap.size, 22, none⟩) 4 4) 4 (flatL ((s.lens.drop 10).take 4)) rfl (part_src HF.out (HX.out.seen S2.out) 10 (by omega)) (flatL_one _) (by unfold maxLen; omega) (by omega) S2.out.size ?_
       intro v3 w3 ho3 hg3 hat3
       have S3 : Hid (Seen V w3) := Below.grown S2.out hg3 S2.out.size (fun k hk => (O2.out.lt k hk).1)
       have O3 : Hid (w3.ownsRow V.heap.size 35 2 v3 14 (flatL ((s.lens.drop 0).take 4) ++ flatL (six s) ++ flatL ((s.lens.drop 10).take 4))) := ho3
       clear ho3 hg3 hat3 O2 S2)
    | (at_builtin; refine wpList_append_src _ rfl (.tmp 27) (.tmp 29) 64 rfl 35 i0 _ 2 16 Try.underlying64 hi hz0 hz1 hz2 rfl (by decide) V.heap.size v3 14 _ rfl O3.out (.slice (some ⟨w.heap.size, 30, none⟩) 4 4) 4 (flatL ((s.lens.drop 14).take 4)) rfl (part_src HF.out (HX.out.seen S3.out) 14 (by omega)) (flatL_one _) (by unfold maxLen; omega) (by omega) S3.out.size ?_
       intro v4 w4 ho4 hg4 hat4
       have S4 : Hid (Seen V w4) := Below.grown S3.out hg4 S3.out.size (fun k hk => (O3.out.lt k hk).1)
       have O4 : Hid (w4.ownsRow V.heap.size 35 2 v4 18 (flatL ((s.lens.drop 0).take 4) ++ flatL (six s) ++ flatL ((s.lens.drop 10).take 4) ++ flatL ((s.lens.drop 14).take 4))) := ho4
       clear ho4 hg4 hat4 O3 S3))
  go_ret
  have h4 := O4.out
  rw [← flatL_append, ← flatL_append, ← flatL_append, lens_parts HF.out, ← HF.out.lens] at h4
  exact ⟨⟨v4, rfl, row_more h4 SV.out.size⟩, SV.out.trans S4.out⟩
end Go.Proofs.Ytlnnaegmcopiiaa
