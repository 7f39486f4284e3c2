/- Texts of the proof, merged: RefLens, Formed. -/
import Derived.Test.YtlnnaegmcopiiaaM6
/- Contract of the reference's Lens; no conditions beyond those written in each theorem. -/
namespace Go.Proofs.Ytlnnaegmcopiiaa
open Go.ChangeShapes Go.WideShapes Go.ChangeAt Go.RowKit
set_option maxRecDepth 100000
theorem Hs.two {w : World} {X : Nat} {s : Sty} (h : Hs w X s) (hf : Full s) {i : Nat} (hi : i < 18) : w.cell? ⟨X, 2 + i * 2, none⟩ = some (.int .i64 (lat s.lens i).k) ∧ w.cell? ⟨X, 2 + i * 2 + 1, none⟩ = some (.int .i64 (lat s.lens i).n) := by
  rw [h.at, h.at]; exact stl_len hf hi
theorem Hs.six {w : World} {X : Nat} {s : Sty} (h : Hs w X s) (hf : Full s) {i : Nat} (hi : i < 6) : w.cell? ⟨X, 10 + i * 2, none⟩ = some (.int .i64 (lat (six s) i).k) ∧ w.cell? ⟨X, 10 + i * 2 + 1, none⟩ = some (.int .i64 (lat (six s) i).n) := by
  rw [six_at s hi]
  have := h.two hf (i := 4 + i) (by omega)
  rw [show 2 + (4 + i) * 2 = 10 + i * 2 by omega] at this
  exact this
theorem part_src {s : Sty} (h : Full s) {w : World} {X : Nat} (hx : Hs w X s) (i : Nat) (hi : i + 4 ≤ 18) : SrcC w (.slice (some ⟨X, 2 + i * 2, none⟩) 4 4) 4 2 (flatL ((s.lens.drop i).take 4)) := by
  have hl : ((s.lens.drop i).take 4).length = 4 := by rw [List.length_take, List.length_drop, h.lens]; omega
  refine src_of_range ?_ (by rw [flatL_length, hl])
  have hr := hx.range (2 + i * 2) (4 * 2)
  rwa [stl_drop2 h hi] at hr
theorem lens_parts {s : Sty} (h : Full s) : ((s.lens.drop 0).take 4 ++ six s) ++ (s.lens.drop 10).take 4 ++ (s.lens.drop 14).take 4 = s.lens := by
  have hl := h.lens
  unfold six
  generalize s.lens = l at hl
  match l, hl with
  | [_, _, _, _, _, _, _, _, _, _, _, _, _, _, _, _, _, _], _ => rfl
theorem row6 (W : World) {l : List Ln} (h : l.length = 6) (base : Nat) (hb : base ≤ W.heap.size) : (W.alloc (.cells #[.int .i64 (lat l 0).k, .int .i64 (lat l 0).n, .int .i64 (lat l 1).k, .int .i64 (lat l 1).n, .int .i64 (lat l 2).k, .int .i64 (lat l 2).n, .int .i64 (lat l 3).k, .int .i64 (lat l 3).n, .int .i64 (lat l 4).k, .int .i64 (lat l 4).n, .int .i64 (lat l 5).k, .int .i64 (lat l 5).n] 35)).ownsRow base 35 2 (.slice (some ⟨W.heap.size, 0, none⟩) 6 6) 6 (flatL l) :=
  ⟨by rw [flatL_length, h], .inr ⟨W.heap.size, 6, _, rfl, hb, World.alloc_heap_new W _, Nat.le_refl _, by unfold maxLen; omega, rfl, by rw [list6 h]; rfl⟩⟩
set_option maxHeartbeats 8000000 in
theorem refLens_any (s : Sty) (hf : Full s) (w : World) : Calls Try.prog 30 #[sv s] w (RowL s.lens w) := by
  obtain ⟨i0, hi, hz0, hz1, hz2⟩ := info_parts info23
  have HF := Lib.hid hf
  clear hf
  obtain ⟨V, hV⟩ : ∃ V, V = w.alloc (.cells (stl s).toArray 39) := ⟨_, rfl⟩
  have HX : Hid (Hs V w.heap.size s) := by rw [hV]; exact hs_new w s
  have SV : Hid (Seen w V) := by rw [hV]; exact (Seen.refl w).alloc _
  have hVs : V.heap.size = w.heap.size + 1 := by rw [hV]; simp
  have HVs := Lib.hid hVs
  obtain ⟨W0, hW0⟩ : ∃ W0, W0 = V.alloc (.cells #[] 35) := ⟨_, rfl⟩
  have S0 : Hid (Seen V W0) := by rw [hW0]; exact (Seen.refl V).alloc _
  have R0 : Hid (W0.ownsRow V.heap.size 35 2 (.slice (some ⟨w.heap.size + 1, 0, none⟩) 0 0) 0 []) := by
    unfold Hid
    rw [hW0, ← hVs]
    exact World.ownsRow_made (base := V.heap.size) (e := 35) (size := 2) V #[] 0 (Nat.le_refl _) (Nat.zero_le _) rfl
  rw [hV] at hW0
  clear hV hVs
  unfold sv
  go_enter Try.func30, Try.ntmps30
  go_wp2_with (first
    | (at_builtin; rw [← hW0]; clear hW0; refine wpList_append_src _ rfl (.tmp 4) (.tmp 6) 64 rfl 35 i0 _ 2 16 Try.underlying64 hi hz0 hz1 hz2 rfl (by decide) V.heap.size (.slice (some ⟨w.heap.size + 1, 0, none⟩) 0 0) 0 [] rfl R0.out (.slice (some ⟨w.heap.size, 2, none⟩) 4 4) 4 (flatL ((s.lens.drop 0).take 4)) rfl (part_src HF.out (HX.out.seen S0.out) 0 (by omega)) (flatL_one _) (by unfold maxLen; omega) (by omega) S0.out.size ?_
       intro v1 w1 ho1 hg1 hat1
       have S1 : Hid (Seen V w1) := Below.grown S0.out hg1 S0.out.size (fun k hk => (R0.out.lt k hk).1)
       have O1 : Hid (w1.ownsRow V.heap.size 35 2 v1 4 (flatL ((s.lens.drop 0).take 4))) := ho1
       obtain ⟨c0, d0⟩ := (HX.out.seen S1.out).six HF.out (i := 0) (by omega)
       obtain ⟨c1, d1⟩ := (HX.out.seen S1.out).six HF.out (i := 1) (by omega)
       obtain ⟨c2, d2⟩ := (HX.out.seen S1.out).six HF.out (i := 2) (by omega)
       obtain ⟨c3, d3⟩ := (HX.out.seen S1.out).six HF.out (i := 3) (by omega)
       obtain ⟨c4, d4⟩ := (HX.out.seen S1.out).six HF.out (i := 4) (by omega)
       obtain ⟨c5, d5⟩ := (HX.out.seen S1.out).six HF.out (i := 5) (by omega)
       simp only [Nat.reduceAdd, Nat.reduceMul] at c0 d0 c1 d1 c2 d2 c3 d3 c4 d4 c5 d5
       clear ho1 hg1 hat1 R0 S0)
    | (at_builtin; refine wpList_append_rows _ rfl (.tmp 8) (.tmp 21) 64 rfl 35 i0 _ 2 16 Try.underlying64 hi hz0 hz1 hz2 rfl (by decide) V.heap.size V.heap.size v1 4 _ rfl (O1.out.alloc _) (.slice (some ⟨w1.heap.size, 0, none⟩) 6 6) 6 (flatL (six s)) rfl (row6 w1 (six_length HF.out) _ S1.out.size) (flatL_one _) (by unfold maxLen; omega) (by omega) (S1.out.alloc _).size ?_
       intro v2 w2 ho2 hg2 hat2
       have S2 : Hid (Seen V w2) := Below.grown (S1.out.alloc _) hg2 (S1.out.alloc _).size (fun k hk => (O1.out.lt k hk).1)
       have O2 : Hid (w2.ownsRow V.heap.size 35 2 v2 10 (flatL ((s.lens.drop 0).take 4) ++ flatL (six s))) := ho2
       clear ho2 hg2 hat2 O1 S1 c0 d0 c1 d1 c2 d2 c3 d3 c4 d4 c5 d5)
    | (at_builtin; refine wpList_append_src _ rfl (.tmp 23) (.tmp 25) 64 rfl 35 i0 _ 2 16 Try.underlying64 hi hz0 hz1 hz2 rfl (by decide) V.heap.size v2 10 _ rfl O2.out (.slice (some ⟨w.heap.size, 22, none⟩) 4 4) 4 (flatL ((s.lens.drop 10).take 4)) rfl (part_src HF.out (HX.out.seen S2.out) 10 (by omega)) (flatL_one _) (by unfold maxLen; omega) (by omega) S2.out.size ?_
       intro v3 w3 ho3 hg3 hat3
       have S3 : Hid (Seen V w3) := Below.grown S2.out hg3 S2.out.size (fun k hk => (O2.out.lt k hk).1)
       have O3 : Hid (w3.ownsRow V.heap.size 35 2 v3 14 (flatL ((s.lens.drop 0).take 4) ++ flatL (six s) ++ flatL ((s.lens.drop 10).take 4))) := ho3
       clear ho3 hg3 hat3 O2 S2)
    | (at_builtin; refine wpList_append_src _ rfl (.tmp 27) (.tmp 29) 64 rfl 35 i0 _ 2 16 Try.underlying64 hi hz0 hz1 hz2 rfl (by decide) V.heap.size v3 14 _ rfl O3.out (.slice (some ⟨w.heap.size, 30, none⟩) 4 4) 4 (flatL ((s.lens.drop 14).take 4)) rfl (part_src HF.out (HX.out.seen S3.out) 14 (by omega)) (flatL_one _) (by unfold maxLen; omega) (by omega) S3.out.size ?_
       intro v4 w4 ho4 hg4 hat4
       have S4 : Hid (Seen V w4) := Below.grown S3.out hg4 S3.out.size (fun k hk => (O3.out.lt k hk).1)
       have O4 : Hid (w4.ownsRow V.heap.size 35 2 v4 18 (flatL ((s.lens.drop 0).take 4) ++ flatL (six s) ++ flatL ((s.lens.drop 10).take 4) ++ flatL ((s.lens.drop 14).take 4))) := ho4
       clear ho4 hg4 hat4 O3 S3))
  go_ret
  have h4 := O4.out
  rw [← flatL_append, ← flatL_append, ← flatL_append, lens_parts HF.out, ← HF.out.lens] at h4
  exact ⟨⟨v4, rfl, row_more h4 SV.out.size⟩, SV.out.trans S4.out⟩
end Go.Proofs.Ytlnnaegmcopiiaa

/- Contracts of formedLen and Formed; no conditions beyond those written in each theorem. -/
namespace Go.Proofs.Ytlnnaegmcopiiaa
open Go.ChangeShapes Go.WideShapes Go.ChangeAt Go.RowKit
set_option maxRecDepth 100000
theorem flatL_cut {l : List Ln} {k : Nat} (h : k < l.length) : (flatL l).toArray.extract (k * 2) (k * 2 + 2) = #[.int .i64 (lat l k).k, .int .i64 (lat l k).n] := by
  have e : ((flatL l).drop (k * 2)).take 2 = [.int .i64 (lat l k).k, .int .i64 (lat l k).n] := by
    rw [flatL_drop, List.drop_eq_getElem_cons h, ← lat_eq h]; rfl
  rw [List.extract_toArray, List.extract_eq_take_drop, show k * 2 + 2 - k * 2 = 2 by omega, e]
/-- An array of lengths, by value, at k. -/
theorem index_len {t : TypeId} {m : Nat} (ht : Try.prog.underlying t = some (.array m 35)) {l : List Ln} (hl : l.length = m) {k : Nat} (hk : k < m) (w : World) :
    (Instr.index t (.agg (flatL l).toArray) (.int .i64 (k : Int))).run Try.prog w = .ok (.agg #[.int .i64 (lat l k).k, .int .i64 (lat l k).n]) w := by
  have h1 : (0 : Int) ≤ (k : Int) ∧ (k : Int) < (m : Int) := by omega
  unfold Instr.index
  simp only [asIntOf, Sem.run_bind, Sem.run_pure, Result.andThen_ok, run_underlying ht, h1, and_self, if_true, Int.toNat_natCast, Try.sizeOf35]
  unfold part
  simp only [Sem.run_bind, Try.isAgg35, Result.andThen_ok, if_true, Try.sizeOf35, Sem.run_pure]
  rw [flatL_cut (by omega)]
/-- What a row of lengths reads as. -/
theorem rowL_at {w : World} {base n : Nat} {v : Value} {l : List Ln} (h : w.ownsRow base 35 2 v n (flatL l)) (hl : l.length = n) (h0 : 0 < n) :
    ∃ g c, v = .slice (some ⟨g, 0, none⟩) n c ∧ base ≤ g ∧ ∀ i, i < n → ∀ w', Seen w w' → w'.cell? ⟨g, i * 2, none⟩ = some (.int .i64 (lat l i).k) ∧ w'.cell? ⟨g, i * 2 + 1, none⟩ = some (.int .i64 (lat l i).n) := by
  rcases h.2 with ⟨_, e⟩ | ⟨g, cap, cur, rfl, hb, _⟩
  · omega
  · refine ⟨g, cap, rfl, hb, fun i hi w' hs => ?_⟩
    have e := flatL_at (l := l) (i := i) (by omega)
    exact ⟨hs.cell ((h.cellAt (i * 2) (by omega)).trans e.1), hs.cell ((h.cellAt (i * 2 + 1) (by omega)).trans e.2)⟩
theorem formedLen_any (x : Ln) (w : World) : Calls Try.prog 49 #[.agg #[.int .i64 x.k, .int .i64 x.n]] w fun e w' => e = .returned (.bool (lnOk x)) ∧ Seen w w' := by
  have H : Hid (lnOk x = ((x.k == 0 && x.n == 0) || (x.k == 1 || x.k == 2))) := rfl
  cases h0 : (x.k == 0) <;> cases h1 : (x.k == 1) <;> cases h2 : (x.k == 2)
  all_goals
    go_enter Try.func49, Try.ntmps49
    go_wp2
    go_ret
    refine ⟨ret_bool ?_, by unfold Seen; go_grown⟩
    rw [H.out, h0, h1, h2]
    simp at h0 h1 h2
    first | omega | (simp; done) | simp [h0]
theorem formed_tail {s : Sty} (h1 : ∀ i, i < 18 → lnOk (lat s.lens i) = true) (h2 : ∀ i, i < 6 → 0 ≤ (lat s.lens (4 + i)).n) (h3 : ∀ i, i < 4 → (lat s.lens (14 + i)).k ≠ 0 ∧ 0 ≤ (lat s.lens (14 + i)).n) (h4 : ∀ i, i < 4 → 0 ≤ bat s.bord i) :
    formedB s = true ↔ (0 ≤ s.pos ∧ s.pos ≤ 3 ∧ 0 ≤ s.back ∧ 0 ≤ s.line ∧ (s.hasz = true ∨ s.z = 0)) := by
  unfold formedB
  rw [decide_eq_true_iff]
  exact ⟨fun h => h.2.2.2.2, fun h => ⟨h1, h2, h3, h4, h⟩⟩
theorem formed_not {s : Sty} (h : ¬ FormedP s) : false = formedB s := (decide_eq_false h).symm
theorem Hs.bord {w : World} {X : Nat} {s : Sty} (h : Hs w X s) (hf : Full s) {j : Nat} (hj : j < 4) : w.cell? ⟨X, 38 + j, none⟩ = some (.int .i64 (bat s.bord j)) := by rw [h.at]; exact stl_bord hf hj
theorem Hs.tail {w : World} {X : Nat} {s : Sty} (h : Hs w X s) (hf : Full s) : w.cell? ⟨X, 42, none⟩ = some (.bool s.rtl) ∧ w.cell? ⟨X, 43, none⟩ = some (.bool s.hasz) ∧ w.cell? ⟨X, 44, none⟩ = some (.int .i64 s.z) ∧ w.cell? ⟨X, 45, none⟩ = some (.bool s.clip) ∧ w.cell? ⟨X, 46, none⟩ = some (.int .i64 s.back) ∧ w.cell? ⟨X, 47, none⟩ = some (.int .i64 s.line) := by
  rw [h.at, h.at, h.at, h.at, h.at, h.at]
  exact ⟨stl_tail hf (j := 0), stl_tail hf (j := 1), stl_tail hf (j := 2), stl_tail hf (j := 3), stl_tail hf (j := 4), stl_tail hf (j := 5)⟩
theorem Hs.head {w : World} {X : Nat} {s : Sty} (h : Hs w X s) : w.cell? ⟨X, 0, none⟩ = some (.bool s.shown) ∧ w.cell? ⟨X, 1, none⟩ = some (.int .i64 s.pos) := by
  rw [h.at, h.at]; exact ⟨stl0 s, stl1 s⟩
set_option maxRecDepth 100000 in
set_option maxHeartbeats 8000000 in
theorem formed_any (s : Sty) (hf : Full s) (w : World) : Calls Try.prog 42 #[sv s] w fun e w' => e = .returned (.bool (formedB s)) ∧ Seen w w' := by
  have HF := Lib.hid hf
  clear hf
  obtain ⟨W0, hW0⟩ : ∃ W0, W0 = w.alloc (.cells (stl s).toArray 39) := ⟨_, rfl⟩
  have H0 : Hid (Hs W0 w.heap.size s) := by rw [hW0]; exact hs_new w s
  have S0 : Hid (Seen w W0) := by rw [hW0]; exact (Seen.refl w).alloc _
  have hX : w.heap.size < W0.heap.size := H0.out.lt
  unfold sv
  go_enter Try.func42, Try.ntmps42
  go_wp2_with (first
    | (rw [← hW0]; clear hW0; refine wpList_loadS rfl _ rfl w.heap.size s rfl HF.out H0.out ?_)
    | (go_at_call 48; refine (lengths_any s HF.out _).mono ?_; rintro _ w1 ⟨⟨v1, rfl, ho1⟩, hs1⟩; rw [HF.out.lens] at ho1; obtain ⟨g, c, rfl, hg, hcell⟩ := rowL_at ho1 HF.out.lens (by omega)
       have S1 := Lib.hid hs1
       have HC := Lib.hid hcell
       clear ho1 hs1 hcell hg))
  go_loopw [12] (fun i wr => ∃ k : Nat, k ≤ 18 ∧ i = .int .i64 k ∧ Seen w1 wr ∧ ∀ j, j < k → lnOk (lat s.lens j) = true) (fun i _ => 18 - (intOf i).toNat)
  case atStart => exact ⟨0, Nat.zero_le _, rfl, Seen.refl _, fun j hj => absurd hj (by omega)⟩
  case round =>
    obtain ⟨k, hk, rfl, hs, hall⟩ := hrel
    have HS := Lib.hid hs
    have HA := Lib.hid hall
    clear hs hall
    by_cases hlt : k < 18
    · have hk' : (k : Int) < 18 := by omega
      obtain ⟨c0, c1⟩ := HC.out k hlt wr HS.out
      rcases Bool.eq_false_or_eq_true (lnOk (lat s.lens k)) with hb | hb
      · go_wp2_with (go_at_call 49; refine (formedLen_any (lat s.lens k) _).mono ?_; rintro _ w2 ⟨rfl, hs2⟩; have S2 := Lib.hid hs2; clear hs2)
        refine ⟨⟨k + 1, hlt, by go_num, (HS.out.alloc _).trans S2.out, fun j hj => ?_⟩, by simp [intOf]; omega⟩
        rcases Nat.lt_or_ge j k with h | h
        · exact HA.out j h
        · obtain rfl : j = k := by omega
          exact hb
      · go_wp2_with (go_at_call 49; refine (formedLen_any (lat s.lens k) _).mono ?_; rintro _ w2 ⟨rfl, hs2⟩; have S2 := Lib.hid hs2; clear hs2)
        go_ret
        exact ⟨ret_bool (formed_not fun h => by rw [h.1 k hlt] at hb; cases hb), ((S0.out.trans S1.out).trans (HS.out.alloc _)).trans S2.out⟩
    · have hk' : ¬ (k : Int) < 18 := by omega
      obtain rfl : k = 18 := by omega
      have SX : Hid (Seen W0 wr) := S1.out.trans HS.out
      clear HC
      go_wp2_with (first
        | (refine wpList_loadS rfl _ rfl w.heap.size s rfl HF.out (H0.out.seen SX.out) ?_)
        | (go_at_call 50; refine (sizes_any s HF.out _).mono ?_; rintro _ w2 ⟨rfl, hs2⟩; have S2 : Hid (Seen W0 w2) := SX.out.trans hs2
           clear hs2))
      have hlx : Hid ((six s).length = 6) := six_length HF.out
      go_loopw [22] (fun i wr => ∃ k : Nat, k ≤ 6 ∧ i = .int .i64 k ∧ Seen W0 wr ∧ ∀ j, j < k → 0 ≤ (lat s.lens (4 + j)).n) (fun i _ => 6 - (intOf i).toNat)
      case atStart => exact ⟨0, Nat.zero_le _, rfl, S2.out, fun j hj => absurd hj (by omega)⟩
      case round =>
        obtain ⟨k, hk, rfl, hs, hall⟩ := hrel
        have HS := Lib.hid hs
        have HB := Lib.hid hall
        clear hs hall
        by_cases hlt : k < 6
        · have hk' : (k : Int) < 6 := by omega
          have hix := index_len Try.underlying77 hlx.out hlt
          have e6 := six_at s hlt
          rw [e6] at hix
          clear e6
          by_cases hb : (lat s.lens (4 + k)).n < 0
          · go_wp2_with fail
            go_ret
            exact ⟨ret_bool (formed_not fun h => by have := h.2.1 k hlt; omega), (S0.out.trans HS.out).alloc _⟩
          · go_wp2_with fail
            refine ⟨⟨k + 1, hlt, by go_num, HS.out.alloc _, fun j hj => ?_⟩, by simp [intOf]; omega⟩
            rcases Nat.lt_or_ge j k with h | h
            · exact HB.out j h
            · obtain rfl : j = k := by omega
              omega
        · have hk' : ¬ (k : Int) < 6 := by omega
          obtain rfl : k = 6 := by omega
          go_wp2_with (refine wpList_load4 rfl _ rfl w.heap.size 14 s rfl HF.out (by omega) (H0.out.seen HS.out) ?_)
          have hlp : Hid (((s.lens.drop 14).take 4).length = 4) := by unfold Hid; rw [List.length_take, List.length_drop, HF.out.lens]; omega
          go_loopw [31] (fun i wr => ∃ k : Nat, k ≤ 4 ∧ i = .int .i64 k ∧ Seen W0 wr ∧ ∀ j, j < k → ((lat s.lens (14 + j)).k ≠ 0 ∧ 0 ≤ (lat s.lens (14 + j)).n) ∧ 0 ≤ bat s.bord j) (fun i _ => 4 - (intOf i).toNat)
          case atStart => exact ⟨0, Nat.zero_le _, rfl, HS.out, fun j hj => absurd hj (by omega)⟩
          case round =>
            obtain ⟨k, hk, rfl, hs, hall⟩ := hrel
            have HS := Lib.hid hs
            have HP := Lib.hid hall
            clear hs hall
            have hXr : w.heap.size < wr.heap.size := Nat.lt_of_lt_of_le hX HS.out.size
            by_cases hlt : k < 4
            · have hk' : (k : Int) < 4 := by omega
              have hix := index_len Try.underlying36 hlp.out hlt
              have e4 : lat ((s.lens.drop 14).take 4) k = lat s.lens (14 + k) := by rw [lat_take hlt, lat_drop]
              rw [e4] at hix
              clear e4
              have cb := (H0.out.seen HS.out).bord HF.out hlt
              by_cases hgood : ((lat s.lens (14 + k)).k == 0) = false ∧ ¬ (lat s.lens (14 + k)).n < 0 ∧ ¬ bat s.bord k < 0
              · obtain ⟨h0, h1, h2⟩ := hgood
                go_wp2_with fail
                refine ⟨⟨k + 1, hlt, by go_num, HS.out.alloc _, fun j hj => ?_⟩, by simp [intOf]; omega⟩
                rcases Nat.lt_or_ge j k with h | h
                · exact HP.out j h
                · obtain rfl : j = k := by omega
                  simp at h0
                  exact ⟨⟨h0, by omega⟩, by omega⟩
              · have hbad : ¬ FormedP s := fun h => hgood ⟨by have := (h.2.2.1 k hlt).1; simpa using this, by have := (h.2.2.1 k hlt).2; omega, by have := h.2.2.2.1 k hlt; omega⟩
                have HBad := Lib.hid hbad
                have h3 : ((lat s.lens (14 + k)).k == 0) = true ∨ (((lat s.lens (14 + k)).k == 0) = false ∧ (lat s.lens (14 + k)).n < 0) ∨ (((lat s.lens (14 + k)).k == 0) = false ∧ ¬ (lat s.lens (14 + k)).n < 0 ∧ bat s.bord k < 0) := by
                  cases h0 : ((lat s.lens (14 + k)).k == 0)
                  · by_cases h1 : (lat s.lens (14 + k)).n < 0
                    · exact .inr (.inl ⟨rfl, h1⟩)
                    · exact .inr (.inr ⟨rfl, h1, by rw [h0] at hgood; by_cases h2 : bat s.bord k < 0; exact h2; exact absurd ⟨rfl, h1, h2⟩ hgood⟩)
                  · exact .inl rfl
                clear hgood hbad
                rcases h3 with h0 | ⟨h0, h1⟩ | ⟨h0, h1, h2⟩
                all_goals
                  go_wp2_with fail
                  go_ret
                  exact ⟨ret_bool (formed_not HBad.out), (S0.out.trans HS.out).alloc _⟩
            · have hk' : ¬ (k : Int) < 4 := by omega
              obtain rfl : k = 4 := by omega
              have HT : Hid (formedB s = true ↔ (0 ≤ s.pos ∧ s.pos ≤ 3 ∧ 0 ≤ s.back ∧ 0 ≤ s.line ∧ (s.hasz = true ∨ s.z = 0))) := formed_tail HA.out HB.out (fun i hi => (HP.out i hi).1) (fun i hi => (HP.out i hi).2)
              have hw := H0.out.seen HS.out
              obtain ⟨_, c43, c44, _, c46, c47⟩ := hw.tail HF.out
              obtain ⟨_, c1⟩ := hw.head
              clear hw
              cases hz : s.hasz
              all_goals
                rw [hz] at HT
                rw [hz] at c43
                go_wp2
              all_goals
                go_ret
                exact ⟨ret_bool (bool_iff (by rw [HT.out]; simp <;> omega)), S0.out.trans HS.out⟩
end Go.Proofs.Ytlnnaegmcopiiaa
