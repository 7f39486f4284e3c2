/- Texts of the proof, merged: FEnds, FAround, FHeights. -/
import Derived.Test.YteplmjgohnbpbaaM15
import Derived.Deep.DeepCutAuto
import Derived.Test.YteplmjgohnbpbaaM8
/- Contract of endsOf; no conditions. -/
namespace Go.Proofs.Yteplmjgohnbpbaa
open Go.ChangeShapes Go.WideShapes Go.ChangeAt Go.RowKit
set_option maxRecDepth 100000
theorem fr_i (f : Fr) : (frl f)[8]? = some (.int .i64 f.pd.a) ∧ (frl f)[9]? = some (.int .i64 f.pd.b) ∧ (frl f)[10]? = some (.int .i64 f.pd.c) ∧ (frl f)[11]? = some (.int .i64 f.pd.d) ∧ (frl f)[12]? = some (.int .i64 f.bd.a) ∧ (frl f)[13]? = some (.int .i64 f.bd.b) ∧ (frl f)[14]? = some (.int .i64 f.bd.c) ∧ (frl f)[15]? = some (.int .i64 f.bd.d) :=
  ⟨rfl, rfl, rfl, rfl, rfl, rfl, rfl, rfl⟩
set_option maxHeartbeats 1000000 in
theorem endsOf_any (f : Fr) (h : Hts) (ind : Bool) (w : World) :
    Calls Try.prog 42 #[frv f, htv h, .bool ind] w fun r w' => r = .returned (env (endE f h ind)) ∧ Seen w w' := by
  obtain ⟨⟨au, n⟩, lo, hi⟩ := h
  obtain ⟨p0, p1, p2, p3, b0, b1, b2, b3⟩ := fr_i f
  unfold frv
  cases ind
  · have HV := Lib.hid (show endE f ⟨⟨au, n⟩, lo, hi⟩ false = ⟨decide (f.bd.a = 0) && decide (f.pd.a = 0), (decide (f.bd.c = 0) && (decide (f.pd.c = 0) && decide (lo = 0))) && au, decide (f.bd.c = 0) && (decide (f.pd.c = 0) && decide (lo = 0))⟩ from rfl)
    rw [HV.out]
    clear HV
    obtain ⟨ba, hba⟩ : ∃ x, f.bd.a = x := ⟨_, rfl⟩
    obtain ⟨bc, hbc⟩ : ∃ x, f.bd.c = x := ⟨_, rfl⟩
    obtain ⟨pa, hpa⟩ : ∃ x, f.pd.a = x := ⟨_, rfl⟩
    obtain ⟨pc, hpc⟩ : ∃ x, f.pd.c = x := ⟨_, rfl⟩
    rw [hba, hbc, hpa, hpc]
    rw [hba] at b0
    rw [hbc] at b2
    rw [hpa] at p0
    rw [hpc] at p2
    clear hba hbc hpa hpc p1 p3 b1 b3
    by_cases h1 : bc = 0
    · by_cases h2 : pc = 0
      · by_cases h3 : lo = 0
        · by_cases h4 : ba = 0
          · by_cases h5 : pa = 0
            all_goals
              go_enter Try.func42, Try.ntmps42
              go_wp2_with fail
              go_returns
              exact ⟨by simp [h1, h2, h3, h4, h5], by unfold Seen; go_grown⟩
          · go_enter Try.func42, Try.ntmps42
            go_wp2_with fail
            go_returns
            exact ⟨by simp [h1, h2, h3, h4], by unfold Seen; go_grown⟩
        · by_cases h4 : ba = 0
          · by_cases h5 : pa = 0
            all_goals
              go_enter Try.func42, Try.ntmps42
              go_wp2_with fail
              go_returns
              exact ⟨by simp [h3, h4, h5], by unfold Seen; go_grown⟩
          · go_enter Try.func42, Try.ntmps42
            go_wp2_with fail
            go_returns
            exact ⟨by simp [h3, h4], by unfold Seen; go_grown⟩
      · by_cases h4 : ba = 0
        · by_cases h5 : pa = 0
          all_goals
            go_enter Try.func42, Try.ntmps42
            go_wp2_with fail
            go_returns
            exact ⟨by simp [h2, h4, h5], by unfold Seen; go_grown⟩
        · go_enter Try.func42, Try.ntmps42
          go_wp2_with fail
          go_returns
          exact ⟨by simp [h2, h4], by unfold Seen; go_grown⟩
    · by_cases h4 : ba = 0
      · by_cases h5 : pa = 0
        all_goals
          go_enter Try.func42, Try.ntmps42
          go_wp2_with fail
          go_returns
          exact ⟨by simp [h1, h4, h5], by unfold Seen; go_grown⟩
      · go_enter Try.func42, Try.ntmps42
        go_wp2_with fail
        go_returns
        exact ⟨by simp [h1, h4], by unfold Seen; go_grown⟩
  · have HV := Lib.hid (show endE f ⟨⟨au, n⟩, lo, hi⟩ true = zEn from rfl)
    rw [HV.out]
    clear HV
    go_enter Try.func42, Try.ntmps42
    go_wp2_with fail
    go_returns
    exact ⟨rfl, by unfold Seen; go_grown⟩
end Go.Proofs.Yteplmjgohnbpbaa

/- Contract of withAround; no conditions. -/
namespace Go.Proofs.Yteplmjgohnbpbaa
open Go.ChangeShapes Go.WideShapes Go.ChangeAt Go.RowKit
set_option maxRecDepth 100000
theorem zs_five (w : World) (a b c d e : Int) (t : TypeId) : ZI (w.alloc (.cells #[.int .i64 a, .int .i64 b, .int .i64 c, .int .i64 d, .int .i64 e] t)) (some ⟨w.heap.size, 0, none⟩) 5 [a, b, c, d, e] := by
  have k : Blk (w.alloc (.cells #[.int .i64 a, .int .i64 b, .int .i64 c, .int .i64 d, .int .i64 e] t)) w.heap.size [.int .i64 a, .int .i64 b, .int .i64 c, .int .i64 d, .int .i64 e] t := Blk.new w _ _
  refine ⟨rfl, fun _ => ⟨_, _, rfl, fun i hi => ?_⟩⟩
  rcases (show i = 0 ∨ i = 1 ∨ i = 2 ∨ i = 3 ∨ i = 4 by omega) with rfl | rfl | rfl | rfl | rfl
  · exact k.cell 0
  · exact k.cell 1
  · exact k.cell 2
  · exact k.cell 3
  · exact k.cell 4
set_option maxHeartbeats 1000000 in
theorem aroundL_any (f : Fr) (w : World) :
    Calls Try.prog 67 #[frv f, .int .i64 3, .int .i64 0, .int .i64 1] w fun r w' => r = .returned (.tuple #[.int .i64 (sumN (arL f)), .bool (sumB (arL f))]) ∧ Seen w w' := by
  obtain ⟨x0, x1, x2, x3, y0, y1, y2, y3⟩ := fr_i f
  obtain ⟨W, hW⟩ : ∃ W, W = w.alloc (.cells (frl f).toArray 47) := ⟨_, rfl⟩
  have k : Blk W w.heap.size (frl f) 47 := by rw [hW]; exact Blk.new w _ _
  have SW : Hid (Seen w W) := by rw [hW]; exact (Seen.refl w).alloc _
  have r0 := fun w' (h : Seen W w') => ((k.seen h).cell 15).trans y3
  have r1 := fun w' (h : Seen W w') => ((k.seen h).cell 11).trans x3
  have r2 := fun w' (h : Seen W w') => ((k.seen h).cell 9).trans x1
  have r3 := fun w' (h : Seen W w') => ((k.seen h).cell 13).trans y1
  clear x0 x1 x2 x3 y0 y1 y2 y3 k
  have HV := Lib.hid (show arL f = [f.bd.d, f.pd.d, 0, f.pd.b, f.bd.b] from rfl)
  rw [HV.out]
  clear HV
  generalize f.bd.d = g0 at r0 ⊢
  generalize f.pd.d = g1 at r1 ⊢
  generalize f.pd.b = g2 at r2 ⊢
  generalize f.bd.b = g3 at r3 ⊢
  have sr := Seen.refl W
  unfold frv
  go_enter Try.func67, Try.ntmps67
  go_upto_region 1 with fail
  rw [← hW]
  clear hW
  go_region_held3 (fun w' => Seen W w')
    (first | exact sr.drew | exact (sr.drew).alloc _ | exact s1)
    (first | (go_at_call 87; refine (sum_any _ _ _ [g0, g1, 0, g2, g3] _ (zs_five W.drew g0 g1 0 g2 g3 2) (by decide)).mono ?_; rintro r w' ⟨rfl, rfl⟩; have s1 : Seen W (W.drew.alloc (.cells #[.int .i64 g0, .int .i64 g1, .int .i64 0, .int .i64 g2, .int .i64 g3] 2)) := sr.drew.alloc _))
  go_wp2_with fail
  go_ret2
  exact ⟨rfl, SW.out.trans s1⟩
set_option maxHeartbeats 1000000 in
theorem aroundT_any (f : Fr) (n : Int) (w : World) :
    Calls Try.prog 67 #[frv f, .int .i64 0, .int .i64 n, .int .i64 2] w fun r w' => r = .returned (.tuple #[.int .i64 (sumN (arT f n)), .bool (sumB (arT f n))]) ∧ Seen w w' := by
  obtain ⟨x0, x1, x2, x3, y0, y1, y2, y3⟩ := fr_i f
  obtain ⟨W, hW⟩ : ∃ W, W = w.alloc (.cells (frl f).toArray 47) := ⟨_, rfl⟩
  have k : Blk W w.heap.size (frl f) 47 := by rw [hW]; exact Blk.new w _ _
  have SW : Hid (Seen w W) := by rw [hW]; exact (Seen.refl w).alloc _
  have r0 := fun w' (h : Seen W w') => ((k.seen h).cell 12).trans y0
  have r1 := fun w' (h : Seen W w') => ((k.seen h).cell 8).trans x0
  have r2 := fun w' (h : Seen W w') => ((k.seen h).cell 10).trans x2
  have r3 := fun w' (h : Seen W w') => ((k.seen h).cell 14).trans y2
  clear x0 x1 x2 x3 y0 y1 y2 y3 k
  have HV := Lib.hid (show arT f n = [f.bd.a, f.pd.a, n, f.pd.c, f.bd.c] from rfl)
  rw [HV.out]
  clear HV
  generalize f.bd.a = g0 at r0 ⊢
  generalize f.pd.a = g1 at r1 ⊢
  generalize f.pd.c = g2 at r2 ⊢
  generalize f.bd.c = g3 at r3 ⊢
  have sr := Seen.refl W
  unfold frv
  go_enter Try.func67, Try.ntmps67
  go_upto_region 1 with fail
  rw [← hW]
  clear hW
  go_region_held3 (fun w' => Seen W w')
    (first | exact sr.drew | exact (sr.drew).alloc _ | exact s1)
    (first | (go_at_call 87; refine (sum_any _ _ _ [g0, g1, n, g2, g3] _ (zs_five W.drew g0 g1 n g2 g3 2) (by decide)).mono ?_; rintro r w' ⟨rfl, rfl⟩; have s1 : Seen W (W.drew.alloc (.cells #[.int .i64 g0, .int .i64 g1, .int .i64 n, .int .i64 g2, .int .i64 g3] 2)) := sr.drew.alloc _))
  go_wp2_with fail
  go_ret2
  exact ⟨rfl, SW.out.trans s1⟩
end Go.Proofs.Yteplmjgohnbpbaa

/- Contract of heightsOf; no conditions. -/
namespace Go.Proofs.Yteplmjgohnbpbaa
open Go.ChangeShapes Go.WideShapes Go.ChangeAt Go.RowKit
set_option maxRecDepth 100000
set_option maxHeartbeats 2000000 in
theorem heightsOf_any (s : Sty) (hf : Full s) (h : Sz) (w : World) :
    Calls Try.prog 41 #[sv s, szv h] w fun r w' => r = .returned (.tuple #[htv (htsF s h), .bool (htsB s h)]) ∧ Seen w w' := by
  have HV := Lib.hid (show htsF s h = ⟨ofS (lat s.lens 5).k (lat s.lens 5).n h.n (!h.au), ofOrV (lat s.lens 8).k (lat s.lens 8).n h.n (!h.au) 0, ofOrV (lat s.lens 9).k (lat s.lens 9).n h.n (!h.au) 1125899906842624⟩ ∧
    htsB s h = (ofB (lat s.lens 5).k (lat s.lens 5).n h.n (!h.au) && (ofB (lat s.lens 8).k (lat s.lens 8).n h.n (!h.au) && ofB (lat s.lens 9).k (lat s.lens 9).n h.n (!h.au))) from ⟨rfl, rfl⟩)
  rw [HV.out.1, HV.out.2]
  clear HV
  obtain ⟨au, n⟩ := h
  simp only
  obtain ⟨a0, b0⟩ := stl_len hf (i := 5) (by omega)
  obtain ⟨a1, b1⟩ := stl_len hf (i := 8) (by omega)
  obtain ⟨a2, b2⟩ := stl_len hf (i := 9) (by omega)
  simp only [Nat.reduceAdd, Nat.reduceMul] at a0 b0 a1 b1 a2 b2
  obtain ⟨W, hW⟩ : ∃ W, W = ((w.alloc (.cells (stl s).toArray 39)).alloc (.cells #[.bool au, .int .i64 n] 24)).alloc (.cells #[.bool false, .int .i64 0, .int .i64 0, .int .i64 0] 103) := ⟨_, rfl⟩
  have k0 : Blk W w.heap.size (stl s) 39 := by rw [hW]; exact ((Blk.new w _ _).alloc _).alloc _
  have k1 : Blk W (w.heap.size + 1) [.bool au, .int .i64 n] 24 := by rw [hW]; simpa using (Blk.new (w.alloc (.cells (stl s).toArray 39)) [.bool au, .int .i64 n] 24).alloc (.cells #[.bool false, .int .i64 0, .int .i64 0, .int .i64 0] 103)
  have k2 : Blk W (w.heap.size + 1 + 1) [.bool false, .int .i64 0, .int .i64 0, .int .i64 0] 103 := by rw [hW]; simpa using Blk.new ((w.alloc (.cells (stl s).toArray 39)).alloc (.cells #[.bool au, .int .i64 n] 24)) [.bool false, .int .i64 0, .int .i64 0, .int .i64 0] 103
  have SW : Hid (Seen w W) := by rw [hW]; exact (((Seen.refl w).alloc _).alloc _).alloc _
  have q0 := fun w' (h : Seen W w') => ((k0.seen h).cell 12).trans a0
  have q1 := fun w' (h : Seen W w') => ((k0.seen h).cell 13).trans b0
  have q2 := fun w' (h : Seen W w') => ((k0.seen h).cell 18).trans a1
  have q3 := fun w' (h : Seen W w') => ((k0.seen h).cell 19).trans b1
  have q4 := fun w' (h : Seen W w') => ((k0.seen h).cell 20).trans a2
  have q5 := fun w' (h : Seen W w') => ((k0.seen h).cell 21).trans b2
  have q6 := k1.rules2
  have K2 := Lib.hid k2
  have hsz : Hid (W.heap.size = w.heap.size + 1 + 1 + 1) := by rw [hW]; simp [Hid]
  clear a0 b0 a1 b1 a2 b2 k0 k1 k2
  generalize (lat s.lens 5).k = x0 at q0 ⊢
  generalize (lat s.lens 5).n = x1 at q1 ⊢
  generalize (lat s.lens 8).k = x2 at q2 ⊢
  generalize (lat s.lens 8).n = x3 at q3 ⊢
  generalize (lat s.lens 9).k = x4 at q4 ⊢
  generalize (lat s.lens 9).n = x5 at q5 ⊢
  have C0 := fun w => of_any x0 x1 n (!au) w
  have C1 := fun w => least_any x2 x3 n (!au) w
  have C2 := fun w => most_any x4 x5 n (!au) w
  generalize ofS x0 x1 n (!au) = r0 at C0 ⊢
  generalize ofB x0 x1 n (!au) = g0 at C0 ⊢
  generalize ofOrV x2 x3 n (!au) 0 = r1 at C1 ⊢
  generalize ofB x2 x3 n (!au) = g1 at C1 ⊢
  generalize ofOrV x4 x5 n (!au) 1125899906842624 = r2 at C2 ⊢
  generalize ofB x4 x5 n (!au) = g2 at C2 ⊢
  have sr := Seen.refl W
  obtain ⟨ra, rn⟩ := r0
  unfold sv
  cases g0 <;> cases g1 <;> cases g2
  all_goals
    go_enter Try.func41, Try.ntmps41
    go_upto_region 1 with fail
    rw [← hW]
    clear hW
    go_wp2_with (first
      | (go_at_call 63; refine (C0 _).mono ?_; clear C0; rintro r w2 ⟨rfl, hb⟩; replace sr : Seen W w2 := hb; clear hb
         obtain ⟨W2, hW2⟩ : ∃ W2, W2 = w2.alloc (.cells #[.bool ra, .int .i64 rn] 24) := ⟨_, rfl⟩
         have k3 : Blk W2 w2.heap.size [.bool ra, .int .i64 rn] 24 := by rw [hW2]; exact Blk.new w2 _ _
         have q7 := k3.rules2
         have s2 : Seen W W2 := by rw [hW2]; exact sr.alloc _
         have p2 := fun o => q2 (w2.alloc o) (sr.alloc o)
         have p3 := fun o => q3 (w2.alloc o) (sr.alloc o)
         have p6 := fun o => q6 (w2.alloc o) (sr.alloc o)
         clear k3)
      | (go_at_call 64; rw [← hW2]; clear hW2; refine (C1 _).mono ?_; clear C1; rintro r w3 ⟨rfl, hb⟩; have s3 : Seen W w3 := s2.trans hb; have t3 : Seen W2 w3 := hb; clear hb)
      | (go_at_call 65; refine (C2 _).mono ?_; clear C2; rintro r w4 ⟨rfl, hb⟩; have s4 : Seen W w4 := s3.trans hb; have t4 : Seen W2 w4 := t3.trans hb; clear hb; have K4 := K2.out.seen s4; have q8 := K4.rules4 w4 (Seen.refl w4)))
    have z := (((K4.set 0 (.bool ra)).set 1 (.int .i64 rn)).set 2 (.int .i64 r1)).set 3 (.int .i64 r2)
    have z0 := z.cell 0
    have z1 := z.cell 1
    have z2 := z.cell 2
    have z3 := z.cell 3
    refine bodyPost_ret (by simp [results, Try.results41, go_sem, z0, z1, z2, z3]; try rfl) rfl ?_
    exact ⟨rfl, Below.setCell (Below.setCell (Below.setCell (Below.setCell (SW.out.trans s4) (by dsimp only; omega) _) (by dsimp only; omega) _) (by dsimp only; omega) _) (by dsimp only; omega) _⟩
end Go.Proofs.Yteplmjgohnbpbaa
