/- Texts of the proof, merged: FHeights. -/
import Derived.Test.YtngeaigkafamiaaGreatM7
import Derived.Test.YtngeaigkafamiaaGreatM4
import Derived.Deep.DeepCutAuto
namespace Go.Proofs.YtngeaigkafamiaaGreat
open Go.ChangeShapes Go.WideShapes Go.ChangeAt Go.RowKit
set_option maxRecDepth 100000
set_option maxHeartbeats 2000000 in
theorem heightsOf_any (s : Sty) (hf : Full s) (h : Sz) (w : World) :
    Calls Tryz.prog 43 #[sv s, szv h] w fun r w' => r = .returned (.tuple #[htv (htsF s h), .bool (htsB s h)]) ∧ Seen w w' := by
  have HV := Lib.hid (show htsF s h = ⟨ofS (lat s.lens 5).k (lat s.lens 5).n h.n (!h.au), ofOrV (lat s.lens 8).k (lat s.lens 8).n h.n (!h.au) 0, ofOrV (lat s.lens 9).k (lat s.lens 9).n h.n (!h.au) 1125899906842624⟩ ∧
    htsB s h = (ofB (lat s.lens 5).k (lat s.lens 5).n h.n (!h.au) && (ofB (lat s.lens 8).k (lat s.lens 8).n h.n (!h.au) && ofB (lat s.lens 9).k (lat s.lens 9).n h.n (!h.au))) from ⟨rfl, rfl⟩)
  rw [HV.out.1, HV.out.2]
  clear HV
  obtain ⟨au, n⟩ := h
  simp only
  obtain ⟨a0, b0⟩ := stl_len hf (i := 5) (by omega)
  obtain ⟨a1, b1⟩ := stl_len hf (i := 8) (by omega)
  obtain ⟨a2, b2⟩ := stl_len hf (i := 9) (by omega)
  simp only [Nat.reduceAdd, Nat.reduceMul] at a0 b0 a1 b1 a2 b2
  obtain ⟨W, hW⟩ : ∃ W, W = ((w.alloc (.cells (stl s).toArray 66)).alloc (.cells #[.bool au, .int .i64 n] 24)).alloc (.cells #[.bool false, .int .i64 0, .int .i64 0, .int .i64 0] 127) := ⟨_, rfl⟩
  have k0 : Blk W w.heap.size (stl s) 66 := by rw [hW]; exact ((Blk.new w _ _).alloc _).alloc _
  have k1 : Blk W (w.heap.size + 1) [.bool au, .int .i64 n] 24 := by rw [hW]; simpa using (Blk.new (w.alloc (.cells (stl s).toArray 66)) [.bool au, .int .i64 n] 24).alloc (.cells #[.bool false, .int .i64 0, .int .i64 0, .int .i64 0] 127)
  have k2 : Blk W (w.heap.size + 1 + 1) [.bool false, .int .i64 0, .int .i64 0, .int .i64 0] 127 := by rw [hW]; simpa using Blk.new ((w.alloc (.cells (stl s).toArray 66)).alloc (.cells #[.bool au, .int .i64 n] 24)) [.bool false, .int .i64 0, .int .i64 0, .int .i64 0] 127
  have SW : Hid (Seen w W) := by rw [hW]; exact (((Seen.refl w).alloc _).alloc _).alloc _
  have q0 := fun w' (h : Seen W w') => ((k0.seen h).cell 12).trans a0
  have q1 := fun w' (h : Seen W w') => ((k0.seen h).cell 13).trans b0
  have q2 := fun w' (h : Seen W w') => ((k0.seen h).cell 18).trans a1
  have q3 := fun w' (h : Seen W w') => ((k0.seen h).cell 19).trans b1
  have q4 := fun w' (h : Seen W w') => ((k0.seen h).cell 20).trans a2
  have q5 := fun w' (h : Seen W w') => ((k0.seen h).cell 21).trans b2
  have q6 := k1.rules2
  have K2 := Lib.hid k2
  have hsz : Hid (W.heap.size = w.heap.size + 1 + 1 + 1) := by rw [hW]; simp [Hid]
  clear a0 b0 a1 b1 a2 b2 k0 k1 k2
  generalize (lat s.lens 5).k = x0 at q0 ⊢
  generalize (lat s.lens 5).n = x1 at q1 ⊢
  generalize (lat s.lens 8).k = x2 at q2 ⊢
  generalize (lat s.lens 8).n = x3 at q3 ⊢
  generalize (lat s.lens 9).k = x4 at q4 ⊢
  generalize (lat s.lens 9).n = x5 at q5 ⊢
  have C0 := fun w => of_any x0 x1 n (!au) w
  have C1 := fun w => least_any x2 x3 n (!au) w
  have C2 := fun w => most_any x4 x5 n (!au) w
  generalize ofS x0 x1 n (!au) = r0 at C0 ⊢
  generalize ofB x0 x1 n (!au) = g0 at C0 ⊢
  generalize ofOrV x2 x3 n (!au) 0 = r1 at C1 ⊢
  generalize ofB x2 x3 n (!au) = g1 at C1 ⊢
  generalize ofOrV x4 x5 n (!au) 1125899906842624 = r2 at C2 ⊢
  generalize ofB x4 x5 n (!au) = g2 at C2 ⊢
  have sr := Seen.refl W
  obtain ⟨ra, rn⟩ := r0
  unfold sv
  cases g0 <;> cases g1 <;> cases g2
  all_goals
    go_enter Tryz.func43, Tryz.ntmps43
    go_upto_region 1 with fail
    rw [← hW]
    clear hW
    go_wp2_with (first
      | (go_at_call 67; refine (C0 _).mono ?_; clear C0; rintro r w2 ⟨rfl, hb⟩; replace sr : Seen W w2 := hb; clear hb
         obtain ⟨W2, hW2⟩ : ∃ W2, W2 = w2.alloc (.cells #[.bool ra, .int .i64 rn] 24) := ⟨_, rfl⟩
         have k3 : Blk W2 w2.heap.size [.bool ra, .int .i64 rn] 24 := by rw [hW2]; exact Blk.new w2 _ _
         have q7 := k3.rules2
         have s2 : Seen W W2 := by rw [hW2]; exact sr.alloc _
         have p2 := fun o => q2 (w2.alloc o) (sr.alloc o)
         have p3 := fun o => q3 (w2.alloc o) (sr.alloc o)
         have p6 := fun o => q6 (w2.alloc o) (sr.alloc o)
         clear k3)
      | (go_at_call 68; rw [← hW2]; clear hW2; refine (C1 _).mono ?_; clear C1; rintro r w3 ⟨rfl, hb⟩; have s3 : Seen W w3 := s2.trans hb; have t3 : Seen W2 w3 := hb; clear hb)
      | (go_at_call 69; refine (C2 _).mono ?_; clear C2; rintro r w4 ⟨rfl, hb⟩; have s4 : Seen W w4 := s3.trans hb; have t4 : Seen W2 w4 := t3.trans hb; clear hb; have K4 := K2.out.seen s4; have q8 := K4.rules4 w4 (Seen.refl w4)))
    have z := (((K4.set 0 (.bool ra)).set 1 (.int .i64 rn)).set 2 (.int .i64 r1)).set 3 (.int .i64 r2)
    have z0 := z.cell 0
    have z1 := z.cell 1
    have z2 := z.cell 2
    have z3 := z.cell 3
    refine bodyPost_ret (by simp [results, Tryz.results43, go_sem, z0, z1, z2, z3]; try rfl) rfl ?_
    exact ⟨rfl, Below.setCell (Below.setCell (Below.setCell (Below.setCell (SW.out.trans s4) (by dsimp only; omega) _) (by dsimp only; omega) _) (by dsimp only; omega) _) (by dsimp only; omega) _⟩
end Go.Proofs.YtngeaigkafamiaaGreat

