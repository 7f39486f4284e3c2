/- Texts of the proof, merged: FFrame. -/
import Derived.Test.YtngeaigkafamiaaGreatM13
namespace Go.Proofs.YtngeaigkafamiaaGreat
open Go.ChangeShapes Go.WideShapes Go.ChangeAt Go.RowKit
set_option maxRecDepth 100000
set_option maxHeartbeats 4000000 in
theorem frameOf_any (s : Sty) (hf : Full s) (c : Ct) (w : World) :
    Calls Tryz.prog 42 #[sv s, ctv c] w fun r w' => r = .returned (.tuple #[frv (frF s c), .bool (frB s c)]) ∧ Seen w w' := by
  have HV := Lib.hid (show frF s c = (if sdB s c then withO (fr0 s c) (acO s (fr0 s c) (sds (mg4 s) c.w) c) else zFr) ∧ frB s c = (sdB s c && acB s (fr0 s c) (sds (mg4 s) c.w) c) ∧ sdB s c = (sidesB (mg4 s) c.w && sidesB (pd4 s) c.w) ∧
    fr0 s c = ⟨0, 0, 0, 0, or4 (sds (mg4 s) c.w), or4 (sds (pd4 s) c.w), bd4 s, false, zeroC⟩ from ⟨rfl, rfl, rfl, rfl⟩)
  have HF := Lib.hid hf
  have AC := Lib.hid (fun w => acrossOf_any s hf (fr0 s c) (sds (mg4 s) c.w) c w)
  generalize frF s c = RF at HV ⊢
  generalize frB s c = RB at HV ⊢
  generalize sdB s c = G at HV
  generalize acO s (fr0 s c) (sds (mg4 s) c.w) c = O at HV AC
  generalize acB s (fr0 s c) (sds (mg4 s) c.w) c = B at HV AC
  generalize hF0 : fr0 s c = F0 at HV AC
  clear hF0
  obtain ⟨cw, ⟨cau, cn⟩, crtl⟩ := c
  simp only at HV AC
  have S1 := fun w => sides4 (mg4 s) cw w
  have S2 := fun w => sides4 (pd4 s) cw w
  obtain ⟨W, hW⟩ : ∃ W, W = ((w.alloc (.cells (stl s).toArray 66)).alloc (.cells #[.int .i64 cw, .bool cau, .int .i64 cn, .bool crtl] 82)).alloc (.cells #[.int .i64 0, .int .i64 0, .int .i64 0, .int .i64 0, .int .i64 0, .int .i64 0, .int .i64 0, .int .i64 0, .int .i64 0, .int .i64 0, .int .i64 0, .int .i64 0, .int .i64 0, .int .i64 0, .int .i64 0, .int .i64 0, .bool false, .int .i64 0, .int .i64 0, .int .i64 0, .int .i64 0, .int .i64 0, .int .i64 0, .bool false, .int .i64 0] 37) := ⟨_, rfl⟩
  have k0 : Blk W w.heap.size (stl s) 66 := by rw [hW]; exact ((Blk.new w _ _).alloc _).alloc _
  have k1 : Blk W (w.heap.size + 1) [.int .i64 cw, .bool cau, .int .i64 cn, .bool crtl] 82 := by rw [hW]; simpa using (Blk.new (w.alloc (.cells (stl s).toArray 66)) [.int .i64 cw, .bool cau, .int .i64 cn, .bool crtl] 82).alloc (.cells #[.int .i64 0, .int .i64 0, .int .i64 0, .int .i64 0, .int .i64 0, .int .i64 0, .int .i64 0, .int .i64 0, .int .i64 0, .int .i64 0, .int .i64 0, .int .i64 0, .int .i64 0, .int .i64 0, .int .i64 0, .int .i64 0, .bool false, .int .i64 0, .int .i64 0, .int .i64 0, .int .i64 0, .int .i64 0, .int .i64 0, .bool false, .int .i64 0] 37)
  have k2 : Blk W (w.heap.size + 1 + 1) (frl zFr) 37 := by rw [hW]; simpa using blk_zero ((w.alloc (.cells (stl s).toArray 66)).alloc (.cells #[.int .i64 cw, .bool cau, .int .i64 cn, .bool crtl] 82))
  have SW : Hid (Seen w W) := by rw [hW]; exact (((Seen.refl w).alloc _).alloc _).alloc _
  have hsz : Hid (W.heap.size = w.heap.size + 1 + 1 + 1) := by rw [hW]; simp [Hid]
  have r0 := k0.rules16 hf
  have r1 := k1.rules4
  have K0 := Lib.hid k0
  have K2 := Lib.hid k2
  clear k0 k1 k2 hf
  generalize hm : sds (mg4 s) cw = m at HV AC S1
  generalize hp : sds (pd4 s) cw = p at HV S2
  generalize sidesB (mg4 s) cw = g0 at HV S1
  generalize sidesB (pd4 s) cw = g1 at HV S2
  clear hm hp
  have sr := Seen.refl W
  have a0 := r0 W sr
  have a1 := r1 W sr
  obtain ⟨h1, h2, h3, h4⟩ := HV.out
  clear HV
  unfold sv
  go_enter Tryz.func42, Tryz.ntmps42
  go_upto_region 1 with fail
  rw [← hW]
  clear hW
  by_cases hg : G = true
  · subst hg
    have hh := h3.symm
    simp only [Bool.and_eq_true] at hh
    obtain ⟨rfl, rfl⟩ := hh
    simp only [if_true, Bool.true_and] at h1 h2
    subst h1 h2 h4
    clear h3
    go_upto_region 5 with (first
      | (go_at_call 65; refine (S1 _).mono ?_; clear S1; rintro r w2 ⟨rfl, hb⟩; have s2 : Seen W w2 := hb; clear hb a0 a1 sr
         obtain ⟨W2, hW2⟩ : ∃ W2, W2 = w2.alloc (.cells #[.bool m.a.au, .int .i64 m.a.n, .bool m.b.au, .int .i64 m.b.n, .bool m.c.au, .int .i64 m.c.n, .bool m.d.au, .int .i64 m.d.n] 156) := ⟨_, rfl⟩
         have k3 : Blk W2 w2.heap.size [.bool m.a.au, .int .i64 m.a.n, .bool m.b.au, .int .i64 m.b.n, .bool m.c.au, .int .i64 m.c.n, .bool m.d.au, .int .i64 m.d.n] 156 := by rw [hW2]; exact Blk.new w2 _ _
         have s3 : Seen W W2 := by rw [hW2]; exact s2.alloc _
         have a0 := fun o => r0 (w2.alloc o) (s2.alloc o)
         have a1 := fun o => r1 (w2.alloc o) (s2.alloc o)
         have K3 := Lib.hid k3
         clear k3)
      | (go_at_call 65; rw [← hW2]; clear hW2 a0 a1; refine (S2 _).mono ?_; clear S2; rintro r w4 ⟨rfl, hb⟩; have s4 : Seen W w4 := s3.trans hb; have t4 : Seen W2 w4 := hb; clear hb
         obtain ⟨W4, hW4⟩ : ∃ W4, W4 = w4.alloc (.cells #[.bool p.a.au, .int .i64 p.a.n, .bool p.b.au, .int .i64 p.b.n, .bool p.c.au, .int .i64 p.c.n, .bool p.d.au, .int .i64 p.d.n] 156) := ⟨_, rfl⟩
         have k4 : Blk W4 w4.heap.size [.bool p.a.au, .int .i64 p.a.n, .bool p.b.au, .int .i64 p.b.n, .bool p.c.au, .int .i64 p.c.n, .bool p.d.au, .int .i64 p.d.n] 156 := by rw [hW4]; exact Blk.new w4 _ _
         have s5 : Seen W W4 := by rw [hW4]; exact s4.alloc _
         have t5 : Seen W2 W4 := by rw [hW4]; exact t4.alloc _
         have K4 := Lib.hid k4
         have K5 := K2.out.seen s5
         have a0 := fun o => r0 (w4.alloc o) (s4.alloc o)
         clear k4))
    rw [← hW4]
    clear a0 hW4
    have a0 := r0 W4 s5
    go_upto_region 6 with (first
      | (refine wpList_buildFb rfl (.tmp 37) rfl (bd4 s) rfl ?_)
      | (refine wpList_storeF rfl (.tmp 10) (.tmp 38) rfl W4.heap.size zFr ⟨0, 0, 0, 0, zI4, zI4, bd4 s, false, zeroC⟩ rfl rfl (blk_zero W4) ?_; intro w5 b5 t6))
    have s6 := Lib.hid (Seen.fresh (Seen.refl W4) t6)
    rw [← frK_0 m p (bd4 s)] at b5
    have k5 := Lib.hid b5
    clear b5 t6
    go_wp2_with fail
    clear a0
    have KM := Lib.hid (K3.out.seen t5)
    have KR := Lib.hid K5
    have S5 := Lib.hid s5
    have h4w : Hid (W4.heap.size ≥ w.heap.size + 1 + 1 + 1) := by have := s5.size; have := hsz.out; unfold Hid; omega
    clear s2 s3 s4 t4 t5 s5 K5 K3
    go_loopw [39] (fun i wr => ∃ k : Int, i = .int .i64 k ∧ 0 ≤ k ∧ k ≤ 4 ∧ Blk wr W4.heap.size (frl (frK m p (bd4 s) k)) 37 ∧ Seen W4 wr) (fun i _ => 4 - (intOf i).toNat)
    case atStart => exact ⟨0, rfl, by omega, by omega, k5.out, s6.out⟩
    case round =>
      obtain ⟨k, rfl, hk0, hk4, hF, hs⟩ := hrel
      clear k5 s6
      rcases (show k = 0 ∨ k = 1 ∨ k = 2 ∨ k = 3 ∨ k = 4 by omega) with rfl | rfl | rfl | rfl | rfl
      · have acc := hs.drew
        have kF := hF.drew
        have q3 := KM.out
        have q4 := K4.out
        clear hs hF hk0 hk4
        go_wp2_with fail
        refine wp_region_held_drew (S := fun w' => Seen W4 w') (by kernel_rfl) acc (fun _ => ?_)
        refine ZT 0 (some 42) (.int .i64 0) acc ?_
        simp only [Z1,Z2,Z3,Z4]
        refine ZT 1 (some 43) (.int .i64 0) acc ?_
        simp only [Z1,Z2,Z3,Z4]
        refine ZT 2 (some 44) (.int .i64 0) acc ?_
        simp only [Z1,Z2,Z3,Z4]
        refine ZT 3 (some 45) (.pointer (some ⟨w2.heap.size, 0, none⟩)) acc ?_
        simp only [Z1,Z2,Z3,Z4]
        refine ZU 4 (some 46) (szv m.a) (fun _ hS => run_by (Instr.loadAt 24 (.pointer (some ⟨w2.heap.size, 0, none⟩))) (by kernel_rfl) (lda24 (vs := [.bool m.a.au, .int .i64 m.a.n]) ((q3.seen hS).mid 0 2) rfl)) acc ?_
        simp only [Z1,Z2,Z3,Z4]
        refine ZT 6 (some 48) (.int .i64 0) acc ?_
        simp only [Z1,Z2,Z3,Z4]
        refine ZT 7 (some 49) (.pointer (some ⟨w4.heap.size, 0, none⟩)) acc ?_
        simp only [Z1,Z2,Z3,Z4]
        refine ZU 8 (some 50) (szv p.a) (fun _ hS => run_by (Instr.loadAt 24 (.pointer (some ⟨w4.heap.size, 0, none⟩))) (by kernel_rfl) (lda24 (vs := [.bool p.a.au, .int .i64 p.a.n]) ((q4.seen hS).mid 0 2) rfl)) acc ?_
        simp only [Z1,Z2,Z3,Z4]
        refine ZT 10 (some 52) (.pointer (some ⟨W4.heap.size, 4, none⟩)) acc ?_
        simp only [Z1,Z2,Z3,Z4]
        refine ZT 13 (some 54) (.pointer (some ⟨W4.heap.size, 8, none⟩)) acc ?_
        simp only [Z1,Z2,Z3,Z4]
        refine ZC 5 (some 47) 40 #[szv m.a, .int .i64 0] ?_
        refine (or_any m.a 0 _).mono ?_
        rintro e wc1 ⟨rfl, hb⟩
        have acc1 : Seen W4 wc1 := Seen.next acc hb
        have kF1 := Blk.seen kF hb
        clear hb
        refine ⟨_, rfl, acc1, ?_⟩
        simp only [Z1,Z2,Z3,Z4]
        refine ZT 11 (some 53) (.pointer (some ⟨W4.heap.size, 4, none⟩)) acc1 ?_
        simp only [Z1,Z2,Z3,Z4]
        refine ZC 9 (some 51) 40 #[szv p.a, .int .i64 0] ?_
        refine (or_any p.a 0 _).mono ?_
        rintro e wc2 ⟨rfl, hb⟩
        have acc2 : Seen W4 wc2 := Seen.next acc1 hb
        have kF2 := Blk.seen kF1 hb
        clear hb
        refine ⟨_, rfl, acc2, ?_⟩
        simp only [Z1,Z2,Z3,Z4]
        refine ZK 12 none (run_skip_by (Instr.storeAt 2 (.pointer (some ⟨W4.heap.size, 4, none⟩)) (.int .i64 (orV m.a 0))) (by kernel_rfl) (st2 (orV m.a 0) kF2 rfl)) ((seen_set (o := 4) (v := .int .i64 (orV m.a 0)) acc2 (Nat.le_refl _))) ?_
        simp only [Act.put]
        refine ZT 14 (some 55) (.pointer (some ⟨W4.heap.size, 8, none⟩)) (seen_set (o := 4) (v := .int .i64 (orV m.a 0)) acc2 (Nat.le_refl _)) ?_
        simp only [Z1,Z2,Z3,Z4]
        refine ZK 15 none (run_skip_by (Instr.storeAt 2 (.pointer (some ⟨W4.heap.size, 8, none⟩)) (.int .i64 (orV p.a 0))) (by kernel_rfl) (st2 (orV p.a 0) (kF2.set 4 (.int .i64 (orV m.a 0))) rfl)) ((seen_set (o := 8) (v := .int .i64 (orV p.a 0)) (seen_set (o := 4) (v := .int .i64 (orV m.a 0)) acc2 (Nat.le_refl _)) (Nat.le_refl _))) ?_
        simp only [Act.put]
        refine wpAnyH_done (by kernel_rfl) ?_ _
        have z := ((kF2.set 4 (.int .i64 (orV m.a 0))).set 8 (.int .i64 (orV p.a 0)))
        rw [frK_1] at z
        have Z := Lib.hid z
        have AC2 := Lib.hid (seen_set (o := 8) (v := .int .i64 (orV p.a 0)) (seen_set (o := 4) (v := .int .i64 (orV m.a 0)) acc2 (Nat.le_refl _)) (Nat.le_refl _))
        clear z
        go_wp2_with fail
        go_roundw
        case rel => exact ⟨1, by go_num, by omega, by omega, Z.out, AC2.out⟩
        case measure => simp [intOf]
      · have acc := hs.drew
        have kF := hF.drew
        have q3 := KM.out
        have q4 := K4.out
        clear hs hF hk0 hk4
        go_wp2_with fail
        refine wp_region_held_drew (S := fun w' => Seen W4 w') (by kernel_rfl) acc (fun _ => ?_)
        refine ZT 0 (some 42) (.int .i64 1) acc ?_
        simp only [Z1,Z2,Z3,Z4]
        refine ZT 1 (some 43) (.int .i64 1) acc ?_
        simp only [Z1,Z2,Z3,Z4]
        refine ZT 2 (some 44) (.int .i64 1) acc ?_
        simp only [Z1,Z2,Z3,Z4]
        refine ZT 3 (some 45) (.pointer (some ⟨w2.heap.size, 2, none⟩)) acc ?_
        simp only [Z1,Z2,Z3,Z4]
        refine ZU 4 (some 46) (szv m.b) (fun _ hS => run_by (Instr.loadAt 24 (.pointer (some ⟨w2.heap.size, 2, none⟩))) (by kernel_rfl) (lda24 (vs := [.bool m.b.au, .int .i64 m.b.n]) ((q3.seen hS).mid 2 2) rfl)) acc ?_
        simp only [Z1,Z2,Z3,Z4]
        refine ZT 6 (some 48) (.int .i64 1) acc ?_
        simp only [Z1,Z2,Z3,Z4]
        refine ZT 7 (some 49) (.pointer (some ⟨w4.heap.size, 2, none⟩)) acc ?_
        simp only [Z1,Z2,Z3,Z4]
        refine ZU 8 (some 50) (szv p.b) (fun _ hS => run_by (Instr.loadAt 24 (.pointer (some ⟨w4.heap.size, 2, none⟩))) (by kernel_rfl) (lda24 (vs := [.bool p.b.au, .int .i64 p.b.n]) ((q4.seen hS).mid 2 2) rfl)) acc ?_
        simp only [Z1,Z2,Z3,Z4]
        refine ZT 10 (some 52) (.pointer (some ⟨W4.heap.size, 4, none⟩)) acc ?_
        simp only [Z1,Z2,Z3,Z4]
        refine ZT 13 (some 54) (.pointer (some ⟨W4.heap.size, 8, none⟩)) acc ?_
        simp only [Z1,Z2,Z3,Z4]
        refine ZC 5 (some 47) 40 #[szv m.b, .int .i64 0] ?_
        refine (or_any m.b 0 _).mono ?_
        rintro e wc1 ⟨rfl, hb⟩
        have acc1 : Seen W4 wc1 := Seen.next acc hb
        have kF1 := Blk.seen kF hb
        clear hb
        refine ⟨_, rfl, acc1, ?_⟩
        simp only [Z1,Z2,Z3,Z4]
        refine ZT 11 (some 53) (.pointer (some ⟨W4.heap.size, 5, none⟩)) acc1 ?_
        simp only [Z1,Z2,Z3,Z4]
        refine ZC 9 (some 51) 40 #[szv p.b, .int .i64 0] ?_
        refine (or_any p.b 0 _).mono ?_
        rintro e wc2 ⟨rfl, hb⟩
        have acc2 : Seen W4 wc2 := Seen.next acc1 hb
        have kF2 := Blk.seen kF1 hb
        clear hb
        refine ⟨_, rfl, acc2, ?_⟩
        simp only [Z1,Z2,Z3,Z4]
        refine ZK 12 none (run_skip_by (Instr.storeAt 2 (.pointer (some ⟨W4.heap.size, 5, none⟩)) (.int .i64 (orV m.b 0))) (by kernel_rfl) (st2 (orV m.b 0) kF2 rfl)) ((seen_set (o := 5) (v := .int .i64 (orV m.b 0)) acc2 (Nat.le_refl _))) ?_
        simp only [Act.put]
        refine ZT 14 (some 55) (.pointer (some ⟨W4.heap.size, 9, none⟩)) (seen_set (o := 5) (v := .int .i64 (orV m.b 0)) acc2 (Nat.le_refl _)) ?_
        simp only [Z1,Z2,Z3,Z4]
        refine ZK 15 none (run_skip_by (Instr.storeAt 2 (.pointer (some ⟨W4.heap.size, 9, none⟩)) (.int .i64 (orV p.b 0))) (by kernel_rfl) (st2 (orV p.b 0) (kF2.set 5 (.int .i64 (orV m.b 0))) rfl)) ((seen_set (o := 9) (v := .int .i64 (orV p.b 0)) (seen_set (o := 5) (v := .int .i64 (orV m.b 0)) acc2 (Nat.le_refl _)) (Nat.le_refl _))) ?_
        simp only [Act.put]
        refine wpAnyH_done (by kernel_rfl) ?_ _
        have z := ((kF2.set 5 (.int .i64 (orV m.b 0))).set 9 (.int .i64 (orV p.b 0)))
        rw [frK_2] at z
        have Z := Lib.hid z
        have AC2 := Lib.hid (seen_set (o := 9) (v := .int .i64 (orV p.b 0)) (seen_set (o := 5) (v := .int .i64 (orV m.b 0)) acc2 (Nat.le_refl _)) (Nat.le_refl _))
        clear z
        go_wp2_with fail
        go_roundw
        case rel => exact ⟨2, by go_num, by omega, by omega, Z.out, AC2.out⟩
        case measure => simp [intOf]
      · have acc := hs.drew
        have kF := hF.drew
        have q3 := KM.out
        have q4 := K4.out
        clear hs hF hk0 hk4
        go_wp2_with fail
        refine wp_region_held_drew (S := fun w' => Seen W4 w') (by kernel_rfl) acc (fun _ => ?_)
        refine ZT 0 (some 42) (.int .i64 2) acc ?_
        simp only [Z1,Z2,Z3,Z4]
        refine ZT 1 (some 43) (.int .i64 2) acc ?_
        simp only [Z1,Z2,Z3,Z4]
        refine ZT 2 (some 44) (.int .i64 2) acc ?_
        simp only [Z1,Z2,Z3,Z4]
        refine ZT 3 (some 45) (.pointer (some ⟨w2.heap.size, 4, none⟩)) acc ?_
        simp only [Z1,Z2,Z3,Z4]
        refine ZU 4 (some 46) (szv m.c) (fun _ hS => run_by (Instr.loadAt 24 (.pointer (some ⟨w2.heap.size, 4, none⟩))) (by kernel_rfl) (lda24 (vs := [.bool m.c.au, .int .i64 m.c.n]) ((q3.seen hS).mid 4 2) rfl)) acc ?_
        simp only [Z1,Z2,Z3,Z4]
        refine ZT 6 (some 48) (.int .i64 2) acc ?_
        simp only [Z1,Z2,Z3,Z4]
        refine ZT 7 (some 49) (.pointer (some ⟨w4.heap.size, 4, none⟩)) acc ?_
        simp only [Z1,Z2,Z3,Z4]
        refine ZU 8 (some 50) (szv p.c) (fun _ hS => run_by (Instr.loadAt 24 (.pointer (some ⟨w4.heap.size, 4, none⟩))) (by kernel_rfl) (lda24 (vs := [.bool p.c.au, .int .i64 p.c.n]) ((q4.seen hS).mid 4 2) rfl)) acc ?_
        simp only [Z1,Z2,Z3,Z4]
        refine ZT 10 (some 52) (.pointer (some ⟨W4.heap.size, 4, none⟩)) acc ?_
        simp only [Z1,Z2,Z3,Z4]
        refine ZT 13 (some 54) (.pointer (some ⟨W4.heap.size, 8, none⟩)) acc ?_
        simp only [Z1,Z2,Z3,Z4]
        refine ZC 5 (some 47) 40 #[szv m.c, .int .i64 0] ?_
        refine (or_any m.c 0 _).mono ?_
        rintro e wc1 ⟨rfl, hb⟩
        have acc1 : Seen W4 wc1 := Seen.next acc hb
        have kF1 := Blk.seen kF hb
        clear hb
        refine ⟨_, rfl, acc1, ?_⟩
        simp only [Z1,Z2,Z3,Z4]
        refine ZT 11 (some 53) (.pointer (some ⟨W4.heap.size, 6, none⟩)) acc1 ?_
        simp only [Z1,Z2,Z3,Z4]
        refine ZC 9 (some 51) 40 #[szv p.c, .int .i64 0] ?_
        refine (or_any p.c 0 _).mono ?_
        rintro e wc2 ⟨rfl, hb⟩
        have acc2 : Seen W4 wc2 := Seen.next acc1 hb
        have kF2 := Blk.seen kF1 hb
        clear hb
        refine ⟨_, rfl, acc2, ?_⟩
        simp only [Z1,Z2,Z3,Z4]
        refine ZK 12 none (run_skip_by (Instr.storeAt 2 (.pointer (some ⟨W4.heap.size, 6, none⟩)) (.int .i64 (orV m.c 0))) (by kernel_rfl) (st2 (orV m.c 0) kF2 rfl)) ((seen_set (o := 6) (v := .int .i64 (orV m.c 0)) acc2 (Nat.le_refl _))) ?_
        simp only [Act.put]
        refine ZT 14 (some 55) (.pointer (some ⟨W4.heap.size, 10, none⟩)) (seen_set (o := 6) (v := .int .i64 (orV m.c 0)) acc2 (Nat.le_refl _)) ?_
        simp only [Z1,Z2,Z3,Z4]
        refine ZK 15 none (run_skip_by (Instr.storeAt 2 (.pointer (some ⟨W4.heap.size, 10, none⟩)) (.int .i64 (orV p.c 0))) (by kernel_rfl) (st2 (orV p.c 0) (kF2.set 6 (.int .i64 (orV m.c 0))) rfl)) ((seen_set (o := 10) (v := .int .i64 (orV p.c 0)) (seen_set (o := 6) (v := .int .i64 (orV m.c 0)) acc2 (Nat.le_refl _)) (Nat.le_refl _))) ?_
        simp only [Act.put]
        refine wpAnyH_done (by kernel_rfl) ?_ _
        have z := ((kF2.set 6 (.int .i64 (orV m.c 0))).set 10 (.int .i64 (orV p.c 0)))
        rw [frK_3] at z
        have Z := Lib.hid z
        have AC2 := Lib.hid (seen_set (o := 10) (v := .int .i64 (orV p.c 0)) (seen_set (o := 6) (v := .int .i64 (orV m.c 0)) acc2 (Nat.le_refl _)) (Nat.le_refl _))
        clear z
        go_wp2_with fail
        go_roundw
        case rel => exact ⟨3, by go_num, by omega, by omega, Z.out, AC2.out⟩
        case measure => simp [intOf]
      · have acc := hs.drew
        have kF := hF.drew
        have q3 := KM.out
        have q4 := K4.out
        clear hs hF hk0 hk4
        go_wp2_with fail
        refine wp_region_held_drew (S := fun w' => Seen W4 w') (by kernel_rfl) acc (fun _ => ?_)
        refine ZT 0 (some 42) (.int .i64 3) acc ?_
        simp only [Z1,Z2,Z3,Z4]
        refine ZT 1 (some 43) (.int .i64 3) acc ?_
        simp only [Z1,Z2,Z3,Z4]
        refine ZT 2 (some 44) (.int .i64 3) acc ?_
        simp only [Z1,Z2,Z3,Z4]
        refine ZT 3 (some 45) (.pointer (some ⟨w2.heap.size, 6, none⟩)) acc ?_
        simp only [Z1,Z2,Z3,Z4]
        refine ZU 4 (some 46) (szv m.d) (fun _ hS => run_by (Instr.loadAt 24 (.pointer (some ⟨w2.heap.size, 6, none⟩))) (by kernel_rfl) (lda24 (vs := [.bool m.d.au, .int .i64 m.d.n]) ((q3.seen hS).mid 6 2) rfl)) acc ?_
        simp only [Z1,Z2,Z3,Z4]
        refine ZT 6 (some 48) (.int .i64 3) acc ?_
        simp only [Z1,Z2,Z3,Z4]
        refine ZT 7 (some 49) (.pointer (some ⟨w4.heap.size, 6, none⟩)) acc ?_
        simp only [Z1,Z2,Z3,Z4]
        refine ZU 8 (some 50) (szv p.d) (fun _ hS => run_by (Instr.loadAt 24 (.pointer (some ⟨w4.heap.size, 6, none⟩))) (by kernel_rfl) (lda24 (vs := [.bool p.d.au, .int .i64 p.d.n]) ((q4.seen hS).mid 6 2) rfl)) acc ?_
        simp only [Z1,Z2,Z3,Z4]
        refine ZT 10 (some 52) (.pointer (some ⟨W4.heap.size, 4, none⟩)) acc ?_
        simp only [Z1,Z2,Z3,Z4]
        refine ZT 13 (some 54) (.pointer (some ⟨W4.heap.size, 8, none⟩)) acc ?_
        simp only [Z1,Z2,Z3,Z4]
        refine ZC 5 (some 47) 40 #[szv m.d, .int .i64 0] ?_
        refine (or_any m.d 0 _).mono ?_
        rintro e wc1 ⟨rfl, hb⟩
        have acc1 : Seen W4 wc1 := Seen.next acc hb
        have kF1 := Blk.seen kF hb
        clear hb
        refine ⟨_, rfl, acc1, ?_⟩
        simp only [Z1,Z2,Z3,Z4]
        refine ZT 11 (some 53) (.pointer (some ⟨W4.heap.size, 7, none⟩)) acc1 ?_
        simp only [Z1,Z2,Z3,Z4]
        refine ZC 9 (some 51) 40 #[szv p.d, .int .i64 0] ?_
        refine (or_any p.d 0 _).mono ?_
        rintro e wc2 ⟨rfl, hb⟩
        have acc2 : Seen W4 wc2 := Seen.next acc1 hb
        have kF2 := Blk.seen kF1 hb
        clear hb
        refine ⟨_, rfl, acc2, ?_⟩
        simp only [Z1,Z2,Z3,Z4]
        refine ZK 12 none (run_skip_by (Instr.storeAt 2 (.pointer (some ⟨W4.heap.size, 7, none⟩)) (.int .i64 (orV m.d 0))) (by kernel_rfl) (st2 (orV m.d 0) kF2 rfl)) ((seen_set (o := 7) (v := .int .i64 (orV m.d 0)) acc2 (Nat.le_refl _))) ?_
        simp only [Act.put]
        refine ZT 14 (some 55) (.pointer (some ⟨W4.heap.size, 11, none⟩)) (seen_set (o := 7) (v := .int .i64 (orV m.d 0)) acc2 (Nat.le_refl _)) ?_
        simp only [Z1,Z2,Z3,Z4]
        refine ZK 15 none (run_skip_by (Instr.storeAt 2 (.pointer (some ⟨W4.heap.size, 11, none⟩)) (.int .i64 (orV p.d 0))) (by kernel_rfl) (st2 (orV p.d 0) (kF2.set 7 (.int .i64 (orV m.d 0))) rfl)) ((seen_set (o := 11) (v := .int .i64 (orV p.d 0)) (seen_set (o := 7) (v := .int .i64 (orV m.d 0)) acc2 (Nat.le_refl _)) (Nat.le_refl _))) ?_
        simp only [Act.put]
        refine wpAnyH_done (by kernel_rfl) ?_ _
        have z := ((kF2.set 7 (.int .i64 (orV m.d 0))).set 11 (.int .i64 (orV p.d 0)))
        rw [frK_4'] at z
        have Z := Lib.hid z
        have AC2 := Lib.hid (seen_set (o := 11) (v := .int .i64 (orV p.d 0)) (seen_set (o := 7) (v := .int .i64 (orV m.d 0)) acc2 (Nat.le_refl _)) (Nat.le_refl _))
        clear z
        go_wp2_with fail
        go_roundw
        case rel => exact ⟨4, by go_num, by omega, by omega, Z.out, AC2.out⟩
        case measure => simp [intOf]
      · have HFF := Lib.hid hF
        have HSS := Lib.hid hs
        rw [frK_4] at HFF
        clear hF hs hk0 hk4
        have b0 := Lib.hid (K0.out.seen (S5.out.trans HSS.out))
        have q1 := r1 wr (S5.out.trans HSS.out)
        have q3 := (KM.out.seen HSS.out).rules8 wr (Seen.refl wr)
        have kr := Lib.hid (KR.out.seen HSS.out)
        obtain ⟨ol, ow, orr⟩ := O
        go_wp2_with (first
          | (refine wpList_loadS rfl (.tmp 2) rfl w.heap.size s rfl HF.out b0.out ?_)
          | (refine wpList_loadF rfl (.tmp 10) rfl W4.heap.size 0 ⟨0, 0, 0, 0, or4 m, or4 p, bd4 s, false, zeroC⟩ rfl HFF.out.range ?_)
          | (go_at_call 66; refine (AC.out _).mono ?_; clear AC; rintro r w7 ⟨rfl, hb⟩; have s7 := Lib.hid (show Seen wr w7 from hb); clear hb))
        obtain ⟨W7, hW7⟩ : ∃ W7, W7 = w7.alloc (.cells #[.int .i64 ol, .int .i64 ow, .int .i64 orr] 159) := ⟨_, rfl⟩
        have ko : Blk W7 w7.heap.size [.int .i64 ol, .int .i64 ow, .int .i64 orr] 159 := by rw [hW7]; exact Blk.new w7 _ _
        have s8 : Seen wr W7 := by rw [hW7]; exact s7.out.alloc _
        have kF := HFF.out.seen s8
        have hlt : W4.heap.size < w7.heap.size := Nat.lt_of_lt_of_le HFF.out.lt s7.out.size
        rw [← hW7]
        clear hW7 q1 q3
        have hne : W4.heap.size ≠ w7.heap.size := by omega
        have kF := kF.drew
        have ko := ko.drew
        refine wp_region_held_drew (S := fun w' => Blk w' w7.heap.size [.int .i64 ol, .int .i64 ow, .int .i64 orr] 159) (by kernel_rfl) ko (fun _ => ?_)
        refine ZT 0 (some 65) (.pointer (some ⟨w7.heap.size, 0, none⟩)) ko ?_
        simp only [Z1,Z2,Z3,Z4]
        refine ZU 1 (some 66) (.int .i64 ol) (fun _ hS => run_by (Instr.loadAt 2 (.pointer (some ⟨w7.heap.size, 0, none⟩))) (by kernel_rfl) (ldc2 (hS.cell 0))) ko ?_
        simp only [Z1,Z2,Z3,Z4]
        refine ZT 2 (some 67) (.pointer (some ⟨w7.heap.size, 1, none⟩)) ko ?_
        simp only [Z1,Z2,Z3,Z4]
        refine ZU 3 (some 68) (.int .i64 ow) (fun _ hS => run_by (Instr.loadAt 2 (.pointer (some ⟨w7.heap.size, 1, none⟩))) (by kernel_rfl) (ldc2 (hS.cell 1))) ko ?_
        simp only [Z1,Z2,Z3,Z4]
        refine ZT 4 (some 69) (.pointer (some ⟨w7.heap.size, 0, none⟩)) ko ?_
        simp only [Z1,Z2,Z3,Z4]
        refine ZU 5 (some 70) (.int .i64 ol) (fun _ hS => run_by (Instr.loadAt 2 (.pointer (some ⟨w7.heap.size, 0, none⟩))) (by kernel_rfl) (ldc2 (hS.cell 0))) ko ?_
        simp only [Z1,Z2,Z3,Z4]
        refine ZT 6 (some 71) (.pointer (some ⟨w7.heap.size, 2, none⟩)) ko ?_
        simp only [Z1,Z2,Z3,Z4]
        refine ZU 7 (some 72) (.int .i64 orr) (fun _ hS => run_by (Instr.loadAt 2 (.pointer (some ⟨w7.heap.size, 2, none⟩))) (by kernel_rfl) (ldc2 (hS.cell 2))) ko ?_
        simp only [Z1,Z2,Z3,Z4]
        refine ZT 8 (some 73) (.pointer (some ⟨W4.heap.size, 0, none⟩)) ko ?_
        simp only [Z1,Z2,Z3,Z4]
        refine ZT 12 (some 75) (.pointer (some ⟨W4.heap.size, 4, none⟩)) ko ?_
        simp only [Z1,Z2,Z3,Z4]
        refine ZT 15 (some 77) (.pointer (some ⟨W4.heap.size, 4, none⟩)) ko ?_
        simp only [Z1,Z2,Z3,Z4]
        refine ZK 9 none (run_skip_by (Instr.storeAt 2 (.pointer (some ⟨W4.heap.size, 0, none⟩)) (.int .i64 ol)) (by kernel_rfl) (st2 ol kF rfl)) ((Blk.other ko hne _)) ?_
        simp only [Act.put]
        refine ZT 10 (some 74) (.pointer (some ⟨W4.heap.size, 2, none⟩)) (Blk.other ko hne _) ?_
        simp only [Z1,Z2,Z3,Z4]
        refine ZK 11 none (run_skip_by (Instr.storeAt 2 (.pointer (some ⟨W4.heap.size, 2, none⟩)) (.int .i64 ow)) (by kernel_rfl) (st2 ow (kF.set 0 (.int .i64 ol)) rfl)) ((Blk.other (Blk.other ko hne _) hne _)) ?_
        simp only [Act.put]
        refine ZT 13 (some 76) (.pointer (some ⟨W4.heap.size, 7, none⟩)) (Blk.other (Blk.other ko hne _) hne _) ?_
        simp only [Z1,Z2,Z3,Z4]
        refine ZK 14 none (run_skip_by (Instr.storeAt 2 (.pointer (some ⟨W4.heap.size, 7, none⟩)) (.int .i64 ol)) (by kernel_rfl) (st2 ol ((kF.set 0 (.int .i64 ol)).set 2 (.int .i64 ow)) rfl)) ((Blk.other (Blk.other (Blk.other ko hne _) hne _) hne _)) ?_
        simp only [Act.put]
        refine ZT 16 (some 78) (.pointer (some ⟨W4.heap.size, 5, none⟩)) (Blk.other (Blk.other (Blk.other ko hne _) hne _) hne _) ?_
        simp only [Z1,Z2,Z3,Z4]
        refine ZK 17 none (run_skip_by (Instr.storeAt 2 (.pointer (some ⟨W4.heap.size, 5, none⟩)) (.int .i64 orr)) (by kernel_rfl) (st2 orr (((kF.set 0 (.int .i64 ol)).set 2 (.int .i64 ow)).set 7 (.int .i64 ol)) rfl)) ((Blk.other (Blk.other (Blk.other (Blk.other ko hne _) hne _) hne _) hne _)) ?_
        simp only [Act.put]
        refine wpAnyH_done (by kernel_rfl) ?_ _
        have kV := (((kF.set 0 (.int .i64 ol)).set 2 (.int .i64 ow)).set 7 (.int .i64 ol)).set 5 (.int .i64 orr)
        have e7 := withO_set ⟨0, 0, 0, 0, or4 m, or4 p, bd4 s, false, zeroC⟩ ⟨ol, ow, orr⟩
        simp only at e7
        rw [e7] at kV
        have aV := Lib.hid (seen_set (o := 5) (v := .int .i64 orr) (seen_set (o := 7) (v := .int .i64 ol) (seen_set (o := 2) (v := .int .i64 ow) (seen_set (o := 0) (v := .int .i64 ol) (HSS.out.trans s8).drew (Nat.le_refl _)) (Nat.le_refl _)) (Nat.le_refl _)) (Nat.le_refl _))
        have KV := Lib.hid kV
        have kR := KR.out.seen aV.out
        clear kV e7
        go_wp2_with (first
          | (refine wpList_loadF rfl (.tmp 10) rfl W4.heap.size 0 (withO ⟨0, 0, 0, 0, or4 m, or4 p, bd4 s, false, zeroC⟩ ⟨ol, ow, orr⟩) rfl KV.out.range ?_)
          | (refine wpList_storeF rfl (.tmp 4) (.tmp 79) rfl (w.heap.size + 1 + 1) zFr (withO ⟨0, 0, 0, 0, or4 m, or4 p, bd4 s, false, zeroC⟩ ⟨ol, ow, orr⟩) rfl rfl kR ?_; clear kR; intro w8 b8 t8))
        refine bodyPost_ret (results_two rfl rfl rfl (run_loadF b8)) rfl ?_
        exact ⟨rfl, Seen.turns (SW.out.trans (S5.out.trans aV.out)) t8 (by omega)⟩
  · have hg' : G = false := by simpa using hg
    subst hg'
    simp only [Bool.false_eq_true, if_false, Bool.false_and] at h1 h2
    subst h1 h2
    have hh := Lib.hid (show (g0 && g1) = false ∧ True from ⟨h3.symm, trivial⟩)
    clear h3 h4 AC hg
    cases g0
    · go_wp2_with (first
        | (go_at_call 65; refine (S1 _).mono ?_; clear S1; rintro r w2 ⟨rfl, hb⟩; have s2 : Seen W w2 := hb; clear hb a0 a1 sr
           obtain ⟨W2, hW2⟩ : ∃ W2, W2 = w2.alloc (.cells #[.bool m.a.au, .int .i64 m.a.n, .bool m.b.au, .int .i64 m.b.n, .bool m.c.au, .int .i64 m.c.n, .bool m.d.au, .int .i64 m.d.n] 156) := ⟨_, rfl⟩
           have k3 : Blk W2 w2.heap.size [.bool m.a.au, .int .i64 m.a.n, .bool m.b.au, .int .i64 m.b.n, .bool m.c.au, .int .i64 m.c.n, .bool m.d.au, .int .i64 m.d.n] 156 := by rw [hW2]; exact Blk.new w2 _ _
           have s3 : Seen W W2 := by rw [hW2]; exact s2.alloc _
           have a0 := fun o => r0 (w2.alloc o) (s2.alloc o)
           have a1 := fun o => r1 (w2.alloc o) (s2.alloc o)
           have K3 := Lib.hid k3
           clear k3)
        | (go_at_call 65; rw [← hW2]; clear hW2 a0 a1; refine (S2 _).mono ?_; clear S2; rintro r w4 ⟨rfl, hb⟩; have s4 : Seen W w4 := s3.trans hb; have t4 : Seen W2 w4 := hb; clear hb
           obtain ⟨W4, hW4⟩ : ∃ W4, W4 = w4.alloc (.cells #[.bool p.a.au, .int .i64 p.a.n, .bool p.b.au, .int .i64 p.b.n, .bool p.c.au, .int .i64 p.c.n, .bool p.d.au, .int .i64 p.d.n] 156) := ⟨_, rfl⟩
           have k4 : Blk W4 w4.heap.size [.bool p.a.au, .int .i64 p.a.n, .bool p.b.au, .int .i64 p.b.n, .bool p.c.au, .int .i64 p.c.n, .bool p.d.au, .int .i64 p.d.n] 156 := by rw [hW4]; exact Blk.new w4 _ _
           have s5 : Seen W W4 := by rw [hW4]; exact s4.alloc _
           have t5 : Seen W2 W4 := by rw [hW4]; exact t4.alloc _
           have K4 := Lib.hid k4
           have K5 := K2.out.seen s5
           have a0 := fun o => r0 (w4.alloc o) (s4.alloc o)
           clear k4)
        | (refine wpList_buildF0 rfl rfl ?_)
        | (rw [← hW4]; refine wpList_storeF rfl (.tmp 4) (.tmp 35) rfl (w.heap.size + 1 + 1) zFr zFr rfl rfl K5 ?_; clear hW4 K5; intro w6 b6 t6))
      refine bodyPost_ret (results_two rfl rfl rfl (run_loadF b6)) rfl ?_
      exact ⟨rfl, Seen.turns (SW.out.trans s5) t6 (by omega)⟩
    · cases g1
      · go_wp2_with (first
          | (go_at_call 65; refine (S1 _).mono ?_; clear S1; rintro r w2 ⟨rfl, hb⟩; have s2 : Seen W w2 := hb; clear hb a0 a1 sr
             obtain ⟨W2, hW2⟩ : ∃ W2, W2 = w2.alloc (.cells #[.bool m.a.au, .int .i64 m.a.n, .bool m.b.au, .int .i64 m.b.n, .bool m.c.au, .int .i64 m.c.n, .bool m.d.au, .int .i64 m.d.n] 156) := ⟨_, rfl⟩
             have k3 : Blk W2 w2.heap.size [.bool m.a.au, .int .i64 m.a.n, .bool m.b.au, .int .i64 m.b.n, .bool m.c.au, .int .i64 m.c.n, .bool m.d.au, .int .i64 m.d.n] 156 := by rw [hW2]; exact Blk.new w2 _ _
             have s3 : Seen W W2 := by rw [hW2]; exact s2.alloc _
             have a0 := fun o => r0 (w2.alloc o) (s2.alloc o)
             have a1 := fun o => r1 (w2.alloc o) (s2.alloc o)
             have K3 := Lib.hid k3
             clear k3)
          | (go_at_call 65; rw [← hW2]; clear hW2 a0 a1; refine (S2 _).mono ?_; clear S2; rintro r w4 ⟨rfl, hb⟩; have s4 : Seen W w4 := s3.trans hb; have t4 : Seen W2 w4 := hb; clear hb
             obtain ⟨W4, hW4⟩ : ∃ W4, W4 = w4.alloc (.cells #[.bool p.a.au, .int .i64 p.a.n, .bool p.b.au, .int .i64 p.b.n, .bool p.c.au, .int .i64 p.c.n, .bool p.d.au, .int .i64 p.d.n] 156) := ⟨_, rfl⟩
             have k4 : Blk W4 w4.heap.size [.bool p.a.au, .int .i64 p.a.n, .bool p.b.au, .int .i64 p.b.n, .bool p.c.au, .int .i64 p.c.n, .bool p.d.au, .int .i64 p.d.n] 156 := by rw [hW4]; exact Blk.new w4 _ _
             have s5 : Seen W W4 := by rw [hW4]; exact s4.alloc _
             have t5 : Seen W2 W4 := by rw [hW4]; exact t4.alloc _
             have K4 := Lib.hid k4
             have K5 := K2.out.seen s5
             have a0 := fun o => r0 (w4.alloc o) (s4.alloc o)
             clear k4)
          | (refine wpList_buildF0 rfl rfl ?_)
          | (rw [← hW4]; refine wpList_storeF rfl (.tmp 4) (.tmp 35) rfl (w.heap.size + 1 + 1) zFr zFr rfl rfl K5 ?_; clear hW4 K5; intro w6 b6 t6))
        refine bodyPost_ret (results_two rfl rfl rfl (run_loadF b6)) rfl ?_
        exact ⟨rfl, Seen.turns (SW.out.trans s5) t6 (by omega)⟩
      · exact absurd hh.out.1 (by decide)
end Go.Proofs.YtngeaigkafamiaaGreat

