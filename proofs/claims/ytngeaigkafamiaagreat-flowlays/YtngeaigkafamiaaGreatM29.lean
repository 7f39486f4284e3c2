/- Texts of the proof, merged: FChild. -/
import Derived.Test.YtngeaigkafamiaaGreatM15
namespace Go.Proofs.YtngeaigkafamiaaGreat
open Go.ChangeShapes Go.WideShapes Go.ChangeAt Go.RowKit
set_option maxRecDepth 100000
set_option maxHeartbeats 4000000 in
theorem childOf_any (f : Fr) (a : Option Addr) (c : Nat) (p : Pi) (e : En) (h : Hts) (w : World) :
    Calls Tryz.prog 49 #[frv f, piv (.slice a p.y.length c) p, env e, htv h] w fun r w' => r = .returned (.tuple #[chv (chO f p e h), .bool (chB f)]) ∧ Seen w w' := by
  have TA := Lib.hid (fun w => stOf_any f.mg.a w)
  have BA := Lib.hid (fun w => stOf_any f.mg.c w)
  have XA := Lib.hid (fun w => through_any a c p e h w)
  have AR := Lib.hid (fun w => aroundT_any f f.h w)
  have HV := Lib.hid (show chO f p e h = ⟨if thrB p e h then joinS (joinS (ofM f.mg.a) p.top) (ofM f.mg.c) else joinS (ofM f.mg.a) p.top,
     if thrB p e h then joinS (joinS (ofM f.mg.a) p.top) (ofM f.mg.c) else if e.bot then joinS (ofM f.mg.c) p.cur else ofM f.mg.c,
     joinS (ofM f.mg.a) p.top, thrB p e h, sumN (arT f f.h)⟩ ∧ chB f = sumB (arT f f.h) from ⟨rfl, rfl⟩)
  generalize chO f p e h = RC at HV ⊢
  generalize chB f = RB at HV ⊢
  generalize thrB p e h = t at HV XA
  generalize sumN (arT f f.h) = x at HV AR
  generalize sumB (arT f f.h) = yb at HV AR
  obtain ⟨y, ed, ⟨tp, tn⟩, ⟨up, un⟩, att⟩ := p
  obtain ⟨top, bot, flat⟩ := e
  obtain ⟨⟨au, n⟩, lo, hi⟩ := h
  simp only at HV
  have JA := Lib.hid (fun w => join_any (ofM f.mg.a) ⟨tp, tn⟩ w)
  have KA := Lib.hid (fun w => join_any (joinS (ofM f.mg.a) ⟨tp, tn⟩) (ofM f.mg.c) w)
  have MA := Lib.hid (fun w => join_any (ofM f.mg.c) ⟨up, un⟩ w)
  generalize joinS (joinS (ofM f.mg.a) ⟨tp, tn⟩) (ofM f.mg.c) = K at HV KA
  generalize joinS (ofM f.mg.a) ⟨tp, tn⟩ = J at HV JA KA
  generalize joinS (ofM f.mg.c) ⟨up, un⟩ = M at HV MA
  generalize ofM f.mg.a = T at HV TA JA
  generalize ofM f.mg.c = B at HV BA KA MA
  obtain ⟨W, hW⟩ : ∃ W, W = (((((w.alloc (.cells (frl f).toArray 37)).alloc (.cells #[.slice a y.length c, .int .i64 ed, .int .i64 tp, .int .i64 tn, .int .i64 up, .int .i64 un, .bool att] 41)).alloc (.cells #[.bool top, .bool bot, .bool flat] 131)).alloc (.cells #[.bool au, .int .i64 n, .int .i64 lo, .int .i64 hi] 127)).alloc (.cells #[.int .i64 0, .int .i64 0, .int .i64 0, .int .i64 0, .int .i64 0, .int .i64 0, .bool false, .int .i64 0] 35)) := ⟨_, rfl⟩
  have k0 : Blk W (w.heap.size) (frl f) 37 := by rw [hW]; exact ((((Blk.new w (frl f) 37).alloc (.cells #[.slice a y.length c, .int .i64 ed, .int .i64 tp, .int .i64 tn, .int .i64 up, .int .i64 un, .bool att] 41)).alloc (.cells #[.bool top, .bool bot, .bool flat] 131)).alloc (.cells #[.bool au, .int .i64 n, .int .i64 lo, .int .i64 hi] 127)).alloc (.cells #[.int .i64 0, .int .i64 0, .int .i64 0, .int .i64 0, .int .i64 0, .int .i64 0, .bool false, .int .i64 0] 35)
  have k1 : Blk W (w.heap.size + 1) [.slice a y.length c, .int .i64 ed, .int .i64 tp, .int .i64 tn, .int .i64 up, .int .i64 un, .bool att] 41 := by rw [hW]; simpa using (((Blk.new (w.alloc (.cells (frl f).toArray 37)) [.slice a y.length c, .int .i64 ed, .int .i64 tp, .int .i64 tn, .int .i64 up, .int .i64 un, .bool att] 41).alloc (.cells #[.bool top, .bool bot, .bool flat] 131)).alloc (.cells #[.bool au, .int .i64 n, .int .i64 lo, .int .i64 hi] 127)).alloc (.cells #[.int .i64 0, .int .i64 0, .int .i64 0, .int .i64 0, .int .i64 0, .int .i64 0, .bool false, .int .i64 0] 35)
  have k2 : Blk W (w.heap.size + 1 + 1) [.bool top, .bool bot, .bool flat] 131 := by rw [hW]; simpa using ((Blk.new ((w.alloc (.cells (frl f).toArray 37)).alloc (.cells #[.slice a y.length c, .int .i64 ed, .int .i64 tp, .int .i64 tn, .int .i64 up, .int .i64 un, .bool att] 41)) [.bool top, .bool bot, .bool flat] 131).alloc (.cells #[.bool au, .int .i64 n, .int .i64 lo, .int .i64 hi] 127)).alloc (.cells #[.int .i64 0, .int .i64 0, .int .i64 0, .int .i64 0, .int .i64 0, .int .i64 0, .bool false, .int .i64 0] 35)
  have k3 : Blk W (w.heap.size + 1 + 1 + 1) [.bool au, .int .i64 n, .int .i64 lo, .int .i64 hi] 127 := by rw [hW]; simpa using (Blk.new (((w.alloc (.cells (frl f).toArray 37)).alloc (.cells #[.slice a y.length c, .int .i64 ed, .int .i64 tp, .int .i64 tn, .int .i64 up, .int .i64 un, .bool att] 41)).alloc (.cells #[.bool top, .bool bot, .bool flat] 131)) [.bool au, .int .i64 n, .int .i64 lo, .int .i64 hi] 127).alloc (.cells #[.int .i64 0, .int .i64 0, .int .i64 0, .int .i64 0, .int .i64 0, .int .i64 0, .bool false, .int .i64 0] 35)
  have k4 : Blk W (w.heap.size + 1 + 1 + 1 + 1) [.int .i64 0, .int .i64 0, .int .i64 0, .int .i64 0, .int .i64 0, .int .i64 0, .bool false, .int .i64 0] 35 := by rw [hW]; simpa using Blk.new ((((w.alloc (.cells (frl f).toArray 37)).alloc (.cells #[.slice a y.length c, .int .i64 ed, .int .i64 tp, .int .i64 tn, .int .i64 up, .int .i64 un, .bool att] 41)).alloc (.cells #[.bool top, .bool bot, .bool flat] 131)).alloc (.cells #[.bool au, .int .i64 n, .int .i64 lo, .int .i64 hi] 127)) [.int .i64 0, .int .i64 0, .int .i64 0, .int .i64 0, .int .i64 0, .int .i64 0, .bool false, .int .i64 0] 35
  have SW : Hid (Seen w W) := by rw [hW]; exact (((((Seen.refl w).alloc _).alloc _).alloc _).alloc _).alloc _
  have hsz : Hid (W.heap.size = w.heap.size + 1 + 1 + 1 + 1 + 1) := by rw [hW]; simp [Hid]
  have r0 : ∀ w', Seen W w' → w'.cell? ⟨w.heap.size, 4, none⟩ = some (.int .i64 f.mg.a) ∧ w'.cell? ⟨w.heap.size, 6, none⟩ = some (.int .i64 f.mg.c) ∧ w'.cell? ⟨w.heap.size, 3, none⟩ = some (.int .i64 f.h) := fun w' h => ⟨(k0.seen h).cell 4, (k0.seen h).cell 6, (k0.seen h).cell 3⟩
  have K0 := Lib.hid k0
  have K1 := Lib.hid k1
  have K2 := Lib.hid k2
  have K3 := Lib.hid k3
  have K4 := Lib.hid k4
  clear k0 k1 k2 k3 k4
  have sr := Seen.refl W
  have q0 := (r0 W sr).2.2
  unfold frv
  go_enter Tryz.func49, Tryz.ntmps49
  go_upto_region 1 with fail
  rw [← hW]
  clear hW
  go_upto_region 2 with (first
    | (refine wpList_loadF rfl (.tmp 4) rfl w.heap.size 0 f rfl K0.out.range ?_)
    | (go_at_call 75; refine (AR.out _).mono ?_; clear AR; rintro r w1 ⟨rfl, hb⟩; have s1 := Lib.hid (show Seen W w1 from hb); clear hb))
  clear q0
  go_cut [12, 13] (fun u v wx => (∃ A Bb, u = .pointer (some ⟨A, 0, none⟩) ∧ v = .pointer (some ⟨Bb, 0, none⟩) ∧ w1.heap.size ≤ A ∧ w1.heap.size ≤ Bb ∧ A ≠ Bb ∧ Blk wx A [.int .i64 T.p, .int .i64 T.n] 33 ∧ Blk wx Bb [.int .i64 B.p, .int .i64 B.n] 33 ∧ Seen w1 wx) : Value → Value → World → Prop)
  case first =>
    have acc := (Seen.refl w1).drew
    refine wp_region_held_drew (S := fun w' => Seen w1 w') (by kernel_rfl) acc (fun _ => ?_)
    refine ZT 0 (some 22) (.pointer (some ⟨w.heap.size, 4, none⟩)) acc ?_
    simp only [Z1,Z2,Z3,Z4]
    refine ZT 1 (some 23) (.pointer (some ⟨w.heap.size, 4, none⟩)) acc ?_
    simp only [Z1,Z2,Z3,Z4]
    refine ZU 2 (some 24) (.int .i64 f.mg.a) (fun _ hS => run_by (Instr.loadAt 2 (.pointer (some ⟨w.heap.size, 4, none⟩))) (by kernel_rfl) (ldc2 ((r0 _ (s1.out.trans hS)).1))) acc ?_
    simp only [Z1,Z2,Z3,Z4]
    refine ZT 4 (some 26) (.pointer (some ⟨w.heap.size, 4, none⟩)) acc ?_
    simp only [Z1,Z2,Z3,Z4]
    refine ZT 5 (some 27) (.pointer (some ⟨w.heap.size, 6, none⟩)) acc ?_
    simp only [Z1,Z2,Z3,Z4]
    refine ZU 6 (some 28) (.int .i64 f.mg.c) (fun _ hS => run_by (Instr.loadAt 2 (.pointer (some ⟨w.heap.size, 6, none⟩))) (by kernel_rfl) (ldc2 ((r0 _ (s1.out.trans hS)).2.1))) acc ?_
    simp only [Z1,Z2,Z3,Z4]
    refine wpAnyH_ready (rs := [3, 8, 9]) (by kernel_rfl) (by simp) ?_
    refine aCall 3 (some 25) 76 #[.int .i64 f.mg.a] (by kernel_rfl) (by kernel_rfl) (by kernel_rfl) (by kernel_rfl) ?_ ?_
    · refine (TA.out _).mono ?_
      rintro e wc1 ⟨rfl, hb⟩
      have acc1 : Seen w1 wc1 := Seen.next acc hb
      clear hb
      refine ⟨_, rfl, acc1, ?_⟩
      simp only [Z1,Z2,Z3,Z4]
      refine wpAnyH_ready (rs := [7, 8, 9]) (by kernel_rfl) (by simp) ?_
      refine aCall 7 (some 29) 76 #[.int .i64 f.mg.c] (by kernel_rfl) (by kernel_rfl) (by kernel_rfl) (by kernel_rfl) ?_ ?_
      · refine (BA.out _).mono ?_
        rintro e wc2 ⟨rfl, hb⟩
        have acc2 : Seen w1 wc2 := Seen.next acc1 hb
        clear hb
        refine ⟨_, rfl, acc2, ?_⟩
        simp only [Z1,Z2,Z3,Z4]
        refine wpAnyH_ready (rs := [8, 9]) (by kernel_rfl) (by simp) ?_
        refine aRun 8 (some 12) (.pointer (some ⟨wc2.heap.size, 0, none⟩)) (by kernel_rfl) (by kernel_rfl) (by kernel_rfl) (by kernel_rfl) (show Seen w1 (wc2.alloc (.cells #[.int .i64 0, .int .i64 0] 33)) from Seen.alloc acc2 _) ?_ ?_
        · obtain ⟨wa3, hm3⟩ : ∃ x, x = wc2.alloc (.cells #[.int .i64 0, .int .i64 0] 33) := ⟨_, rfl⟩
          rw [← hm3]
          have acc3 : Seen w1 wa3 := by rw [hm3]; exact Seen.alloc acc2 _
          have kA3 : Blk wa3 wc2.heap.size [.int .i64 0, .int .i64 0] 33 := by rw [hm3]; exact Blk.new _ _ _
          have kAg3 : w1.heap.size ≤ wc2.heap.size := Below.size acc2
          clear hm3
          simp only [Z1,Z2,Z3,Z4]
          refine hRun 9 (some 13) (.pointer (some ⟨wa3.heap.size, 0, none⟩)) (by kernel_rfl) (by kernel_rfl) (by kernel_rfl) (by kernel_rfl) (by kernel_rfl) (show Seen w1 (wa3.alloc (.cells #[.int .i64 0, .int .i64 0] 33)) from Seen.alloc acc3 _) ?_
          obtain ⟨wa4, hm4⟩ : ∃ x, x = wa3.alloc (.cells #[.int .i64 0, .int .i64 0] 33) := ⟨_, rfl⟩
          rw [← hm4]
          have acc4 : Seen w1 wa4 := by rw [hm4]; exact Seen.alloc acc3 _
          have kB4 : Blk wa4 wa3.heap.size [.int .i64 0, .int .i64 0] 33 := by rw [hm4]; exact Blk.new _ _ _
          have kBg4 : w1.heap.size ≤ wa3.heap.size := Below.size acc3
          have kA4 : Blk wa4 wc2.heap.size [.int .i64 0, .int .i64 0] 33 := by rw [hm4]; exact Blk.alloc kA3 _
          have hne4 : wc2.heap.size < wa3.heap.size := Blk.lt kA3
          clear hm4
          simp only [Z1,Z2,Z3,Z4]
          refine ZK 10 none (run_skip_by (Instr.storeAt 33 (.pointer (some ⟨wc2.heap.size, 0, none⟩)) (.agg #[.int .i64 T.p, .int .i64 T.n])) (by kernel_rfl) (st43 T.p T.n kA4 (Nat.le_refl _))) ((seen_set (o := 1) (v := .int .i64 T.n) (seen_set (o := 0) (v := .int .i64 T.p) acc4 kAg3) kAg3)) ?_
          simp only [Act.put]
          refine ZK 11 none (run_skip_by (Instr.storeAt 33 (.pointer (some ⟨wa3.heap.size, 0, none⟩)) (.agg #[.int .i64 B.p, .int .i64 B.n])) (by kernel_rfl) (st43 B.p B.n (Blk.other (p := ⟨wc2.heap.size, 1, none⟩) (Blk.other (p := ⟨wc2.heap.size, 0, none⟩) kB4 (show wc2.heap.size ≠ wa3.heap.size by omega) (.int .i64 T.p)) (show wc2.heap.size ≠ wa3.heap.size by omega) (.int .i64 T.n)) (Nat.le_refl _))) ((seen_set (o := 1) (v := .int .i64 B.n) (seen_set (o := 0) (v := .int .i64 B.p) (seen_set (o := 1) (v := .int .i64 T.n) (seen_set (o := 0) (v := .int .i64 T.p) acc4 kAg3) kAg3) kBg4) kBg4)) ?_
          simp only [Act.put]
          refine wpAnyH_done (by kernel_rfl) ?_ _
          have z1 := (Blk.other (p := ⟨wa3.heap.size, 1, none⟩) (Blk.other (p := ⟨wa3.heap.size, 0, none⟩) (Blk.set (Blk.set kA4 0 (.int .i64 T.p)) 1 (.int .i64 T.n)) (show wa3.heap.size ≠ wc2.heap.size by omega) (.int .i64 B.p)) (show wa3.heap.size ≠ wc2.heap.size by omega) (.int .i64 B.n))
          have z2 := (Blk.set (Blk.set (Blk.other (p := ⟨wc2.heap.size, 1, none⟩) (Blk.other (p := ⟨wc2.heap.size, 0, none⟩) kB4 (show wc2.heap.size ≠ wa3.heap.size by omega) (.int .i64 T.p)) (show wc2.heap.size ≠ wa3.heap.size by omega) (.int .i64 T.n)) 0 (.int .i64 B.p)) 1 (.int .i64 B.n))
          have z3 := (seen_set (o := 1) (v := .int .i64 B.n) (seen_set (o := 0) (v := .int .i64 B.p) (seen_set (o := 1) (v := .int .i64 T.n) (seen_set (o := 0) (v := .int .i64 T.p) acc4 kAg3) kAg3) kBg4) kBg4)
          go_wp2_with fail
          go_meet
          exact ⟨_, _, rfl, rfl, kAg3, kBg4, by omega, z1, z2, z3⟩
        refine aRun 9 (some 13) (.pointer (some ⟨wc2.heap.size, 0, none⟩)) (by kernel_rfl) (by kernel_rfl) (by kernel_rfl) (by kernel_rfl) (show Seen w1 (wc2.alloc (.cells #[.int .i64 0, .int .i64 0] 33)) from Seen.alloc acc2 _) ?_ ?_
        · obtain ⟨wa3, hm3⟩ : ∃ x, x = wc2.alloc (.cells #[.int .i64 0, .int .i64 0] 33) := ⟨_, rfl⟩
          rw [← hm3]
          have acc3 : Seen w1 wa3 := by rw [hm3]; exact Seen.alloc acc2 _
          have kB3 : Blk wa3 wc2.heap.size [.int .i64 0, .int .i64 0] 33 := by rw [hm3]; exact Blk.new _ _ _
          have kBg3 : w1.heap.size ≤ wc2.heap.size := Below.size acc2
          clear hm3
          simp only [Z1,Z2,Z3,Z4]
          refine hRun 8 (some 12) (.pointer (some ⟨wa3.heap.size, 0, none⟩)) (by kernel_rfl) (by kernel_rfl) (by kernel_rfl) (by kernel_rfl) (by kernel_rfl) (show Seen w1 (wa3.alloc (.cells #[.int .i64 0, .int .i64 0] 33)) from Seen.alloc acc3 _) ?_
          obtain ⟨wa4, hm4⟩ : ∃ x, x = wa3.alloc (.cells #[.int .i64 0, .int .i64 0] 33) := ⟨_, rfl⟩
          rw [← hm4]
          have acc4 : Seen w1 wa4 := by rw [hm4]; exact Seen.alloc acc3 _
          have kA4 : Blk wa4 wa3.heap.size [.int .i64 0, .int .i64 0] 33 := by rw [hm4]; exact Blk.new _ _ _
          have kAg4 : w1.heap.size ≤ wa3.heap.size := Below.size acc3
          have kB4 : Blk wa4 wc2.heap.size [.int .i64 0, .int .i64 0] 33 := by rw [hm4]; exact Blk.alloc kB3 _
          have hne4 : wc2.heap.size < wa3.heap.size := Blk.lt kB3
          clear hm4
          simp only [Z1,Z2,Z3,Z4]
          refine ZK 10 none (run_skip_by (Instr.storeAt 33 (.pointer (some ⟨wa3.heap.size, 0, none⟩)) (.agg #[.int .i64 T.p, .int .i64 T.n])) (by kernel_rfl) (st43 T.p T.n kA4 (Nat.le_refl _))) ((seen_set (o := 1) (v := .int .i64 T.n) (seen_set (o := 0) (v := .int .i64 T.p) acc4 kAg4) kAg4)) ?_
          simp only [Act.put]
          refine ZK 11 none (run_skip_by (Instr.storeAt 33 (.pointer (some ⟨wc2.heap.size, 0, none⟩)) (.agg #[.int .i64 B.p, .int .i64 B.n])) (by kernel_rfl) (st43 B.p B.n (Blk.other (p := ⟨wa3.heap.size, 1, none⟩) (Blk.other (p := ⟨wa3.heap.size, 0, none⟩) kB4 (show wa3.heap.size ≠ wc2.heap.size by omega) (.int .i64 T.p)) (show wa3.heap.size ≠ wc2.heap.size by omega) (.int .i64 T.n)) (Nat.le_refl _))) ((seen_set (o := 1) (v := .int .i64 B.n) (seen_set (o := 0) (v := .int .i64 B.p) (seen_set (o := 1) (v := .int .i64 T.n) (seen_set (o := 0) (v := .int .i64 T.p) acc4 kAg4) kAg4) kBg3) kBg3)) ?_
          simp only [Act.put]
          refine wpAnyH_done (by kernel_rfl) ?_ _
          have z1 := (Blk.other (p := ⟨wc2.heap.size, 1, none⟩) (Blk.other (p := ⟨wc2.heap.size, 0, none⟩) (Blk.set (Blk.set kA4 0 (.int .i64 T.p)) 1 (.int .i64 T.n)) (show wc2.heap.size ≠ wa3.heap.size by omega) (.int .i64 B.p)) (show wc2.heap.size ≠ wa3.heap.size by omega) (.int .i64 B.n))
          have z2 := (Blk.set (Blk.set (Blk.other (p := ⟨wa3.heap.size, 1, none⟩) (Blk.other (p := ⟨wa3.heap.size, 0, none⟩) kB4 (show wa3.heap.size ≠ wc2.heap.size by omega) (.int .i64 T.p)) (show wa3.heap.size ≠ wc2.heap.size by omega) (.int .i64 T.n)) 0 (.int .i64 B.p)) 1 (.int .i64 B.n))
          have z3 := (seen_set (o := 1) (v := .int .i64 B.n) (seen_set (o := 0) (v := .int .i64 B.p) (seen_set (o := 1) (v := .int .i64 T.n) (seen_set (o := 0) (v := .int .i64 T.p) acc4 kAg4) kAg4) kBg3) kBg3)
          go_wp2_with fail
          go_meet
          exact ⟨_, _, rfl, rfl, kAg4, kBg3, by omega, z1, z2, z3⟩
        exact AllReadyH.nil
      refine aRun 8 (some 12) (.pointer (some ⟨wc1.heap.size, 0, none⟩)) (by kernel_rfl) (by kernel_rfl) (by kernel_rfl) (by kernel_rfl) (show Seen w1 (wc1.alloc (.cells #[.int .i64 0, .int .i64 0] 33)) from Seen.alloc acc1 _) ?_ ?_
      · obtain ⟨wa2, hm2⟩ : ∃ x, x = wc1.alloc (.cells #[.int .i64 0, .int .i64 0] 33) := ⟨_, rfl⟩
        rw [← hm2]
        have acc2 : Seen w1 wa2 := by rw [hm2]; exact Seen.alloc acc1 _
        have kA2 : Blk wa2 wc1.heap.size [.int .i64 0, .int .i64 0] 33 := by rw [hm2]; exact Blk.new _ _ _
        have kAg2 : w1.heap.size ≤ wc1.heap.size := Below.size acc1
        clear hm2
        simp only [Z1,Z2,Z3,Z4]
        refine wpAnyH_ready (rs := [7, 9]) (by kernel_rfl) (by simp) ?_
        refine aCall 7 (some 29) 76 #[.int .i64 f.mg.c] (by kernel_rfl) (by kernel_rfl) (by kernel_rfl) (by kernel_rfl) ?_ ?_
        · refine (BA.out _).mono ?_
          rintro e wc3 ⟨rfl, hb⟩
          have acc3 : Seen w1 wc3 := Seen.next acc2 hb
          have kA3 := Blk.seen kA2 hb
          clear hb
          refine ⟨_, rfl, acc3, ?_⟩
          simp only [Z1,Z2,Z3,Z4]
          refine hRun 9 (some 13) (.pointer (some ⟨wc3.heap.size, 0, none⟩)) (by kernel_rfl) (by kernel_rfl) (by kernel_rfl) (by kernel_rfl) (by kernel_rfl) (show Seen w1 (wc3.alloc (.cells #[.int .i64 0, .int .i64 0] 33)) from Seen.alloc acc3 _) ?_
          obtain ⟨wa4, hm4⟩ : ∃ x, x = wc3.alloc (.cells #[.int .i64 0, .int .i64 0] 33) := ⟨_, rfl⟩
          rw [← hm4]
          have acc4 : Seen w1 wa4 := by rw [hm4]; exact Seen.alloc acc3 _
          have kB4 : Blk wa4 wc3.heap.size [.int .i64 0, .int .i64 0] 33 := by rw [hm4]; exact Blk.new _ _ _
          have kBg4 : w1.heap.size ≤ wc3.heap.size := Below.size acc3
          have kA4 : Blk wa4 wc1.heap.size [.int .i64 0, .int .i64 0] 33 := by rw [hm4]; exact Blk.alloc kA3 _
          have hne4 : wc1.heap.size < wc3.heap.size := Blk.lt kA3
          clear hm4
          simp only [Z1,Z2,Z3,Z4]
          refine ZK 10 none (run_skip_by (Instr.storeAt 33 (.pointer (some ⟨wc1.heap.size, 0, none⟩)) (.agg #[.int .i64 T.p, .int .i64 T.n])) (by kernel_rfl) (st43 T.p T.n kA4 (Nat.le_refl _))) ((seen_set (o := 1) (v := .int .i64 T.n) (seen_set (o := 0) (v := .int .i64 T.p) acc4 kAg2) kAg2)) ?_
          simp only [Act.put]
          refine ZK 11 none (run_skip_by (Instr.storeAt 33 (.pointer (some ⟨wc3.heap.size, 0, none⟩)) (.agg #[.int .i64 B.p, .int .i64 B.n])) (by kernel_rfl) (st43 B.p B.n (Blk.other (p := ⟨wc1.heap.size, 1, none⟩) (Blk.other (p := ⟨wc1.heap.size, 0, none⟩) kB4 (show wc1.heap.size ≠ wc3.heap.size by omega) (.int .i64 T.p)) (show wc1.heap.size ≠ wc3.heap.size by omega) (.int .i64 T.n)) (Nat.le_refl _))) ((seen_set (o := 1) (v := .int .i64 B.n) (seen_set (o := 0) (v := .int .i64 B.p) (seen_set (o := 1) (v := .int .i64 T.n) (seen_set (o := 0) (v := .int .i64 T.p) acc4 kAg2) kAg2) kBg4) kBg4)) ?_
          simp only [Act.put]
          refine wpAnyH_done (by kernel_rfl) ?_ _
          have z1 := (Blk.other (p := ⟨wc3.heap.size, 1, none⟩) (Blk.other (p := ⟨wc3.heap.size, 0, none⟩) (Blk.set (Blk.set kA4 0 (.int .i64 T.p)) 1 (.int .i64 T.n)) (show wc3.heap.size ≠ wc1.heap.size by omega) (.int .i64 B.p)) (show wc3.heap.size ≠ wc1.heap.size by omega) (.int .i64 B.n))
          have z2 := (Blk.set (Blk.set (Blk.other (p := ⟨wc1.heap.size, 1, none⟩) (Blk.other (p := ⟨wc1.heap.size, 0, none⟩) kB4 (show wc1.heap.size ≠ wc3.heap.size by omega) (.int .i64 T.p)) (show wc1.heap.size ≠ wc3.heap.size by omega) (.int .i64 T.n)) 0 (.int .i64 B.p)) 1 (.int .i64 B.n))
          have z3 := (seen_set (o := 1) (v := .int .i64 B.n) (seen_set (o := 0) (v := .int .i64 B.p) (seen_set (o := 1) (v := .int .i64 T.n) (seen_set (o := 0) (v := .int .i64 T.p) acc4 kAg2) kAg2) kBg4) kBg4)
          go_wp2_with fail
          go_meet
          exact ⟨_, _, rfl, rfl, kAg2, kBg4, by omega, z1, z2, z3⟩
        refine aRun 9 (some 13) (.pointer (some ⟨wa2.heap.size, 0, none⟩)) (by kernel_rfl) (by kernel_rfl) (by kernel_rfl) (by kernel_rfl) (show Seen w1 (wa2.alloc (.cells #[.int .i64 0, .int .i64 0] 33)) from Seen.alloc acc2 _) ?_ ?_
        · obtain ⟨wa3, hm3⟩ : ∃ x, x = wa2.alloc (.cells #[.int .i64 0, .int .i64 0] 33) := ⟨_, rfl⟩
          rw [← hm3]
          have acc3 : Seen w1 wa3 := by rw [hm3]; exact Seen.alloc acc2 _
          have kB3 : Blk wa3 wa2.heap.size [.int .i64 0, .int .i64 0] 33 := by rw [hm3]; exact Blk.new _ _ _
          have kBg3 : w1.heap.size ≤ wa2.heap.size := Below.size acc2
          have kA3 : Blk wa3 wc1.heap.size [.int .i64 0, .int .i64 0] 33 := by rw [hm3]; exact Blk.alloc kA2 _
          have hne3 : wc1.heap.size < wa2.heap.size := Blk.lt kA2
          clear hm3
          simp only [Z1,Z2,Z3,Z4]
          refine ZC 7 (some 29) 76 #[.int .i64 f.mg.c] ?_
          refine (BA.out _).mono ?_
          rintro e wc4 ⟨rfl, hb⟩
          have acc4 : Seen w1 wc4 := Seen.next acc3 hb
          have kA4 := Blk.seen kA3 hb
          have kB4 := Blk.seen kB3 hb
          clear hb
          refine ⟨_, rfl, acc4, ?_⟩
          simp only [Z1,Z2,Z3,Z4]
          refine ZK 10 none (run_skip_by (Instr.storeAt 33 (.pointer (some ⟨wc1.heap.size, 0, none⟩)) (.agg #[.int .i64 T.p, .int .i64 T.n])) (by kernel_rfl) (st43 T.p T.n kA4 (Nat.le_refl _))) ((seen_set (o := 1) (v := .int .i64 T.n) (seen_set (o := 0) (v := .int .i64 T.p) acc4 kAg2) kAg2)) ?_
          simp only [Act.put]
          refine ZK 11 none (run_skip_by (Instr.storeAt 33 (.pointer (some ⟨wa2.heap.size, 0, none⟩)) (.agg #[.int .i64 B.p, .int .i64 B.n])) (by kernel_rfl) (st43 B.p B.n (Blk.other (p := ⟨wc1.heap.size, 1, none⟩) (Blk.other (p := ⟨wc1.heap.size, 0, none⟩) kB4 (show wc1.heap.size ≠ wa2.heap.size by omega) (.int .i64 T.p)) (show wc1.heap.size ≠ wa2.heap.size by omega) (.int .i64 T.n)) (Nat.le_refl _))) ((seen_set (o := 1) (v := .int .i64 B.n) (seen_set (o := 0) (v := .int .i64 B.p) (seen_set (o := 1) (v := .int .i64 T.n) (seen_set (o := 0) (v := .int .i64 T.p) acc4 kAg2) kAg2) kBg3) kBg3)) ?_
          simp only [Act.put]
          refine wpAnyH_done (by kernel_rfl) ?_ _
          have z1 := (Blk.other (p := ⟨wa2.heap.size, 1, none⟩) (Blk.other (p := ⟨wa2.heap.size, 0, none⟩) (Blk.set (Blk.set kA4 0 (.int .i64 T.p)) 1 (.int .i64 T.n)) (show wa2.heap.size ≠ wc1.heap.size by omega) (.int .i64 B.p)) (show wa2.heap.size ≠ wc1.heap.size by omega) (.int .i64 B.n))
          have z2 := (Blk.set (Blk.set (Blk.other (p := ⟨wc1.heap.size, 1, none⟩) (Blk.other (p := ⟨wc1.heap.size, 0, none⟩) kB4 (show wc1.heap.size ≠ wa2.heap.size by omega) (.int .i64 T.p)) (show wc1.heap.size ≠ wa2.heap.size by omega) (.int .i64 T.n)) 0 (.int .i64 B.p)) 1 (.int .i64 B.n))
          have z3 := (seen_set (o := 1) (v := .int .i64 B.n) (seen_set (o := 0) (v := .int .i64 B.p) (seen_set (o := 1) (v := .int .i64 T.n) (seen_set (o := 0) (v := .int .i64 T.p) acc4 kAg2) kAg2) kBg3) kBg3)
          go_wp2_with fail
          go_meet
          exact ⟨_, _, rfl, rfl, kAg2, kBg3, by omega, z1, z2, z3⟩
        exact AllReadyH.nil
      refine aRun 9 (some 13) (.pointer (some ⟨wc1.heap.size, 0, none⟩)) (by kernel_rfl) (by kernel_rfl) (by kernel_rfl) (by kernel_rfl) (show Seen w1 (wc1.alloc (.cells #[.int .i64 0, .int .i64 0] 33)) from Seen.alloc acc1 _) ?_ ?_
      · obtain ⟨wa2, hm2⟩ : ∃ x, x = wc1.alloc (.cells #[.int .i64 0, .int .i64 0] 33) := ⟨_, rfl⟩
        rw [← hm2]
        have acc2 : Seen w1 wa2 := by rw [hm2]; exact Seen.alloc acc1 _
        have kB2 : Blk wa2 wc1.heap.size [.int .i64 0, .int .i64 0] 33 := by rw [hm2]; exact Blk.new _ _ _
        have kBg2 : w1.heap.size ≤ wc1.heap.size := Below.size acc1
        clear hm2
        simp only [Z1,Z2,Z3,Z4]
        refine wpAnyH_ready (rs := [7, 8]) (by kernel_rfl) (by simp) ?_
        refine aCall 7 (some 29) 76 #[.int .i64 f.mg.c] (by kernel_rfl) (by kernel_rfl) (by kernel_rfl) (by kernel_rfl) ?_ ?_
        · refine (BA.out _).mono ?_
          rintro e wc3 ⟨rfl, hb⟩
          have acc3 : Seen w1 wc3 := Seen.next acc2 hb
          have kB3 := Blk.seen kB2 hb
          clear hb
          refine ⟨_, rfl, acc3, ?_⟩
          simp only [Z1,Z2,Z3,Z4]
          refine hRun 8 (some 12) (.pointer (some ⟨wc3.heap.size, 0, none⟩)) (by kernel_rfl) (by kernel_rfl) (by kernel_rfl) (by kernel_rfl) (by kernel_rfl) (show Seen w1 (wc3.alloc (.cells #[.int .i64 0, .int .i64 0] 33)) from Seen.alloc acc3 _) ?_
          obtain ⟨wa4, hm4⟩ : ∃ x, x = wc3.alloc (.cells #[.int .i64 0, .int .i64 0] 33) := ⟨_, rfl⟩
          rw [← hm4]
          have acc4 : Seen w1 wa4 := by rw [hm4]; exact Seen.alloc acc3 _
          have kA4 : Blk wa4 wc3.heap.size [.int .i64 0, .int .i64 0] 33 := by rw [hm4]; exact Blk.new _ _ _
          have kAg4 : w1.heap.size ≤ wc3.heap.size := Below.size acc3
          have kB4 : Blk wa4 wc1.heap.size [.int .i64 0, .int .i64 0] 33 := by rw [hm4]; exact Blk.alloc kB3 _
          have hne4 : wc1.heap.size < wc3.heap.size := Blk.lt kB3
          clear hm4
          simp only [Z1,Z2,Z3,Z4]
          refine ZK 10 none (run_skip_by (Instr.storeAt 33 (.pointer (some ⟨wc3.heap.size, 0, none⟩)) (.agg #[.int .i64 T.p, .int .i64 T.n])) (by kernel_rfl) (st43 T.p T.n kA4 (Nat.le_refl _))) ((seen_set (o := 1) (v := .int .i64 T.n) (seen_set (o := 0) (v := .int .i64 T.p) acc4 kAg4) kAg4)) ?_
          simp only [Act.put]
          refine ZK 11 none (run_skip_by (Instr.storeAt 33 (.pointer (some ⟨wc1.heap.size, 0, none⟩)) (.agg #[.int .i64 B.p, .int .i64 B.n])) (by kernel_rfl) (st43 B.p B.n (Blk.other (p := ⟨wc3.heap.size, 1, none⟩) (Blk.other (p := ⟨wc3.heap.size, 0, none⟩) kB4 (show wc3.heap.size ≠ wc1.heap.size by omega) (.int .i64 T.p)) (show wc3.heap.size ≠ wc1.heap.size by omega) (.int .i64 T.n)) (Nat.le_refl _))) ((seen_set (o := 1) (v := .int .i64 B.n) (seen_set (o := 0) (v := .int .i64 B.p) (seen_set (o := 1) (v := .int .i64 T.n) (seen_set (o := 0) (v := .int .i64 T.p) acc4 kAg4) kAg4) kBg2) kBg2)) ?_
          simp only [Act.put]
          refine wpAnyH_done (by kernel_rfl) ?_ _
          have z1 := (Blk.other (p := ⟨wc1.heap.size, 1, none⟩) (Blk.other (p := ⟨wc1.heap.size, 0, none⟩) (Blk.set (Blk.set kA4 0 (.int .i64 T.p)) 1 (.int .i64 T.n)) (show wc1.heap.size ≠ wc3.heap.size by omega) (.int .i64 B.p)) (show wc1.heap.size ≠ wc3.heap.size by omega) (.int .i64 B.n))
          have z2 := (Blk.set (Blk.set (Blk.other (p := ⟨wc3.heap.size, 1, none⟩) (Blk.other (p := ⟨wc3.heap.size, 0, none⟩) kB4 (show wc3.heap.size ≠ wc1.heap.size by omega) (.int .i64 T.p)) (show wc3.heap.size ≠ wc1.heap.size by omega) (.int .i64 T.n)) 0 (.int .i64 B.p)) 1 (.int .i64 B.n))
          have z3 := (seen_set (o := 1) (v := .int .i64 B.n) (seen_set (o := 0) (v := .int .i64 B.p) (seen_set (o := 1) (v := .int .i64 T.n) (seen_set (o := 0) (v := .int .i64 T.p) acc4 kAg4) kAg4) kBg2) kBg2)
          go_wp2_with fail
          go_meet
          exact ⟨_, _, rfl, rfl, kAg4, kBg2, by omega, z1, z2, z3⟩
        refine aRun 8 (some 12) (.pointer (some ⟨wa2.heap.size, 0, none⟩)) (by kernel_rfl) (by kernel_rfl) (by kernel_rfl) (by kernel_rfl) (show Seen w1 (wa2.alloc (.cells #[.int .i64 0, .int .i64 0] 33)) from Seen.alloc acc2 _) ?_ ?_
        · obtain ⟨wa3, hm3⟩ : ∃ x, x = wa2.alloc (.cells #[.int .i64 0, .int .i64 0] 33) := ⟨_, rfl⟩
          rw [← hm3]
          have acc3 : Seen w1 wa3 := by rw [hm3]; exact Seen.alloc acc2 _
          have kA3 : Blk wa3 wa2.heap.size [.int .i64 0, .int .i64 0] 33 := by rw [hm3]; exact Blk.new _ _ _
          have kAg3 : w1.heap.size ≤ wa2.heap.size := Below.size acc2
          have kB3 : Blk wa3 wc1.heap.size [.int .i64 0, .int .i64 0] 33 := by rw [hm3]; exact Blk.alloc kB2 _
          have hne3 : wc1.heap.size < wa2.heap.size := Blk.lt kB2
          clear hm3
          simp only [Z1,Z2,Z3,Z4]
          refine ZC 7 (some 29) 76 #[.int .i64 f.mg.c] ?_
          refine (BA.out _).mono ?_
          rintro e wc4 ⟨rfl, hb⟩
          have acc4 : Seen w1 wc4 := Seen.next acc3 hb
          have kA4 := Blk.seen kA3 hb
          have kB4 := Blk.seen kB3 hb
          clear hb
          refine ⟨_, rfl, acc4, ?_⟩
          simp only [Z1,Z2,Z3,Z4]
          refine ZK 10 none (run_skip_by (Instr.storeAt 33 (.pointer (some ⟨wa2.heap.size, 0, none⟩)) (.agg #[.int .i64 T.p, .int .i64 T.n])) (by kernel_rfl) (st43 T.p T.n kA4 (Nat.le_refl _))) ((seen_set (o := 1) (v := .int .i64 T.n) (seen_set (o := 0) (v := .int .i64 T.p) acc4 kAg3) kAg3)) ?_
          simp only [Act.put]
          refine ZK 11 none (run_skip_by (Instr.storeAt 33 (.pointer (some ⟨wc1.heap.size, 0, none⟩)) (.agg #[.int .i64 B.p, .int .i64 B.n])) (by kernel_rfl) (st43 B.p B.n (Blk.other (p := ⟨wa2.heap.size, 1, none⟩) (Blk.other (p := ⟨wa2.heap.size, 0, none⟩) kB4 (show wa2.heap.size ≠ wc1.heap.size by omega) (.int .i64 T.p)) (show wa2.heap.size ≠ wc1.heap.size by omega) (.int .i64 T.n)) (Nat.le_refl _))) ((seen_set (o := 1) (v := .int .i64 B.n) (seen_set (o := 0) (v := .int .i64 B.p) (seen_set (o := 1) (v := .int .i64 T.n) (seen_set (o := 0) (v := .int .i64 T.p) acc4 kAg3) kAg3) kBg2) kBg2)) ?_
          simp only [Act.put]
          refine wpAnyH_done (by kernel_rfl) ?_ _
          have z1 := (Blk.other (p := ⟨wc1.heap.size, 1, none⟩) (Blk.other (p := ⟨wc1.heap.size, 0, none⟩) (Blk.set (Blk.set kA4 0 (.int .i64 T.p)) 1 (.int .i64 T.n)) (show wc1.heap.size ≠ wa2.heap.size by omega) (.int .i64 B.p)) (show wc1.heap.size ≠ wa2.heap.size by omega) (.int .i64 B.n))
          have z2 := (Blk.set (Blk.set (Blk.other (p := ⟨wa2.heap.size, 1, none⟩) (Blk.other (p := ⟨wa2.heap.size, 0, none⟩) kB4 (show wa2.heap.size ≠ wc1.heap.size by omega) (.int .i64 T.p)) (show wa2.heap.size ≠ wc1.heap.size by omega) (.int .i64 T.n)) 0 (.int .i64 B.p)) 1 (.int .i64 B.n))
          have z3 := (seen_set (o := 1) (v := .int .i64 B.n) (seen_set (o := 0) (v := .int .i64 B.p) (seen_set (o := 1) (v := .int .i64 T.n) (seen_set (o := 0) (v := .int .i64 T.p) acc4 kAg3) kAg3) kBg2) kBg2)
          go_wp2_with fail
          go_meet
          exact ⟨_, _, rfl, rfl, kAg3, kBg2, by omega, z1, z2, z3⟩
        exact AllReadyH.nil
      exact AllReadyH.nil
    refine aRun 8 (some 12) (.pointer (some ⟨w1.drew.heap.size, 0, none⟩)) (by kernel_rfl) (by kernel_rfl) (by kernel_rfl) (by kernel_rfl) (show Seen w1 (w1.drew.alloc (.cells #[.int .i64 0, .int .i64 0] 33)) from Seen.alloc acc _) ?_ ?_
    · obtain ⟨wa1, hm1⟩ : ∃ x, x = w1.drew.alloc (.cells #[.int .i64 0, .int .i64 0] 33) := ⟨_, rfl⟩
      rw [← hm1]
      have acc1 : Seen w1 wa1 := by rw [hm1]; exact Seen.alloc acc _
      have kA1 : Blk wa1 w1.drew.heap.size [.int .i64 0, .int .i64 0] 33 := by rw [hm1]; exact Blk.new _ _ _
      have kAg1 : w1.heap.size ≤ w1.drew.heap.size := Below.size acc
      clear hm1
      simp only [Z1,Z2,Z3,Z4]
      refine wpAnyH_ready (rs := [3, 9]) (by kernel_rfl) (by simp) ?_
      refine aCall 3 (some 25) 76 #[.int .i64 f.mg.a] (by kernel_rfl) (by kernel_rfl) (by kernel_rfl) (by kernel_rfl) ?_ ?_
      · refine (TA.out _).mono ?_
        rintro e wc2 ⟨rfl, hb⟩
        have acc2 : Seen w1 wc2 := Seen.next acc1 hb
        have kA2 := Blk.seen kA1 hb
        clear hb
        refine ⟨_, rfl, acc2, ?_⟩
        simp only [Z1,Z2,Z3,Z4]
        refine wpAnyH_ready (rs := [7, 9]) (by kernel_rfl) (by simp) ?_
        refine aCall 7 (some 29) 76 #[.int .i64 f.mg.c] (by kernel_rfl) (by kernel_rfl) (by kernel_rfl) (by kernel_rfl) ?_ ?_
        · refine (BA.out _).mono ?_
          rintro e wc3 ⟨rfl, hb⟩
          have acc3 : Seen w1 wc3 := Seen.next acc2 hb
          have kA3 := Blk.seen kA2 hb
          clear hb
          refine ⟨_, rfl, acc3, ?_⟩
          simp only [Z1,Z2,Z3,Z4]
          refine hRun 9 (some 13) (.pointer (some ⟨wc3.heap.size, 0, none⟩)) (by kernel_rfl) (by kernel_rfl) (by kernel_rfl) (by kernel_rfl) (by kernel_rfl) (show Seen w1 (wc3.alloc (.cells #[.int .i64 0, .int .i64 0] 33)) from Seen.alloc acc3 _) ?_
          obtain ⟨wa4, hm4⟩ : ∃ x, x = wc3.alloc (.cells #[.int .i64 0, .int .i64 0] 33) := ⟨_, rfl⟩
          rw [← hm4]
          have acc4 : Seen w1 wa4 := by rw [hm4]; exact Seen.alloc acc3 _
          have kB4 : Blk wa4 wc3.heap.size [.int .i64 0, .int .i64 0] 33 := by rw [hm4]; exact Blk.new _ _ _
          have kBg4 : w1.heap.size ≤ wc3.heap.size := Below.size acc3
          have kA4 : Blk wa4 w1.drew.heap.size [.int .i64 0, .int .i64 0] 33 := by rw [hm4]; exact Blk.alloc kA3 _
          have hne4 : w1.drew.heap.size < wc3.heap.size := Blk.lt kA3
          clear hm4
          simp only [Z1,Z2,Z3,Z4]
          refine ZK 10 none (run_skip_by (Instr.storeAt 33 (.pointer (some ⟨w1.drew.heap.size, 0, none⟩)) (.agg #[.int .i64 T.p, .int .i64 T.n])) (by kernel_rfl) (st43 T.p T.n kA4 (Nat.le_refl _))) ((seen_set (o := 1) (v := .int .i64 T.n) (seen_set (o := 0) (v := .int .i64 T.p) acc4 kAg1) kAg1)) ?_
          simp only [Act.put]
          refine ZK 11 none (run_skip_by (Instr.storeAt 33 (.pointer (some ⟨wc3.heap.size, 0, none⟩)) (.agg #[.int .i64 B.p, .int .i64 B.n])) (by kernel_rfl) (st43 B.p B.n (Blk.other (p := ⟨w1.drew.heap.size, 1, none⟩) (Blk.other (p := ⟨w1.drew.heap.size, 0, none⟩) kB4 (show w1.drew.heap.size ≠ wc3.heap.size by omega) (.int .i64 T.p)) (show w1.drew.heap.size ≠ wc3.heap.size by omega) (.int .i64 T.n)) (Nat.le_refl _))) ((seen_set (o := 1) (v := .int .i64 B.n) (seen_set (o := 0) (v := .int .i64 B.p) (seen_set (o := 1) (v := .int .i64 T.n) (seen_set (o := 0) (v := .int .i64 T.p) acc4 kAg1) kAg1) kBg4) kBg4)) ?_
          simp only [Act.put]
          refine wpAnyH_done (by kernel_rfl) ?_ _
          have z1 := (Blk.other (p := ⟨wc3.heap.size, 1, none⟩) (Blk.other (p := ⟨wc3.heap.size, 0, none⟩) (Blk.set (Blk.set kA4 0 (.int .i64 T.p)) 1 (.int .i64 T.n)) (show wc3.heap.size ≠ w1.drew.heap.size by omega) (.int .i64 B.p)) (show wc3.heap.size ≠ w1.drew.heap.size by omega) (.int .i64 B.n))
          have z2 := (Blk.set (Blk.set (Blk.other (p := ⟨w1.drew.heap.size, 1, none⟩) (Blk.other (p := ⟨w1.drew.heap.size, 0, none⟩) kB4 (show w1.drew.heap.size ≠ wc3.heap.size by omega) (.int .i64 T.p)) (show w1.drew.heap.size ≠ wc3.heap.size by omega) (.int .i64 T.n)) 0 (.int .i64 B.p)) 1 (.int .i64 B.n))
          have z3 := (seen_set (o := 1) (v := .int .i64 B.n) (seen_set (o := 0) (v := .int .i64 B.p) (seen_set (o := 1) (v := .int .i64 T.n) (seen_set (o := 0) (v := .int .i64 T.p) acc4 kAg1) kAg1) kBg4) kBg4)
          go_wp2_with fail
          go_meet
          exact ⟨_, _, rfl, rfl, kAg1, kBg4, by omega, z1, z2, z3⟩
        refine aRun 9 (some 13) (.pointer (some ⟨wc2.heap.size, 0, none⟩)) (by kernel_rfl) (by kernel_rfl) (by kernel_rfl) (by kernel_rfl) (show Seen w1 (wc2.alloc (.cells #[.int .i64 0, .int .i64 0] 33)) from Seen.alloc acc2 _) ?_ ?_
        · obtain ⟨wa3, hm3⟩ : ∃ x, x = wc2.alloc (.cells #[.int .i64 0, .int .i64 0] 33) := ⟨_, rfl⟩
          rw [← hm3]
          have acc3 : Seen w1 wa3 := by rw [hm3]; exact Seen.alloc acc2 _
          have kB3 : Blk wa3 wc2.heap.size [.int .i64 0, .int .i64 0] 33 := by rw [hm3]; exact Blk.new _ _ _
          have kBg3 : w1.heap.size ≤ wc2.heap.size := Below.size acc2
          have kA3 : Blk wa3 w1.drew.heap.size [.int .i64 0, .int .i64 0] 33 := by rw [hm3]; exact Blk.alloc kA2 _
          have hne3 : w1.drew.heap.size < wc2.heap.size := Blk.lt kA2
          clear hm3
          simp only [Z1,Z2,Z3,Z4]
          refine ZC 7 (some 29) 76 #[.int .i64 f.mg.c] ?_
          refine (BA.out _).mono ?_
          rintro e wc4 ⟨rfl, hb⟩
          have acc4 : Seen w1 wc4 := Seen.next acc3 hb
          have kA4 := Blk.seen kA3 hb
          have kB4 := Blk.seen kB3 hb
          clear hb
          refine ⟨_, rfl, acc4, ?_⟩
          simp only [Z1,Z2,Z3,Z4]
          refine ZK 10 none (run_skip_by (Instr.storeAt 33 (.pointer (some ⟨w1.drew.heap.size, 0, none⟩)) (.agg #[.int .i64 T.p, .int .i64 T.n])) (by kernel_rfl) (st43 T.p T.n kA4 (Nat.le_refl _))) ((seen_set (o := 1) (v := .int .i64 T.n) (seen_set (o := 0) (v := .int .i64 T.p) acc4 kAg1) kAg1)) ?_
          simp only [Act.put]
          refine ZK 11 none (run_skip_by (Instr.storeAt 33 (.pointer (some ⟨wc2.heap.size, 0, none⟩)) (.agg #[.int .i64 B.p, .int .i64 B.n])) (by kernel_rfl) (st43 B.p B.n (Blk.other (p := ⟨w1.drew.heap.size, 1, none⟩) (Blk.other (p := ⟨w1.drew.heap.size, 0, none⟩) kB4 (show w1.drew.heap.size ≠ wc2.heap.size by omega) (.int .i64 T.p)) (show w1.drew.heap.size ≠ wc2.heap.size by omega) (.int .i64 T.n)) (Nat.le_refl _))) ((seen_set (o := 1) (v := .int .i64 B.n) (seen_set (o := 0) (v := .int .i64 B.p) (seen_set (o := 1) (v := .int .i64 T.n) (seen_set (o := 0) (v := .int .i64 T.p) acc4 kAg1) kAg1) kBg3) kBg3)) ?_
          simp only [Act.put]
          refine wpAnyH_done (by kernel_rfl) ?_ _
          have z1 := (Blk.other (p := ⟨wc2.heap.size, 1, none⟩) (Blk.other (p := ⟨wc2.heap.size, 0, none⟩) (Blk.set (Blk.set kA4 0 (.int .i64 T.p)) 1 (.int .i64 T.n)) (show wc2.heap.size ≠ w1.drew.heap.size by omega) (.int .i64 B.p)) (show wc2.heap.size ≠ w1.drew.heap.size by omega) (.int .i64 B.n))
          have z2 := (Blk.set (Blk.set (Blk.other (p := ⟨w1.drew.heap.size, 1, none⟩) (Blk.other (p := ⟨w1.drew.heap.size, 0, none⟩) kB4 (show w1.drew.heap.size ≠ wc2.heap.size by omega) (.int .i64 T.p)) (show w1.drew.heap.size ≠ wc2.heap.size by omega) (.int .i64 T.n)) 0 (.int .i64 B.p)) 1 (.int .i64 B.n))
          have z3 := (seen_set (o := 1) (v := .int .i64 B.n) (seen_set (o := 0) (v := .int .i64 B.p) (seen_set (o := 1) (v := .int .i64 T.n) (seen_set (o := 0) (v := .int .i64 T.p) acc4 kAg1) kAg1) kBg3) kBg3)
          go_wp2_with fail
          go_meet
          exact ⟨_, _, rfl, rfl, kAg1, kBg3, by omega, z1, z2, z3⟩
        exact AllReadyH.nil
      refine aRun 9 (some 13) (.pointer (some ⟨wa1.heap.size, 0, none⟩)) (by kernel_rfl) (by kernel_rfl) (by kernel_rfl) (by kernel_rfl) (show Seen w1 (wa1.alloc (.cells #[.int .i64 0, .int .i64 0] 33)) from Seen.alloc acc1 _) ?_ ?_
      · obtain ⟨wa2, hm2⟩ : ∃ x, x = wa1.alloc (.cells #[.int .i64 0, .int .i64 0] 33) := ⟨_, rfl⟩
        rw [← hm2]
        have acc2 : Seen w1 wa2 := by rw [hm2]; exact Seen.alloc acc1 _
        have kB2 : Blk wa2 wa1.heap.size [.int .i64 0, .int .i64 0] 33 := by rw [hm2]; exact Blk.new _ _ _
        have kBg2 : w1.heap.size ≤ wa1.heap.size := Below.size acc1
        have kA2 : Blk wa2 w1.drew.heap.size [.int .i64 0, .int .i64 0] 33 := by rw [hm2]; exact Blk.alloc kA1 _
        have hne2 : w1.drew.heap.size < wa1.heap.size := Blk.lt kA1
        clear hm2
        simp only [Z1,Z2,Z3,Z4]
        refine ZC 3 (some 25) 76 #[.int .i64 f.mg.a] ?_
        refine (TA.out _).mono ?_
        rintro e wc3 ⟨rfl, hb⟩
        have acc3 : Seen w1 wc3 := Seen.next acc2 hb
        have kA3 := Blk.seen kA2 hb
        have kB3 := Blk.seen kB2 hb
        clear hb
        refine ⟨_, rfl, acc3, ?_⟩
        simp only [Z1,Z2,Z3,Z4]
        refine ZC 7 (some 29) 76 #[.int .i64 f.mg.c] ?_
        refine (BA.out _).mono ?_
        rintro e wc4 ⟨rfl, hb⟩
        have acc4 : Seen w1 wc4 := Seen.next acc3 hb
        have kA4 := Blk.seen kA3 hb
        have kB4 := Blk.seen kB3 hb
        clear hb
        refine ⟨_, rfl, acc4, ?_⟩
        simp only [Z1,Z2,Z3,Z4]
        refine ZK 10 none (run_skip_by (Instr.storeAt 33 (.pointer (some ⟨w1.drew.heap.size, 0, none⟩)) (.agg #[.int .i64 T.p, .int .i64 T.n])) (by kernel_rfl) (st43 T.p T.n kA4 (Nat.le_refl _))) ((seen_set (o := 1) (v := .int .i64 T.n) (seen_set (o := 0) (v := .int .i64 T.p) acc4 kAg1) kAg1)) ?_
        simp only [Act.put]
        refine ZK 11 none (run_skip_by (Instr.storeAt 33 (.pointer (some ⟨wa1.heap.size, 0, none⟩)) (.agg #[.int .i64 B.p, .int .i64 B.n])) (by kernel_rfl) (st43 B.p B.n (Blk.other (p := ⟨w1.drew.heap.size, 1, none⟩) (Blk.other (p := ⟨w1.drew.heap.size, 0, none⟩) kB4 (show w1.drew.heap.size ≠ wa1.heap.size by omega) (.int .i64 T.p)) (show w1.drew.heap.size ≠ wa1.heap.size by omega) (.int .i64 T.n)) (Nat.le_refl _))) ((seen_set (o := 1) (v := .int .i64 B.n) (seen_set (o := 0) (v := .int .i64 B.p) (seen_set (o := 1) (v := .int .i64 T.n) (seen_set (o := 0) (v := .int .i64 T.p) acc4 kAg1) kAg1) kBg2) kBg2)) ?_
        simp only [Act.put]
        refine wpAnyH_done (by kernel_rfl) ?_ _
        have z1 := (Blk.other (p := ⟨wa1.heap.size, 1, none⟩) (Blk.other (p := ⟨wa1.heap.size, 0, none⟩) (Blk.set (Blk.set kA4 0 (.int .i64 T.p)) 1 (.int .i64 T.n)) (show wa1.heap.size ≠ w1.drew.heap.size by omega) (.int .i64 B.p)) (show wa1.heap.size ≠ w1.drew.heap.size by omega) (.int .i64 B.n))
        have z2 := (Blk.set (Blk.set (Blk.other (p := ⟨w1.drew.heap.size, 1, none⟩) (Blk.other (p := ⟨w1.drew.heap.size, 0, none⟩) kB4 (show w1.drew.heap.size ≠ wa1.heap.size by omega) (.int .i64 T.p)) (show w1.drew.heap.size ≠ wa1.heap.size by omega) (.int .i64 T.n)) 0 (.int .i64 B.p)) 1 (.int .i64 B.n))
        have z3 := (seen_set (o := 1) (v := .int .i64 B.n) (seen_set (o := 0) (v := .int .i64 B.p) (seen_set (o := 1) (v := .int .i64 T.n) (seen_set (o := 0) (v := .int .i64 T.p) acc4 kAg1) kAg1) kBg2) kBg2)
        go_wp2_with fail
        go_meet
        exact ⟨_, _, rfl, rfl, kAg1, kBg2, by omega, z1, z2, z3⟩
      exact AllReadyH.nil
    refine aRun 9 (some 13) (.pointer (some ⟨w1.drew.heap.size, 0, none⟩)) (by kernel_rfl) (by kernel_rfl) (by kernel_rfl) (by kernel_rfl) (show Seen w1 (w1.drew.alloc (.cells #[.int .i64 0, .int .i64 0] 33)) from Seen.alloc acc _) ?_ ?_
    · obtain ⟨wa1, hm1⟩ : ∃ x, x = w1.drew.alloc (.cells #[.int .i64 0, .int .i64 0] 33) := ⟨_, rfl⟩
      rw [← hm1]
      have acc1 : Seen w1 wa1 := by rw [hm1]; exact Seen.alloc acc _
      have kB1 : Blk wa1 w1.drew.heap.size [.int .i64 0, .int .i64 0] 33 := by rw [hm1]; exact Blk.new _ _ _
      have kBg1 : w1.heap.size ≤ w1.drew.heap.size := Below.size acc
      clear hm1
      simp only [Z1,Z2,Z3,Z4]
      refine wpAnyH_ready (rs := [3, 8]) (by kernel_rfl) (by simp) ?_
      refine aCall 3 (some 25) 76 #[.int .i64 f.mg.a] (by kernel_rfl) (by kernel_rfl) (by kernel_rfl) (by kernel_rfl) ?_ ?_
      · refine (TA.out _).mono ?_
        rintro e wc2 ⟨rfl, hb⟩
        have acc2 : Seen w1 wc2 := Seen.next acc1 hb
        have kB2 := Blk.seen kB1 hb
        clear hb
        refine ⟨_, rfl, acc2, ?_⟩
        simp only [Z1,Z2,Z3,Z4]
        refine wpAnyH_ready (rs := [7, 8]) (by kernel_rfl) (by simp) ?_
        refine aCall 7 (some 29) 76 #[.int .i64 f.mg.c] (by kernel_rfl) (by kernel_rfl) (by kernel_rfl) (by kernel_rfl) ?_ ?_
        · refine (BA.out _).mono ?_
          rintro e wc3 ⟨rfl, hb⟩
          have acc3 : Seen w1 wc3 := Seen.next acc2 hb
          have kB3 := Blk.seen kB2 hb
          clear hb
          refine ⟨_, rfl, acc3, ?_⟩
          simp only [Z1,Z2,Z3,Z4]
          refine hRun 8 (some 12) (.pointer (some ⟨wc3.heap.size, 0, none⟩)) (by kernel_rfl) (by kernel_rfl) (by kernel_rfl) (by kernel_rfl) (by kernel_rfl) (show Seen w1 (wc3.alloc (.cells #[.int .i64 0, .int .i64 0] 33)) from Seen.alloc acc3 _) ?_
          obtain ⟨wa4, hm4⟩ : ∃ x, x = wc3.alloc (.cells #[.int .i64 0, .int .i64 0] 33) := ⟨_, rfl⟩
          rw [← hm4]
          have acc4 : Seen w1 wa4 := by rw [hm4]; exact Seen.alloc acc3 _
          have kA4 : Blk wa4 wc3.heap.size [.int .i64 0, .int .i64 0] 33 := by rw [hm4]; exact Blk.new _ _ _
          have kAg4 : w1.heap.size ≤ wc3.heap.size := Below.size acc3
          have kB4 : Blk wa4 w1.drew.heap.size [.int .i64 0, .int .i64 0] 33 := by rw [hm4]; exact Blk.alloc kB3 _
          have hne4 : w1.drew.heap.size < wc3.heap.size := Blk.lt kB3
          clear hm4
          simp only [Z1,Z2,Z3,Z4]
          refine ZK 10 none (run_skip_by (Instr.storeAt 33 (.pointer (some ⟨wc3.heap.size, 0, none⟩)) (.agg #[.int .i64 T.p, .int .i64 T.n])) (by kernel_rfl) (st43 T.p T.n kA4 (Nat.le_refl _))) ((seen_set (o := 1) (v := .int .i64 T.n) (seen_set (o := 0) (v := .int .i64 T.p) acc4 kAg4) kAg4)) ?_
          simp only [Act.put]
          refine ZK 11 none (run_skip_by (Instr.storeAt 33 (.pointer (some ⟨w1.drew.heap.size, 0, none⟩)) (.agg #[.int .i64 B.p, .int .i64 B.n])) (by kernel_rfl) (st43 B.p B.n (Blk.other (p := ⟨wc3.heap.size, 1, none⟩) (Blk.other (p := ⟨wc3.heap.size, 0, none⟩) kB4 (show wc3.heap.size ≠ w1.drew.heap.size by omega) (.int .i64 T.p)) (show wc3.heap.size ≠ w1.drew.heap.size by omega) (.int .i64 T.n)) (Nat.le_refl _))) ((seen_set (o := 1) (v := .int .i64 B.n) (seen_set (o := 0) (v := .int .i64 B.p) (seen_set (o := 1) (v := .int .i64 T.n) (seen_set (o := 0) (v := .int .i64 T.p) acc4 kAg4) kAg4) kBg1) kBg1)) ?_
          simp only [Act.put]
          refine wpAnyH_done (by kernel_rfl) ?_ _
          have z1 := (Blk.other (p := ⟨w1.drew.heap.size, 1, none⟩) (Blk.other (p := ⟨w1.drew.heap.size, 0, none⟩) (Blk.set (Blk.set kA4 0 (.int .i64 T.p)) 1 (.int .i64 T.n)) (show w1.drew.heap.size ≠ wc3.heap.size by omega) (.int .i64 B.p)) (show w1.drew.heap.size ≠ wc3.heap.size by omega) (.int .i64 B.n))
          have z2 := (Blk.set (Blk.set (Blk.other (p := ⟨wc3.heap.size, 1, none⟩) (Blk.other (p := ⟨wc3.heap.size, 0, none⟩) kB4 (show wc3.heap.size ≠ w1.drew.heap.size by omega) (.int .i64 T.p)) (show wc3.heap.size ≠ w1.drew.heap.size by omega) (.int .i64 T.n)) 0 (.int .i64 B.p)) 1 (.int .i64 B.n))
          have z3 := (seen_set (o := 1) (v := .int .i64 B.n) (seen_set (o := 0) (v := .int .i64 B.p) (seen_set (o := 1) (v := .int .i64 T.n) (seen_set (o := 0) (v := .int .i64 T.p) acc4 kAg4) kAg4) kBg1) kBg1)
          go_wp2_with fail
          go_meet
          exact ⟨_, _, rfl, rfl, kAg4, kBg1, by omega, z1, z2, z3⟩
        refine aRun 8 (some 12) (.pointer (some ⟨wc2.heap.size, 0, none⟩)) (by kernel_rfl) (by kernel_rfl) (by kernel_rfl) (by kernel_rfl) (show Seen w1 (wc2.alloc (.cells #[.int .i64 0, .int .i64 0] 33)) from Seen.alloc acc2 _) ?_ ?_
        · obtain ⟨wa3, hm3⟩ : ∃ x, x = wc2.alloc (.cells #[.int .i64 0, .int .i64 0] 33) := ⟨_, rfl⟩
          rw [← hm3]
          have acc3 : Seen w1 wa3 := by rw [hm3]; exact Seen.alloc acc2 _
          have kA3 : Blk wa3 wc2.heap.size [.int .i64 0, .int .i64 0] 33 := by rw [hm3]; exact Blk.new _ _ _
          have kAg3 : w1.heap.size ≤ wc2.heap.size := Below.size acc2
          have kB3 : Blk wa3 w1.drew.heap.size [.int .i64 0, .int .i64 0] 33 := by rw [hm3]; exact Blk.alloc kB2 _
          have hne3 : w1.drew.heap.size < wc2.heap.size := Blk.lt kB2
          clear hm3
          simp only [Z1,Z2,Z3,Z4]
          refine ZC 7 (some 29) 76 #[.int .i64 f.mg.c] ?_
          refine (BA.out _).mono ?_
          rintro e wc4 ⟨rfl, hb⟩
          have acc4 : Seen w1 wc4 := Seen.next acc3 hb
          have kA4 := Blk.seen kA3 hb
          have kB4 := Blk.seen kB3 hb
          clear hb
          refine ⟨_, rfl, acc4, ?_⟩
          simp only [Z1,Z2,Z3,Z4]
          refine ZK 10 none (run_skip_by (Instr.storeAt 33 (.pointer (some ⟨wc2.heap.size, 0, none⟩)) (.agg #[.int .i64 T.p, .int .i64 T.n])) (by kernel_rfl) (st43 T.p T.n kA4 (Nat.le_refl _))) ((seen_set (o := 1) (v := .int .i64 T.n) (seen_set (o := 0) (v := .int .i64 T.p) acc4 kAg3) kAg3)) ?_
          simp only [Act.put]
          refine ZK 11 none (run_skip_by (Instr.storeAt 33 (.pointer (some ⟨w1.drew.heap.size, 0, none⟩)) (.agg #[.int .i64 B.p, .int .i64 B.n])) (by kernel_rfl) (st43 B.p B.n (Blk.other (p := ⟨wc2.heap.size, 1, none⟩) (Blk.other (p := ⟨wc2.heap.size, 0, none⟩) kB4 (show wc2.heap.size ≠ w1.drew.heap.size by omega) (.int .i64 T.p)) (show wc2.heap.size ≠ w1.drew.heap.size by omega) (.int .i64 T.n)) (Nat.le_refl _))) ((seen_set (o := 1) (v := .int .i64 B.n) (seen_set (o := 0) (v := .int .i64 B.p) (seen_set (o := 1) (v := .int .i64 T.n) (seen_set (o := 0) (v := .int .i64 T.p) acc4 kAg3) kAg3) kBg1) kBg1)) ?_
          simp only [Act.put]
          refine wpAnyH_done (by kernel_rfl) ?_ _
          have z1 := (Blk.other (p := ⟨w1.drew.heap.size, 1, none⟩) (Blk.other (p := ⟨w1.drew.heap.size, 0, none⟩) (Blk.set (Blk.set kA4 0 (.int .i64 T.p)) 1 (.int .i64 T.n)) (show w1.drew.heap.size ≠ wc2.heap.size by omega) (.int .i64 B.p)) (show w1.drew.heap.size ≠ wc2.heap.size by omega) (.int .i64 B.n))
          have z2 := (Blk.set (Blk.set (Blk.other (p := ⟨wc2.heap.size, 1, none⟩) (Blk.other (p := ⟨wc2.heap.size, 0, none⟩) kB4 (show wc2.heap.size ≠ w1.drew.heap.size by omega) (.int .i64 T.p)) (show wc2.heap.size ≠ w1.drew.heap.size by omega) (.int .i64 T.n)) 0 (.int .i64 B.p)) 1 (.int .i64 B.n))
          have z3 := (seen_set (o := 1) (v := .int .i64 B.n) (seen_set (o := 0) (v := .int .i64 B.p) (seen_set (o := 1) (v := .int .i64 T.n) (seen_set (o := 0) (v := .int .i64 T.p) acc4 kAg3) kAg3) kBg1) kBg1)
          go_wp2_with fail
          go_meet
          exact ⟨_, _, rfl, rfl, kAg3, kBg1, by omega, z1, z2, z3⟩
        exact AllReadyH.nil
      refine aRun 8 (some 12) (.pointer (some ⟨wa1.heap.size, 0, none⟩)) (by kernel_rfl) (by kernel_rfl) (by kernel_rfl) (by kernel_rfl) (show Seen w1 (wa1.alloc (.cells #[.int .i64 0, .int .i64 0] 33)) from Seen.alloc acc1 _) ?_ ?_
      · obtain ⟨wa2, hm2⟩ : ∃ x, x = wa1.alloc (.cells #[.int .i64 0, .int .i64 0] 33) := ⟨_, rfl⟩
        rw [← hm2]
        have acc2 : Seen w1 wa2 := by rw [hm2]; exact Seen.alloc acc1 _
        have kA2 : Blk wa2 wa1.heap.size [.int .i64 0, .int .i64 0] 33 := by rw [hm2]; exact Blk.new _ _ _
        have kAg2 : w1.heap.size ≤ wa1.heap.size := Below.size acc1
        have kB2 : Blk wa2 w1.drew.heap.size [.int .i64 0, .int .i64 0] 33 := by rw [hm2]; exact Blk.alloc kB1 _
        have hne2 : w1.drew.heap.size < wa1.heap.size := Blk.lt kB1
        clear hm2
        simp only [Z1,Z2,Z3,Z4]
        refine ZC 3 (some 25) 76 #[.int .i64 f.mg.a] ?_
        refine (TA.out _).mono ?_
        rintro e wc3 ⟨rfl, hb⟩
        have acc3 : Seen w1 wc3 := Seen.next acc2 hb
        have kA3 := Blk.seen kA2 hb
        have kB3 := Blk.seen kB2 hb
        clear hb
        refine ⟨_, rfl, acc3, ?_⟩
        simp only [Z1,Z2,Z3,Z4]
        refine ZC 7 (some 29) 76 #[.int .i64 f.mg.c] ?_
        refine (BA.out _).mono ?_
        rintro e wc4 ⟨rfl, hb⟩
        have acc4 : Seen w1 wc4 := Seen.next acc3 hb
        have kA4 := Blk.seen kA3 hb
        have kB4 := Blk.seen kB3 hb
        clear hb
        refine ⟨_, rfl, acc4, ?_⟩
        simp only [Z1,Z2,Z3,Z4]
        refine ZK 10 none (run_skip_by (Instr.storeAt 33 (.pointer (some ⟨wa1.heap.size, 0, none⟩)) (.agg #[.int .i64 T.p, .int .i64 T.n])) (by kernel_rfl) (st43 T.p T.n kA4 (Nat.le_refl _))) ((seen_set (o := 1) (v := .int .i64 T.n) (seen_set (o := 0) (v := .int .i64 T.p) acc4 kAg2) kAg2)) ?_
        simp only [Act.put]
        refine ZK 11 none (run_skip_by (Instr.storeAt 33 (.pointer (some ⟨w1.drew.heap.size, 0, none⟩)) (.agg #[.int .i64 B.p, .int .i64 B.n])) (by kernel_rfl) (st43 B.p B.n (Blk.other (p := ⟨wa1.heap.size, 1, none⟩) (Blk.other (p := ⟨wa1.heap.size, 0, none⟩) kB4 (show wa1.heap.size ≠ w1.drew.heap.size by omega) (.int .i64 T.p)) (show wa1.heap.size ≠ w1.drew.heap.size by omega) (.int .i64 T.n)) (Nat.le_refl _))) ((seen_set (o := 1) (v := .int .i64 B.n) (seen_set (o := 0) (v := .int .i64 B.p) (seen_set (o := 1) (v := .int .i64 T.n) (seen_set (o := 0) (v := .int .i64 T.p) acc4 kAg2) kAg2) kBg1) kBg1)) ?_
        simp only [Act.put]
        refine wpAnyH_done (by kernel_rfl) ?_ _
        have z1 := (Blk.other (p := ⟨w1.drew.heap.size, 1, none⟩) (Blk.other (p := ⟨w1.drew.heap.size, 0, none⟩) (Blk.set (Blk.set kA4 0 (.int .i64 T.p)) 1 (.int .i64 T.n)) (show w1.drew.heap.size ≠ wa1.heap.size by omega) (.int .i64 B.p)) (show w1.drew.heap.size ≠ wa1.heap.size by omega) (.int .i64 B.n))
        have z2 := (Blk.set (Blk.set (Blk.other (p := ⟨wa1.heap.size, 1, none⟩) (Blk.other (p := ⟨wa1.heap.size, 0, none⟩) kB4 (show wa1.heap.size ≠ w1.drew.heap.size by omega) (.int .i64 T.p)) (show wa1.heap.size ≠ w1.drew.heap.size by omega) (.int .i64 T.n)) 0 (.int .i64 B.p)) 1 (.int .i64 B.n))
        have z3 := (seen_set (o := 1) (v := .int .i64 B.n) (seen_set (o := 0) (v := .int .i64 B.p) (seen_set (o := 1) (v := .int .i64 T.n) (seen_set (o := 0) (v := .int .i64 T.p) acc4 kAg2) kAg2) kBg1) kBg1)
        go_wp2_with fail
        go_meet
        exact ⟨_, _, rfl, rfl, kAg2, kBg1, by omega, z1, z2, z3⟩
      exact AllReadyH.nil
    exact AllReadyH.nil
  obtain ⟨A, Bb, rfl, rfl, gA, gB, hAB, kA, kB, s2⟩ := hcut
  have S3 := Lib.hid (s1.out.trans s2)
  clear TA BA s2
  have w1n : w1.heap.size ≥ W.heap.size := s1.out.size
  go_upto_region 3 with fail
  go_cut [14] (fun u wx => (∃ C, u = .pointer (some ⟨C, 0, none⟩) ∧ wc.heap.size ≤ C ∧ Blk wx C (chl ⟨⟨0, 0⟩, ⟨0, 0⟩, J, t, x⟩) 35 ∧ Seen wc wx) : Value → World → Prop)
  case first =>
    have acc := (Seen.refl wc).drew
    refine wp_region_held_drew (S := fun w' => Seen wc w') (by kernel_rfl) acc (fun _ => ?_)
    refine ZU 0 (some 30) (.agg #[.int .i64 T.p, .int .i64 T.n]) (fun _ hS => run_by (Instr.loadAt 33 (.pointer (some ⟨A, 0, none⟩))) (by kernel_rfl) (lda43 (vs := [.int .i64 T.p, .int .i64 T.n]) ((kA.seen hS).mid 0 2) rfl)) acc ?_
    simp only [Z1,Z2,Z3,Z4]
    refine ZT 1 (some 31) (.pointer (some ⟨(w.heap.size + 1), 2, none⟩)) acc ?_
    simp only [Z1,Z2,Z3,Z4]
    refine ZU 2 (some 32) (.agg #[.int .i64 tp, .int .i64 tn]) (fun _ hS => run_by (Instr.loadAt 33 (.pointer (some ⟨(w.heap.size + 1), 2, none⟩))) (by kernel_rfl) (lda43 (vs := [.int .i64 tp, .int .i64 tn]) ((K1.out.seen (S3.out.trans hS)).mid 2 2) rfl)) acc ?_
    simp only [Z1,Z2,Z3,Z4]
    refine ZU 4 (some 34) (.agg #[.slice a y.length c, .int .i64 ed, .int .i64 tp, .int .i64 tn, .int .i64 up, .int .i64 un, .bool att]) (fun _ hS => run_by (Instr.loadAt 41 (.pointer (some ⟨(w.heap.size + 1), 0, none⟩))) (by kernel_rfl) (lda51 (vs := [.slice a y.length c, .int .i64 ed, .int .i64 tp, .int .i64 tn, .int .i64 up, .int .i64 un, .bool att]) ((K1.out.seen (S3.out.trans hS)).mid 0 7) rfl)) acc ?_
    simp only [Z1,Z2,Z3,Z4]
    refine ZU 5 (some 35) (.agg #[.bool top, .bool bot, .bool flat]) (fun _ hS => run_by (Instr.loadAt 131 (.pointer (some ⟨(w.heap.size + 1 + 1), 0, none⟩))) (by kernel_rfl) (lda94 (vs := [.bool top, .bool bot, .bool flat]) ((K2.out.seen (S3.out.trans hS)).mid 0 3) rfl)) acc ?_
    simp only [Z1,Z2,Z3,Z4]
    refine ZU 6 (some 36) (.agg #[.bool au, .int .i64 n, .int .i64 lo, .int .i64 hi]) (fun _ hS => run_by (Instr.loadAt 127 (.pointer (some ⟨(w.heap.size + 1 + 1 + 1), 0, none⟩))) (by kernel_rfl) (lda103 (vs := [.bool au, .int .i64 n, .int .i64 lo, .int .i64 hi]) ((K3.out.seen (S3.out.trans hS)).mid 0 4) rfl)) acc ?_
    simp only [Z1,Z2,Z3,Z4]
    refine ZT 8 (some 38) (.int .i64 x) acc ?_
    simp only [Z1,Z2,Z3,Z4]
    refine wpAnyH_ready (rs := [3, 10]) (by kernel_rfl) (by simp) ?_
    refine aCall 3 (some 33) 77 #[.agg #[.int .i64 T.p, .int .i64 T.n], .agg #[.int .i64 tp, .int .i64 tn]] (by kernel_rfl) (by kernel_rfl) (by kernel_rfl) (by kernel_rfl) ?_ ?_
    · refine (JA.out _).mono ?_
      rintro e wd1 ⟨rfl, hb⟩
      have acc1 : Seen wc wd1 := Seen.next acc hb
      clear hb
      refine ⟨_, rfl, acc1, ?_⟩
      simp only [Z1,Z2,Z3,Z4]
      refine wpAnyH_ready (rs := [7, 10]) (by kernel_rfl) (by simp) ?_
      refine aCall 7 (some 37) 78 #[.agg #[.slice a y.length c, .int .i64 ed, .int .i64 tp, .int .i64 tn, .int .i64 up, .int .i64 un, .bool att], .agg #[.bool top, .bool bot, .bool flat], .agg #[.bool au, .int .i64 n, .int .i64 lo, .int .i64 hi]] (by kernel_rfl) (by kernel_rfl) (by kernel_rfl) (by kernel_rfl) ?_ ?_
      · refine (XA.out _).mono ?_
        rintro e wd2 ⟨rfl, hb⟩
        have acc2 : Seen wc wd2 := Seen.next acc1 hb
        clear hb
        refine ⟨_, rfl, acc2, ?_⟩
        simp only [Z1,Z2,Z3,Z4]
        refine ZT 9 (some 39) (.agg #[.int .i64 0, .int .i64 0, .int .i64 0, .int .i64 0, .int .i64 J.p, .int .i64 J.n, .bool t, .int .i64 x]) acc2 ?_
        simp only [Z1,Z2,Z3,Z4]
        refine hRun 10 (some 14) (.pointer (some ⟨wd2.heap.size, 0, none⟩)) (by kernel_rfl) (by kernel_rfl) (by kernel_rfl) (by kernel_rfl) (by kernel_rfl) (show Seen wc (wd2.alloc (.cells #[.int .i64 0, .int .i64 0, .int .i64 0, .int .i64 0, .int .i64 0, .int .i64 0, .bool false, .int .i64 0] 35)) from Seen.alloc acc2 _) ?_
        obtain ⟨wa3, hm3⟩ : ∃ x, x = wd2.alloc (.cells #[.int .i64 0, .int .i64 0, .int .i64 0, .int .i64 0, .int .i64 0, .int .i64 0, .bool false, .int .i64 0] 35) := ⟨_, rfl⟩
        rw [← hm3]
        have acc3 : Seen wc wa3 := by rw [hm3]; exact Seen.alloc acc2 _
        have kC3 : Blk wa3 wd2.heap.size [.int .i64 0, .int .i64 0, .int .i64 0, .int .i64 0, .int .i64 0, .int .i64 0, .bool false, .int .i64 0] 35 := by rw [hm3]; exact Blk.new _ _ _
        have kCg : wc.heap.size ≤ wd2.heap.size := Below.size acc2
        clear hm3
        simp only [Z1,Z2,Z3,Z4]
        refine ZK 11 none (run_skip_by (Instr.storeAt 35 (.pointer (some ⟨wd2.heap.size, 0, none⟩)) (.agg #[.int .i64 0, .int .i64 0, .int .i64 0, .int .i64 0, .int .i64 J.p, .int .i64 J.n, .bool t, .int .i64 x])) (by kernel_rfl) (stCh ⟨⟨0, 0⟩, ⟨0, 0⟩, J, t, x⟩ kC3 rfl)) ((seen_sets (o := 0) (vs := chl ⟨⟨0, 0⟩, ⟨0, 0⟩, J, t, x⟩) acc3 kCg)) ?_
        simp only [Act.put]
        refine wpAnyH_done (by kernel_rfl) ?_ _
        have z1 := (blkCh ⟨⟨0, 0⟩, ⟨0, 0⟩, J, t, x⟩ kC3 rfl)
        have z3 := (seen_sets (o := 0) (vs := chl ⟨⟨0, 0⟩, ⟨0, 0⟩, J, t, x⟩) acc3 kCg)
        go_wp2_with fail
        go_meet
        exact ⟨_, rfl, kCg, z1, z3⟩
      refine aRun 10 (some 14) (.pointer (some ⟨wd1.heap.size, 0, none⟩)) (by kernel_rfl) (by kernel_rfl) (by kernel_rfl) (by kernel_rfl) (show Seen wc (wd1.alloc (.cells #[.int .i64 0, .int .i64 0, .int .i64 0, .int .i64 0, .int .i64 0, .int .i64 0, .bool false, .int .i64 0] 35)) from Seen.alloc acc1 _) ?_ ?_
      · obtain ⟨wa2, hm2⟩ : ∃ x, x = wd1.alloc (.cells #[.int .i64 0, .int .i64 0, .int .i64 0, .int .i64 0, .int .i64 0, .int .i64 0, .bool false, .int .i64 0] 35) := ⟨_, rfl⟩
        rw [← hm2]
        have acc2 : Seen wc wa2 := by rw [hm2]; exact Seen.alloc acc1 _
        have kC2 : Blk wa2 wd1.heap.size [.int .i64 0, .int .i64 0, .int .i64 0, .int .i64 0, .int .i64 0, .int .i64 0, .bool false, .int .i64 0] 35 := by rw [hm2]; exact Blk.new _ _ _
        have kCg : wc.heap.size ≤ wd1.heap.size := Below.size acc1
        clear hm2
        simp only [Z1,Z2,Z3,Z4]
        refine ZC 7 (some 37) 78 #[.agg #[.slice a y.length c, .int .i64 ed, .int .i64 tp, .int .i64 tn, .int .i64 up, .int .i64 un, .bool att], .agg #[.bool top, .bool bot, .bool flat], .agg #[.bool au, .int .i64 n, .int .i64 lo, .int .i64 hi]] ?_
        refine (XA.out _).mono ?_
        rintro e wd3 ⟨rfl, hb⟩
        have acc3 : Seen wc wd3 := Seen.next acc2 hb
        have kC3 := Blk.seen kC2 hb
        clear hb
        refine ⟨_, rfl, acc3, ?_⟩
        simp only [Z1,Z2,Z3,Z4]
        refine ZT 9 (some 39) (.agg #[.int .i64 0, .int .i64 0, .int .i64 0, .int .i64 0, .int .i64 J.p, .int .i64 J.n, .bool t, .int .i64 x]) acc3 ?_
        simp only [Z1,Z2,Z3,Z4]
        refine ZK 11 none (run_skip_by (Instr.storeAt 35 (.pointer (some ⟨wd1.heap.size, 0, none⟩)) (.agg #[.int .i64 0, .int .i64 0, .int .i64 0, .int .i64 0, .int .i64 J.p, .int .i64 J.n, .bool t, .int .i64 x])) (by kernel_rfl) (stCh ⟨⟨0, 0⟩, ⟨0, 0⟩, J, t, x⟩ kC3 rfl)) ((seen_sets (o := 0) (vs := chl ⟨⟨0, 0⟩, ⟨0, 0⟩, J, t, x⟩) acc3 kCg)) ?_
        simp only [Act.put]
        refine wpAnyH_done (by kernel_rfl) ?_ _
        have z1 := (blkCh ⟨⟨0, 0⟩, ⟨0, 0⟩, J, t, x⟩ kC3 rfl)
        have z3 := (seen_sets (o := 0) (vs := chl ⟨⟨0, 0⟩, ⟨0, 0⟩, J, t, x⟩) acc3 kCg)
        go_wp2_with fail
        go_meet
        exact ⟨_, rfl, kCg, z1, z3⟩
      exact AllReadyH.nil
    refine aRun 10 (some 14) (.pointer (some ⟨wc.drew.heap.size, 0, none⟩)) (by kernel_rfl) (by kernel_rfl) (by kernel_rfl) (by kernel_rfl) (show Seen wc (wc.drew.alloc (.cells #[.int .i64 0, .int .i64 0, .int .i64 0, .int .i64 0, .int .i64 0, .int .i64 0, .bool false, .int .i64 0] 35)) from Seen.alloc acc _) ?_ ?_
    · obtain ⟨wa1, hm1⟩ : ∃ x, x = wc.drew.alloc (.cells #[.int .i64 0, .int .i64 0, .int .i64 0, .int .i64 0, .int .i64 0, .int .i64 0, .bool false, .int .i64 0] 35) := ⟨_, rfl⟩
      rw [← hm1]
      have acc1 : Seen wc wa1 := by rw [hm1]; exact Seen.alloc acc _
      have kC1 : Blk wa1 wc.drew.heap.size [.int .i64 0, .int .i64 0, .int .i64 0, .int .i64 0, .int .i64 0, .int .i64 0, .bool false, .int .i64 0] 35 := by rw [hm1]; exact Blk.new _ _ _
      have kCg : wc.heap.size ≤ wc.drew.heap.size := Below.size acc
      clear hm1
      simp only [Z1,Z2,Z3,Z4]
      refine ZC 3 (some 33) 77 #[.agg #[.int .i64 T.p, .int .i64 T.n], .agg #[.int .i64 tp, .int .i64 tn]] ?_
      refine (JA.out _).mono ?_
      rintro e wd2 ⟨rfl, hb⟩
      have acc2 : Seen wc wd2 := Seen.next acc1 hb
      have kC2 := Blk.seen kC1 hb
      clear hb
      refine ⟨_, rfl, acc2, ?_⟩
      simp only [Z1,Z2,Z3,Z4]
      refine ZC 7 (some 37) 78 #[.agg #[.slice a y.length c, .int .i64 ed, .int .i64 tp, .int .i64 tn, .int .i64 up, .int .i64 un, .bool att], .agg #[.bool top, .bool bot, .bool flat], .agg #[.bool au, .int .i64 n, .int .i64 lo, .int .i64 hi]] ?_
      refine (XA.out _).mono ?_
      rintro e wd3 ⟨rfl, hb⟩
      have acc3 : Seen wc wd3 := Seen.next acc2 hb
      have kC3 := Blk.seen kC2 hb
      clear hb
      refine ⟨_, rfl, acc3, ?_⟩
      simp only [Z1,Z2,Z3,Z4]
      refine ZT 9 (some 39) (.agg #[.int .i64 0, .int .i64 0, .int .i64 0, .int .i64 0, .int .i64 J.p, .int .i64 J.n, .bool t, .int .i64 x]) acc3 ?_
      simp only [Z1,Z2,Z3,Z4]
      refine ZK 11 none (run_skip_by (Instr.storeAt 35 (.pointer (some ⟨wc.drew.heap.size, 0, none⟩)) (.agg #[.int .i64 0, .int .i64 0, .int .i64 0, .int .i64 0, .int .i64 J.p, .int .i64 J.n, .bool t, .int .i64 x])) (by kernel_rfl) (stCh ⟨⟨0, 0⟩, ⟨0, 0⟩, J, t, x⟩ kC3 rfl)) ((seen_sets (o := 0) (vs := chl ⟨⟨0, 0⟩, ⟨0, 0⟩, J, t, x⟩) acc3 kCg)) ?_
      simp only [Act.put]
      refine wpAnyH_done (by kernel_rfl) ?_ _
      have z1 := (blkCh ⟨⟨0, 0⟩, ⟨0, 0⟩, J, t, x⟩ kC3 rfl)
      have z3 := (seen_sets (o := 0) (vs := chl ⟨⟨0, 0⟩, ⟨0, 0⟩, J, t, x⟩) acc3 kCg)
      go_wp2_with fail
      go_meet
      exact ⟨_, rfl, kCg, z1, z3⟩
    exact AllReadyH.nil
  obtain ⟨C, rfl, gC0, kC, s4⟩ := hcut
  have hBlt := kB.lt
  have kB4 := kB.seen s4
  have S4 := Lib.hid (S3.out.trans s4)
  clear JA XA s4 kA
  go_upto_region 4 with fail
  have hBC : Bb ≠ C := by omega
  have hCB : C ≠ Bb := by omega
  rename World => wd
  have gC : W.heap.size ≤ C := by have := S3.out.size; omega
  have acc := S4.out
  have kC' := kC.drew
  have kB' := kB4.drew
  have acc' := acc.drew
  refine wp_region_held_drew (S := fun w' => w'.rangeAt C 4 [.int .i64 J.p, .int .i64 J.n] ∧ w'.rangeAt Bb 0 [.int .i64 B.p, .int .i64 B.n]) (by kernel_rfl) ⟨kC'.mid 4 2, kB'.mid 0 2⟩ (fun _ => ?_)
  refine ZT 0 (some 40) (.pointer (some ⟨C, 4, none⟩)) ⟨kC'.mid 4 2, kB'.mid 0 2⟩ ?_
  simp only [Z1,Z2,Z3,Z4]
  refine ZU 1 (some 41) (.agg #[.int .i64 J.p, .int .i64 J.n]) (fun _ hS => run_by (Instr.loadAt 33 (.pointer (some ⟨C, 4, none⟩))) (by kernel_rfl) (lda43 (vs := [.int .i64 J.p, .int .i64 J.n]) hS.1 rfl)) ⟨kC'.mid 4 2, kB'.mid 0 2⟩ ?_
  simp only [Z1,Z2,Z3,Z4]
  refine ZU 2 (some 42) (.agg #[.int .i64 B.p, .int .i64 B.n]) (fun _ hS => run_by (Instr.loadAt 33 (.pointer (some ⟨Bb, 0, none⟩))) (by kernel_rfl) (lda43 (vs := [.int .i64 B.p, .int .i64 B.n]) hS.2 rfl)) ⟨kC'.mid 4 2, kB'.mid 0 2⟩ ?_
  simp only [Z1,Z2,Z3,Z4]
  refine ZT 3 (some 43) (.pointer (some ⟨C, 0, none⟩)) ⟨kC'.mid 4 2, kB'.mid 0 2⟩ ?_
  simp only [Z1,Z2,Z3,Z4]
  refine ZK 4 none (run_skip_by (Instr.storeAt 33 (.pointer (some ⟨C, 0, none⟩)) (.agg #[.int .i64 J.p, .int .i64 J.n])) (by kernel_rfl) (st43 J.p J.n kC' (by show 0 + 2 ≤ 8; omega))) (⟨Blk.mid (Blk.set (Blk.set kC' 0 (.int .i64 J.p)) 1 (.int .i64 J.n)) 4 2, Blk.mid (Blk.other (p := ⟨C, 1, none⟩) (Blk.other (p := ⟨C, 0, none⟩) kB' hCB (.int .i64 J.p)) hCB (.int .i64 J.n)) 0 2⟩) ?_
  simp only [Act.put]
  refine ZT 5 (some 44) (.pointer (some ⟨C, 2, none⟩)) ⟨Blk.mid (Blk.set (Blk.set kC' 0 (.int .i64 J.p)) 1 (.int .i64 J.n)) 4 2, Blk.mid (Blk.other (p := ⟨C, 1, none⟩) (Blk.other (p := ⟨C, 0, none⟩) kB' hCB (.int .i64 J.p)) hCB (.int .i64 J.n)) 0 2⟩ ?_
  simp only [Z1,Z2,Z3,Z4]
  refine ZK 6 none (run_skip_by (Instr.storeAt 33 (.pointer (some ⟨C, 2, none⟩)) (.agg #[.int .i64 B.p, .int .i64 B.n])) (by kernel_rfl) (st43 B.p B.n (Blk.set (Blk.set kC' 0 (.int .i64 J.p)) 1 (.int .i64 J.n)) (by show 2 + 2 ≤ 8; omega))) (⟨Blk.mid (Blk.set (Blk.set (Blk.set (Blk.set kC' 0 (.int .i64 J.p)) 1 (.int .i64 J.n)) 2 (.int .i64 B.p)) 3 (.int .i64 B.n)) 4 2, Blk.mid (Blk.other (p := ⟨C, 3, none⟩) (Blk.other (p := ⟨C, 2, none⟩) (Blk.other (p := ⟨C, 1, none⟩) (Blk.other (p := ⟨C, 0, none⟩) kB' hCB (.int .i64 J.p)) hCB (.int .i64 J.n)) hCB (.int .i64 B.p)) hCB (.int .i64 B.n)) 0 2⟩) ?_
  simp only [Act.put]
  refine wpAnyH_done (by kernel_rfl) ?_ _
  have kV := (Blk.set (Blk.set (Blk.set (Blk.set kC' 0 (.int .i64 J.p)) 1 (.int .i64 J.n)) 2 (.int .i64 B.p)) 3 (.int .i64 B.n))
  have aV := (seen_set (o := 3) (v := .int .i64 B.n) (seen_set (o := 2) (v := .int .i64 B.p) (seen_set (o := 1) (v := .int .i64 J.n) (seen_set (o := 0) (v := .int .i64 J.p) acc' gC) gC) gC) gC)
  have kBV := (Blk.other (p := ⟨C, 3, none⟩) (Blk.other (p := ⟨C, 2, none⟩) (Blk.other (p := ⟨C, 1, none⟩) (Blk.other (p := ⟨C, 0, none⟩) kB' hCB (.int .i64 J.p)) hCB (.int .i64 J.n)) hCB (.int .i64 B.p)) hCB (.int .i64 B.n))
  rw [show (((((chl ⟨⟨0, 0⟩, ⟨0, 0⟩, J, t, x⟩).set 0 (.int .i64 J.p)).set 1 (.int .i64 J.n)).set 2 (.int .i64 B.p)).set 3 (.int .i64 B.n)) = chl ⟨J, B, J, t, x⟩ from rfl] at kV
  have hCR : C ≠ w.heap.size + 1 + 1 + 1 + 1 := by have := hsz.out; omega
  generalize (World.setCell _ _ _) = V at kV aV kBV ⊢
  have rC := kV.rulesCh
  have rB := kBV.rules2
  have rE := fun w' (h : Seen W w') => (K2.out.seen h).cell 1
  have rP := fun w' (h : Seen W w') => (K1.out.seen h).cell 4
  have rQ := fun w' (h : Seen W w') => (K1.out.seen h).cell 5
  have kR := Lib.hid (K4.out.seen aV)
  have c0 := rC V (Seen.refl V)
  have c1 := rB V (Seen.refl V)
  have c2 := rE V aV
  have c3 := rP V aV
  have c4 := rQ V aV
  have AV := Lib.hid aV
  have KV := Lib.hid kV
  clear rB rE rP rQ K0 K1 K2 K3 K4 kV kBV aV S3 S4 s1 r0 sr
  cases t
  · cases bot
    · have kR6 := kR.out
      clear KA MA
      go_wp2_with (first
        | (refine wpList_storeCh rfl (.tmp 8) (.tmp 64) rfl (w.heap.size + 1 + 1 + 1 + 1) [.int .i64 0, .int .i64 0, .int .i64 0, .int .i64 0, .int .i64 0, .int .i64 0, .bool false, .int .i64 0] ⟨J, B, J, false, x⟩ rfl rfl rfl kR6 ?_; clear kR6; intro w9 b9 t9))
      refine bodyPost_ret (results_two rfl rfl rfl (run_loadC b9)) rfl ?_
      refine ⟨by rw [HV.out.2, HV.out.1]; rfl, Seen.turns (SW.out.trans AV.out) t9 (by omega)⟩
    · clear KA
      go_wp2_with (first
        | (go_at_call 77; refine (MA.out _).mono ?_; clear MA; rintro r w5 ⟨rfl, hb⟩; have s5 := Lib.hid (AV.out.trans hb); have c5 := rC w5 hb; have kR6 := Blk.other (p := ⟨C, 3, none⟩) (Blk.other (p := ⟨C, 2, none⟩) (kR.out.seen hb) hCR (.int .i64 M.p)) hCR (.int .i64 M.n); clear hb c0)
        | (refine wpList_storeCh rfl (.tmp 8) (.tmp 64) rfl (w.heap.size + 1 + 1 + 1 + 1) [.int .i64 0, .int .i64 0, .int .i64 0, .int .i64 0, .int .i64 0, .int .i64 0, .bool false, .int .i64 0] ⟨J, M, J, false, x⟩ rfl rfl rfl kR6 ?_; clear kR6; intro w9 b9 t9))
      refine bodyPost_ret (results_two rfl rfl rfl (run_loadC b9)) rfl ?_
      refine ⟨by rw [HV.out.2, HV.out.1]; rfl, Seen.turns (SW.out.trans (seen_set (o := 3) (v := .int .i64 M.n) (seen_set (o := 2) (v := .int .i64 M.p) s5.out gC) gC)) t9 (by omega)⟩
  · clear MA
    go_wp2_with (first
        | (go_at_call 77; refine (KA.out _).mono ?_; clear KA; rintro r w5 ⟨rfl, hb⟩; have s5 := Lib.hid (AV.out.trans hb); have c5 := rC w5 hb; have kR6 := Blk.other (p := ⟨C, 3, none⟩) (Blk.other (p := ⟨C, 2, none⟩) (Blk.other (p := ⟨C, 1, none⟩) (Blk.other (p := ⟨C, 0, none⟩) (kR.out.seen hb) hCR (.int .i64 K.p)) hCR (.int .i64 K.n)) hCR (.int .i64 K.p)) hCR (.int .i64 K.n); clear hb c0)
        | (refine wpList_storeCh rfl (.tmp 8) (.tmp 64) rfl (w.heap.size + 1 + 1 + 1 + 1) [.int .i64 0, .int .i64 0, .int .i64 0, .int .i64 0, .int .i64 0, .int .i64 0, .bool false, .int .i64 0] ⟨K, K, J, true, x⟩ rfl rfl rfl kR6 ?_; clear kR6; intro w9 b9 t9))
    refine bodyPost_ret (results_two rfl rfl rfl (run_loadC b9)) rfl ?_
    refine ⟨by rw [HV.out.2, HV.out.1]; rfl, Seen.turns (SW.out.trans (seen_set (o := 3) (v := .int .i64 K.n) (seen_set (o := 2) (v := .int .i64 K.p) (seen_set (o := 1) (v := .int .i64 K.n) (seen_set (o := 0) (v := .int .i64 K.p) s5.out gC) gC) gC) gC)) t9 (by omega)⟩
end Go.Proofs.YtngeaigkafamiaaGreat

