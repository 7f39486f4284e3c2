/- Texts of the proof, merged: Solve, FAcross, Build, FMem, FMid, Awake. -/
import Derived.Test.YtngeaigkafamiaaGreatM11
import Derived.Test.YtngeaigkafamiaaGreatM7
import Derived.Test.YtngeaigkafamiaaGreatM8
import Derived.Test.YtngeaigkafamiaaGreatM4
import Derived.Great.BuildSlice
namespace Go.Proofs.YtngeaigkafamiaaGreat
open Go.ChangeShapes Go.WideShapes Go.ChangeAt Go.RowKit
set_option maxRecDepth 100000
set_option linter.unusedVariables false
set_option maxHeartbeats 2000000 in
theorem bsolve_any (b : Bx) (w : World) :
    Calls Tryz.prog 102 #[.func (.func 103) #[bxv b] #[], szv b.wd, .int .i64 b.lo, .int .i64 b.hi] w fun e w' => e = .returned (.tuple #[o3v (tryO b (lastS b)), .bool (tryB b (lastS b))]) ∧ Seen w w' := by
  have hmf : ∀ (fn : Fn) (first cap : Array Value) (w : World), (Instr.makeFunc fn first cap).run Tryz.prog w = .ok (.func fn first cap) w := fun _ _ _ _ => rfl
  have C := fun w => within_any b w
  obtain ⟨o, ho⟩ : ∃ x, tryO b (lastS b) = x := ⟨_, rfl⟩
  obtain ⟨p, hp⟩ : ∃ x, tryB b (lastS b) = x := ⟨_, rfl⟩
  rw [ho, hp] at C
  rw [ho, hp]
  clear ho hp
  obtain ⟨l, m, r⟩ := o
  obtain ⟨W, hW⟩ : ∃ W, W = (w.alloc (.cells #[.bool b.wd.au, .int .i64 b.wd.n] 24)).alloc (.cells #[.int .i64 0, .int .i64 0, .int .i64 0] 159) := ⟨_, rfl⟩
  have ks : Blk W w.heap.size [.bool b.wd.au, .int .i64 b.wd.n] 24 := by rw [hW]; exact (Blk.new w _ _).alloc _
  have ko : Blk W (w.heap.size + 1) [.int .i64 0, .int .i64 0, .int .i64 0] 159 := by rw [hW]; simpa using Blk.new (w.alloc (.cells #[.bool b.wd.au, .int .i64 b.wd.n] 24)) [.int .i64 0, .int .i64 0, .int .i64 0] 159
  have SW : Hid (Seen w W) := by rw [hW]; unfold Hid Seen; go_grown
  have HKO := Lib.hid ko
  have rs := ks.rules2 _ (Seen.refl W)
  clear ks ko
  go_enter Tryz.func102, Tryz.ntmps102
  go_upto_region 1 with fail
  rw [← hW]
  clear hW
  go_wp2_with (go_at_call 110; refine (C _).mono ?_; clear C; rintro e w1 ⟨rfl, hb⟩; have HB := Lib.hid hb; clear hb; have ro := (HKO.out.seen HB.out).rules3 _ (Seen.refl _))
  have z := (((HKO.out.seen HB.out).set 0 (.int .i64 l)).set 1 (.int .i64 m)).set 2 (.int .i64 r)
  have z0 := z.cell 0
  have z1 := z.cell 1
  have z2 := z.cell 2
  refine bodyPost_ret (by simp [results, Tryz.results102, go_sem, z0, z1, z2]; try rfl) rfl ?_
  exact ⟨rfl, Seen.set3 (SW.out.trans HB.out) (by omega)⟩
set_option maxHeartbeats 2000000 in
theorem solve_any (b : Bx) (w : World) :
    Calls Tryz.prog 89 #[bxv b] w fun e w' => e = .returned (.tuple #[o3v (solO b), .bool (solB b)]) ∧ Seen w w' := by
  have hmf : ∀ (fn : Fn) (first cap : Array Value) (w : World), (Instr.makeFunc fn first cap).run Tryz.prog w = .ok (.func fn first cap) w := fun _ _ _ _ => rfl
  have HF := Lib.hid (show solB b = (okF b && tryB b (lastS b)) ∧ solO b = (if okF b && tryB b (lastS b) then fillW b (lastS b) else zO) from ⟨rfl, rfl⟩)
  have HT := Lib.hid (show tryO b (lastS b) = if tryB b (lastS b) then fillW b (lastS b) else zO from rfl)
  have F := fun w => fitsIn_any b w
  have C := fun w => bsolve_any b w
  rw [HT.out] at C
  obtain ⟨f, hf⟩ : ∃ x, okF b = x := ⟨_, rfl⟩
  rw [HF.out.1, HF.out.2]
  rw [hf] at F
  rw [hf]
  clear hf HF HT
  obtain ⟨W, hW⟩ : ∃ W, W = (w.alloc (.cells (bxl b).toArray 185)).alloc (.cells #[.int .i64 0, .int .i64 0, .int .i64 0] 159) := ⟨_, rfl⟩
  have kb : Blk W w.heap.size (bxl b) 185 := by rw [hW]; exact (Blk.new w _ _).alloc _
  have ko : Blk W (w.heap.size + 1) [.int .i64 0, .int .i64 0, .int .i64 0] 159 := by rw [hW]; simpa using Blk.new (w.alloc (.cells (bxl b).toArray 185)) [.int .i64 0, .int .i64 0, .int .i64 0] 159
  have SW : Hid (Seen w W) := by rw [hW]; unfold Hid Seen; go_grown
  have HKO := Lib.hid ko
  have rb := kb.rulesB
  have sr := Seen.refl W
  clear ko
  cases f with
  | false =>
    have H0 := Lib.hid (show (if (false && tryB b (lastS b)) = true then fillW b (lastS b) else zO) = zO from rfl)
    rw [H0.out]
    clear C H0
    go_enter Tryz.func89, Tryz.ntmps89
    go_upto_region 1 with fail
    rw [← hW]
    clear hW
    go_wp2_with (go_at_call 101; refine (F _).mono ?_; clear F; rintro e w1 ⟨rfl, hb⟩; have HB := Lib.hid hb; clear hb; have ro := (HKO.out.seen HB.out).rules3 _ (Seen.refl _))
    have z := (((HKO.out.seen HB.out).set 0 (.int .i64 0)).set 1 (.int .i64 0)).set 2 (.int .i64 0)
    have z0 := z.cell 0
    have z1 := z.cell 1
    have z2 := z.cell 2
    refine bodyPost_ret (by simp [results, Tryz.results89, go_sem, z0, z1, z2]; try rfl) rfl ?_
    exact ⟨rfl, Seen.set3 (SW.out.trans HB.out) (by omega)⟩
  | true =>
    rw [Bool.true_and]
    obtain ⟨o, ho⟩ : ∃ x, (if tryB b (lastS b) = true then fillW b (lastS b) else zO) = x := ⟨_, rfl⟩
    obtain ⟨p, hp⟩ : ∃ x, tryB b (lastS b) = x := ⟨_, rfl⟩
    rw [ho, hp] at C
    rw [ho, hp]
    clear ho hp
    obtain ⟨l, m, r⟩ := o
    go_enter Tryz.func89, Tryz.ntmps89
    go_upto_region 1 with fail
    rw [← hW]
    clear hW
    go_wp2_with (first
      | (go_at_call 101; refine (F _).mono ?_; clear F; rintro e w1 ⟨rfl, hb⟩; have HB := Lib.hid hb; replace sr : Seen W w1 := hb; clear hb)
      | (go_at_call 102; refine (C _).mono ?_; clear C; rintro e w2 ⟨rfl, hb⟩; replace HB := Lib.hid (HB.out.trans hb); clear hb; have ro := (HKO.out.seen HB.out).rules3 _ (Seen.refl _)))
    have z := (((HKO.out.seen HB.out).set 0 (.int .i64 l)).set 1 (.int .i64 m)).set 2 (.int .i64 r)
    have z0 := z.cell 0
    have z1 := z.cell 1
    have z2 := z.cell 2
    refine bodyPost_ret (by simp [results, Tryz.results89, go_sem, z0, z1, z2]; try rfl) rfl ?_
    exact ⟨rfl, Seen.set3 (SW.out.trans HB.out) (by omega)⟩
end Go.Proofs.YtngeaigkafamiaaGreat
namespace Go.Proofs.YtngeaigkafamiaaGreat
open Go.ChangeShapes Go.WideShapes Go.ChangeAt Go.RowKit
set_option maxRecDepth 100000
theorem infoF : (Tryz.prog.info? 37).map (·.size) = some 25 := by kernel_rfl
theorem Blk.range {w : World} {B : Nat} {l : List Value} {t : TypeId} (h : Blk w B l t) : w.rangeAt B 0 l := fun j v hj => by rw [Nat.zero_add, h.cell]; exact hj
theorem wpList_loadF {ops : Array Oper} {rest : List Oper} {op : Oper} {a : Act} {w : World} {Q : Exit → Act → World → Prop} (hgd : op.guard = none) (x : Operand) (ho : op.op = .load 37 x) (X o : Nat) (f : Fr)
    (hx : a.eval x = .pointer (some ⟨X, o, none⟩)) (hr : w.rangeAt X o (frl f)) (h : wpList Tryz.prog ops Q rest (a.put op.dst (frv f)) w) : wpList Tryz.prog ops Q (op :: rest) a w :=
  wpList_load_mid hgd 37 x ho X o hx (frl f) _ hr Tryz.underlying37 rfl infoF h
set_option maxHeartbeats 4000000 in
theorem acrossOf_any (s : Sty) (hf : Full s) (f : Fr) (m : S4) (c : Ct) (w : World) :
    Calls Tryz.prog 66 #[sv s, frv f, s4v m, ctv c] w fun r w' => r = .returned (.tuple #[o3v (acO s f m c), .bool (acB s f m c)]) ∧ Seen w w' := by
  have HV := Lib.hid (show acO s f m c = (if acG s f c then solO (acIn s f m c) else zO) ∧ acB s f m c = (acG s f c && solB (acIn s f m c)) ∧
    acG s f c = (ofB (lat s.lens 4).k (lat s.lens 4).n c.w true && (ofB (lat s.lens 6).k (lat s.lens 6).n c.w true && (ofB (lat s.lens 7).k (lat s.lens 7).n c.w true && sumB (arL f)))) ∧
    acIn s f m c = ⟨c.w, m.d, ofS (lat s.lens 4).k (lat s.lens 4).n c.w true, m.b, sumN (arL f), c.rtl, ofOrV (lat s.lens 6).k (lat s.lens 6).n c.w true 0, ofOrV (lat s.lens 7).k (lat s.lens 7).n c.w true 1125899906842624⟩ from ⟨rfl, rfl, rfl, rfl⟩)
  obtain ⟨O, hO⟩ : ∃ O, acO s f m c = O := ⟨_, rfl⟩
  obtain ⟨B, hB⟩ : ∃ B, acB s f m c = B := ⟨_, rfl⟩
  obtain ⟨G, hG⟩ : ∃ G, acG s f c = G := ⟨_, rfl⟩
  obtain ⟨I, hI⟩ : ∃ I, acIn s f m c = I := ⟨_, rfl⟩
  rw [hO, hB, hG, hI] at HV
  rw [hO, hB]
  clear hO hB hG hI
  obtain ⟨cw, ⟨cau, cn⟩, crtl⟩ := c
  obtain ⟨⟨mau, man⟩, ⟨mbu, mbn⟩, ⟨mcu, mcn⟩, ⟨mdu, mdn⟩⟩ := m
  simp only at HV
  obtain ⟨a0, b0⟩ := stl_len hf (i := 4) (by omega)
  obtain ⟨a1, b1⟩ := stl_len hf (i := 6) (by omega)
  obtain ⟨a2, b2⟩ := stl_len hf (i := 7) (by omega)
  simp only [Nat.reduceAdd, Nat.reduceMul] at a0 b0 a1 b1 a2 b2
  have HF := Lib.hid (show f = f from rfl)
  obtain ⟨W, hW⟩ : ∃ W, W = ((((w.alloc (.cells (stl s).toArray 66)).alloc (.cells (frl f).toArray 37)).alloc (.cells #[.bool mau, .int .i64 man, .bool mbu, .int .i64 mbn, .bool mcu, .int .i64 mcn, .bool mdu, .int .i64 mdn] 156)).alloc (.cells #[.int .i64 cw, .bool cau, .int .i64 cn, .bool crtl] 82)).alloc (.cells #[.int .i64 0, .int .i64 0, .int .i64 0] 159) := ⟨_, rfl⟩
  have k0 : Blk W w.heap.size (stl s) 66 := by rw [hW]; exact ((((Blk.new w _ _).alloc _).alloc _).alloc _).alloc _
  have k1 : Blk W (w.heap.size + 1) (frl f) 37 := by rw [hW]; simpa using (((Blk.new (w.alloc (.cells (stl s).toArray 66)) (frl f) 37).alloc (.cells #[.bool mau, .int .i64 man, .bool mbu, .int .i64 mbn, .bool mcu, .int .i64 mcn, .bool mdu, .int .i64 mdn] 156)).alloc (.cells #[.int .i64 cw, .bool cau, .int .i64 cn, .bool crtl] 82)).alloc (.cells #[.int .i64 0, .int .i64 0, .int .i64 0] 159)
  have k2 : Blk W (w.heap.size + 1 + 1) [.bool mau, .int .i64 man, .bool mbu, .int .i64 mbn, .bool mcu, .int .i64 mcn, .bool mdu, .int .i64 mdn] 156 := by rw [hW]; simpa using ((Blk.new ((w.alloc (.cells (stl s).toArray 66)).alloc (.cells (frl f).toArray 37)) [.bool mau, .int .i64 man, .bool mbu, .int .i64 mbn, .bool mcu, .int .i64 mcn, .bool mdu, .int .i64 mdn] 156).alloc (.cells #[.int .i64 cw, .bool cau, .int .i64 cn, .bool crtl] 82)).alloc (.cells #[.int .i64 0, .int .i64 0, .int .i64 0] 159)
  have k3 : Blk W (w.heap.size + 1 + 1 + 1) [.int .i64 cw, .bool cau, .int .i64 cn, .bool crtl] 82 := by rw [hW]; simpa using (Blk.new (((w.alloc (.cells (stl s).toArray 66)).alloc (.cells (frl f).toArray 37)).alloc (.cells #[.bool mau, .int .i64 man, .bool mbu, .int .i64 mbn, .bool mcu, .int .i64 mcn, .bool mdu, .int .i64 mdn] 156)) [.int .i64 cw, .bool cau, .int .i64 cn, .bool crtl] 82).alloc (.cells #[.int .i64 0, .int .i64 0, .int .i64 0] 159)
  have k4 : Blk W (w.heap.size + 1 + 1 + 1 + 1) [.int .i64 0, .int .i64 0, .int .i64 0] 159 := by rw [hW]; simpa using Blk.new ((((w.alloc (.cells (stl s).toArray 66)).alloc (.cells (frl f).toArray 37)).alloc (.cells #[.bool mau, .int .i64 man, .bool mbu, .int .i64 mbn, .bool mcu, .int .i64 mcn, .bool mdu, .int .i64 mdn] 156)).alloc (.cells #[.int .i64 cw, .bool cau, .int .i64 cn, .bool crtl] 82)) [.int .i64 0, .int .i64 0, .int .i64 0] 159
  have SW : Hid (Seen w W) := by rw [hW]; exact (((((Seen.refl w).alloc _).alloc _).alloc _).alloc _).alloc _
  have q0 := fun w' (h : Seen W w') => ((k0.seen h).cell 10).trans a0
  have q1 := fun w' (h : Seen W w') => ((k0.seen h).cell 11).trans b0
  have q2 := fun w' (h : Seen W w') => ((k0.seen h).cell 14).trans a1
  have q3 := fun w' (h : Seen W w') => ((k0.seen h).cell 15).trans b1
  have q4 := fun w' (h : Seen W w') => ((k0.seen h).cell 16).trans a2
  have q5 := fun w' (h : Seen W w') => ((k0.seen h).cell 17).trans b2
  have q6 := k3.rules4
  have K1 := Lib.hid k1
  have K2 := Lib.hid k2
  have K4 := Lib.hid k4
  clear a0 b0 a1 b1 a2 b2 k0 k1 k2 k3 k4
  have AR := Lib.hid (fun w => aroundL_any f w)
  generalize (lat s.lens 4).k = x0 at q0 HV
  generalize (lat s.lens 4).n = x1 at q1 HV
  generalize (lat s.lens 6).k = x2 at q2 HV
  generalize (lat s.lens 6).n = x3 at q3 HV
  generalize (lat s.lens 7).k = x4 at q4 HV
  generalize (lat s.lens 7).n = x5 at q5 HV
  have C0 := fun w => of_any x0 x1 cw true w
  have C1 := fun w => least_any x2 x3 cw true w
  have C2 := fun w => most_any x4 x5 cw true w
  generalize ofS x0 x1 cw true = r0 at C0 HV
  generalize ofB x0 x1 cw true = g0 at C0 HV
  generalize ofOrV x2 x3 cw true 0 = r1 at C1 HV
  generalize ofB x2 x3 cw true = g1 at C1 HV
  generalize ofOrV x4 x5 cw true 1125899906842624 = r2 at C2 HV
  generalize ofB x4 x5 cw true = g2 at C2 HV
  generalize sumN (arL f) = r3 at AR HV
  generalize sumB (arL f) = g3 at AR HV
  have sr := Seen.refl W
  obtain ⟨ra, rn⟩ := r0
  obtain ⟨h1, h2, h3, h4⟩ := HV.out
  have SO := Lib.hid (fun w => solve_any I w)
  by_cases hg : G = true
  · subst hg
    have hh := h3.symm
    simp only [Bool.and_eq_true] at hh
    obtain ⟨rfl, rfl, rfl, rfl⟩ := hh
    simp only [if_true, Bool.true_and] at h1 h2
    rw [← h1, ← h2] at SO
    rw [h4] at SO
    clear HV h1 h2 h3 h4 I
    obtain ⟨ol, ow, orr⟩ := O
    unfold sv frv
    go_enter Tryz.func66, Tryz.ntmps66
    go_upto_region 1 with fail
    rw [← hW]
    clear hW
    go_wp2_with (first
      | (go_at_call 67; refine (C0 _).mono ?_; clear C0; rintro r w2 ⟨rfl, hb⟩; replace sr : Seen W w2 := hb; clear hb
         obtain ⟨W2, hW2⟩ : ∃ W2, W2 = w2.alloc (.cells #[.bool ra, .int .i64 rn] 24) := ⟨_, rfl⟩
         have k7 : Blk W2 w2.heap.size [.bool ra, .int .i64 rn] 24 := by rw [hW2]; exact Blk.new w2 _ _
         have q7 := k7.rules2
         have s2 : Seen W W2 := by rw [hW2]; exact sr.alloc _
         have p2 := fun o => q2 (w2.alloc o) (sr.alloc o)
         have p3 := fun o => q3 (w2.alloc o) (sr.alloc o)
         have p6 := fun o => q6 (w2.alloc o) (sr.alloc o)
         clear k7)
      | (go_at_call 68; rw [← hW2]; clear hW2 p2 p3 p6; refine (C1 _).mono ?_; clear C1; rintro r w3 ⟨rfl, hb⟩; have s3 : Seen W w3 := s2.trans hb; have t3 : Seen W2 w3 := hb; clear hb)
      | (go_at_call 69; refine (C2 _).mono ?_; clear C2; rintro r w4 ⟨rfl, hb⟩; have s4 : Seen W w4 := s3.trans hb; have t4 : Seen W2 w4 := t3.trans hb; clear hb; have R4 := Lib.hid (K1.out.seen s4).range)
      | (refine wpList_loadF rfl (.tmp 5) rfl (w.heap.size + 1) 0 f rfl R4.out ?_)
      | (go_at_call 75; refine (AR.out _).mono ?_; clear AR; rintro r w5 ⟨rfl, hb⟩; have s5 : Seen W w5 := s4.trans hb; have t5 : Seen W2 w5 := t4.trans hb; clear hb; have q8 := (K2.out.seen s5).rules8 w5 (Seen.refl w5); have K5 := K4.out.seen s5; have q9 := K5.rules3 w5 (Seen.refl w5))
      | (go_at_call 89; refine (SO.out _).mono ?_; clear SO; rintro r w6 ⟨rfl, hb⟩; have s6 : Seen W w6 := s5.trans hb; clear hb; have K6 := K4.out.seen s6; have q9 := K6.rules3 w6 (Seen.refl w6)))
    have z := ((K6.set 0 (.int .i64 ol)).set 1 (.int .i64 ow)).set 2 (.int .i64 orr)
    have z0 := z.cell 0
    have z1 := z.cell 1
    have z2 := z.cell 2
    refine bodyPost_ret (by simp [results, Tryz.results66, go_sem, z0, z1, z2]; try rfl) rfl ?_
    exact ⟨rfl, Below.setCell (Below.setCell (Below.setCell (SW.out.trans s6) (by dsimp only; omega) _) (by dsimp only; omega) _) (by dsimp only; omega) _⟩
  · have hg' : G = false := by simpa using hg
    subst hg'
    simp only [Bool.false_eq_true, if_false, Bool.false_and] at h1 h2
    subst h1 h2
    have hh := Lib.hid (show (g0 && (g1 && (g2 && g3))) = false ∧ True from ⟨h3.symm, trivial⟩)
    clear HV h3 h4 SO hg I
    unfold sv frv
    cases g0
    · go_enter Tryz.func66, Tryz.ntmps66
      go_upto_region 1 with fail
      rw [← hW]
      clear hW
      go_wp2_with (first
        | (go_at_call 67; refine (C0 _).mono ?_; clear C0; rintro r w2 ⟨rfl, hb⟩; replace sr : Seen W w2 := hb; clear hb
           obtain ⟨W2, hW2⟩ : ∃ W2, W2 = w2.alloc (.cells #[.bool ra, .int .i64 rn] 24) := ⟨_, rfl⟩
           have k7 : Blk W2 w2.heap.size [.bool ra, .int .i64 rn] 24 := by rw [hW2]; exact Blk.new w2 _ _
           have q7 := k7.rules2
           have s2 : Seen W W2 := by rw [hW2]; exact sr.alloc _
           have p2 := fun o => q2 (w2.alloc o) (sr.alloc o)
           have p3 := fun o => q3 (w2.alloc o) (sr.alloc o)
           have p6 := fun o => q6 (w2.alloc o) (sr.alloc o)
           clear k7)
        | (go_at_call 68; rw [← hW2]; clear hW2 p2 p3 p6; refine (C1 _).mono ?_; clear C1; rintro r w3 ⟨rfl, hb⟩; have s3 : Seen W w3 := s2.trans hb; have t3 : Seen W2 w3 := hb; clear hb)
        | (go_at_call 69; refine (C2 _).mono ?_; clear C2; rintro r w4 ⟨rfl, hb⟩; have s4 : Seen W w4 := s3.trans hb; have t4 : Seen W2 w4 := t3.trans hb; clear hb; have R4 := Lib.hid (K1.out.seen s4).range)
        | (refine wpList_loadF rfl (.tmp 5) rfl (w.heap.size + 1) 0 f rfl R4.out ?_)
        | (go_at_call 75; refine (AR.out _).mono ?_; clear AR; rintro r w5 ⟨rfl, hb⟩; have s5 : Seen W w5 := s4.trans hb; have t5 : Seen W2 w5 := t4.trans hb; clear hb; have q8 := (K2.out.seen s5).rules8 w5 (Seen.refl w5); have K5 := K4.out.seen s5; have q9 := K5.rules3 w5 (Seen.refl w5)))
      have z := ((K5.set 0 (.int .i64 0)).set 1 (.int .i64 0)).set 2 (.int .i64 0)
      have z0 := z.cell 0
      have z1 := z.cell 1
      have z2 := z.cell 2
      refine bodyPost_ret (by simp [results, Tryz.results66, go_sem, z0, z1, z2]; try rfl) rfl ?_
      exact ⟨rfl, Below.setCell (Below.setCell (Below.setCell (SW.out.trans s5) (by dsimp only; omega) _) (by dsimp only; omega) _) (by dsimp only; omega) _⟩
    · cases g1
      · go_enter Tryz.func66, Tryz.ntmps66
        go_upto_region 1 with fail
        rw [← hW]
        clear hW
        go_wp2_with (first
          | (go_at_call 67; refine (C0 _).mono ?_; clear C0; rintro r w2 ⟨rfl, hb⟩; replace sr : Seen W w2 := hb; clear hb
             obtain ⟨W2, hW2⟩ : ∃ W2, W2 = w2.alloc (.cells #[.bool ra, .int .i64 rn] 24) := ⟨_, rfl⟩
             have k7 : Blk W2 w2.heap.size [.bool ra, .int .i64 rn] 24 := by rw [hW2]; exact Blk.new w2 _ _
             have q7 := k7.rules2
             have s2 : Seen W W2 := by rw [hW2]; exact sr.alloc _
             have p2 := fun o => q2 (w2.alloc o) (sr.alloc o)
             have p3 := fun o => q3 (w2.alloc o) (sr.alloc o)
             have p6 := fun o => q6 (w2.alloc o) (sr.alloc o)
             clear k7)
          | (go_at_call 68; rw [← hW2]; clear hW2 p2 p3 p6; refine (C1 _).mono ?_; clear C1; rintro r w3 ⟨rfl, hb⟩; have s3 : Seen W w3 := s2.trans hb; have t3 : Seen W2 w3 := hb; clear hb)
          | (go_at_call 69; refine (C2 _).mono ?_; clear C2; rintro r w4 ⟨rfl, hb⟩; have s4 : Seen W w4 := s3.trans hb; have t4 : Seen W2 w4 := t3.trans hb; clear hb; have R4 := Lib.hid (K1.out.seen s4).range)
          | (refine wpList_loadF rfl (.tmp 5) rfl (w.heap.size + 1) 0 f rfl R4.out ?_)
          | (go_at_call 75; refine (AR.out _).mono ?_; clear AR; rintro r w5 ⟨rfl, hb⟩; have s5 : Seen W w5 := s4.trans hb; have t5 : Seen W2 w5 := t4.trans hb; clear hb; have q8 := (K2.out.seen s5).rules8 w5 (Seen.refl w5); have K5 := K4.out.seen s5; have q9 := K5.rules3 w5 (Seen.refl w5)))
        have z := ((K5.set 0 (.int .i64 0)).set 1 (.int .i64 0)).set 2 (.int .i64 0)
        have z0 := z.cell 0
        have z1 := z.cell 1
        have z2 := z.cell 2
        refine bodyPost_ret (by simp [results, Tryz.results66, go_sem, z0, z1, z2]; try rfl) rfl ?_
        exact ⟨rfl, Below.setCell (Below.setCell (Below.setCell (SW.out.trans s5) (by dsimp only; omega) _) (by dsimp only; omega) _) (by dsimp only; omega) _⟩
      · cases g2
        · go_enter Tryz.func66, Tryz.ntmps66
          go_upto_region 1 with fail
          rw [← hW]
          clear hW
          go_wp2_with (first
            | (go_at_call 67; refine (C0 _).mono ?_; clear C0; rintro r w2 ⟨rfl, hb⟩; replace sr : Seen W w2 := hb; clear hb
               obtain ⟨W2, hW2⟩ : ∃ W2, W2 = w2.alloc (.cells #[.bool ra, .int .i64 rn] 24) := ⟨_, rfl⟩
               have k7 : Blk W2 w2.heap.size [.bool ra, .int .i64 rn] 24 := by rw [hW2]; exact Blk.new w2 _ _
               have q7 := k7.rules2
               have s2 : Seen W W2 := by rw [hW2]; exact sr.alloc _
               have p2 := fun o => q2 (w2.alloc o) (sr.alloc o)
               have p3 := fun o => q3 (w2.alloc o) (sr.alloc o)
               have p6 := fun o => q6 (w2.alloc o) (sr.alloc o)
               clear k7)
            | (go_at_call 68; rw [← hW2]; clear hW2 p2 p3 p6; refine (C1 _).mono ?_; clear C1; rintro r w3 ⟨rfl, hb⟩; have s3 : Seen W w3 := s2.trans hb; have t3 : Seen W2 w3 := hb; clear hb)
            | (go_at_call 69; refine (C2 _).mono ?_; clear C2; rintro r w4 ⟨rfl, hb⟩; have s4 : Seen W w4 := s3.trans hb; have t4 : Seen W2 w4 := t3.trans hb; clear hb; have R4 := Lib.hid (K1.out.seen s4).range)
            | (refine wpList_loadF rfl (.tmp 5) rfl (w.heap.size + 1) 0 f rfl R4.out ?_)
            | (go_at_call 75; refine (AR.out _).mono ?_; clear AR; rintro r w5 ⟨rfl, hb⟩; have s5 : Seen W w5 := s4.trans hb; have t5 : Seen W2 w5 := t4.trans hb; clear hb; have q8 := (K2.out.seen s5).rules8 w5 (Seen.refl w5); have K5 := K4.out.seen s5; have q9 := K5.rules3 w5 (Seen.refl w5)))
          have z := ((K5.set 0 (.int .i64 0)).set 1 (.int .i64 0)).set 2 (.int .i64 0)
          have z0 := z.cell 0
          have z1 := z.cell 1
          have z2 := z.cell 2
          refine bodyPost_ret (by simp [results, Tryz.results66, go_sem, z0, z1, z2]; try rfl) rfl ?_
          exact ⟨rfl, Below.setCell (Below.setCell (Below.setCell (SW.out.trans s5) (by dsimp only; omega) _) (by dsimp only; omega) _) (by dsimp only; omega) _⟩
        · cases g3
          · go_enter Tryz.func66, Tryz.ntmps66
            go_upto_region 1 with fail
            rw [← hW]
            clear hW
            go_wp2_with (first
              | (go_at_call 67; refine (C0 _).mono ?_; clear C0; rintro r w2 ⟨rfl, hb⟩; replace sr : Seen W w2 := hb; clear hb
                 obtain ⟨W2, hW2⟩ : ∃ W2, W2 = w2.alloc (.cells #[.bool ra, .int .i64 rn] 24) := ⟨_, rfl⟩
                 have k7 : Blk W2 w2.heap.size [.bool ra, .int .i64 rn] 24 := by rw [hW2]; exact Blk.new w2 _ _
                 have q7 := k7.rules2
                 have s2 : Seen W W2 := by rw [hW2]; exact sr.alloc _
                 have p2 := fun o => q2 (w2.alloc o) (sr.alloc o)
                 have p3 := fun o => q3 (w2.alloc o) (sr.alloc o)
                 have p6 := fun o => q6 (w2.alloc o) (sr.alloc o)
                 clear k7)
              | (go_at_call 68; rw [← hW2]; clear hW2 p2 p3 p6; refine (C1 _).mono ?_; clear C1; rintro r w3 ⟨rfl, hb⟩; have s3 : Seen W w3 := s2.trans hb; have t3 : Seen W2 w3 := hb; clear hb)
              | (go_at_call 69; refine (C2 _).mono ?_; clear C2; rintro r w4 ⟨rfl, hb⟩; have s4 : Seen W w4 := s3.trans hb; have t4 : Seen W2 w4 := t3.trans hb; clear hb; have R4 := Lib.hid (K1.out.seen s4).range)
              | (refine wpList_loadF rfl (.tmp 5) rfl (w.heap.size + 1) 0 f rfl R4.out ?_)
              | (go_at_call 75; refine (AR.out _).mono ?_; clear AR; rintro r w5 ⟨rfl, hb⟩; have s5 : Seen W w5 := s4.trans hb; have t5 : Seen W2 w5 := t4.trans hb; clear hb; have q8 := (K2.out.seen s5).rules8 w5 (Seen.refl w5); have K5 := K4.out.seen s5; have q9 := K5.rules3 w5 (Seen.refl w5)))
            have z := ((K5.set 0 (.int .i64 0)).set 1 (.int .i64 0)).set 2 (.int .i64 0)
            have z0 := z.cell 0
            have z1 := z.cell 1
            have z2 := z.cell 2
            refine bodyPost_ret (by simp [results, Tryz.results66, go_sem, z0, z1, z2]; try rfl) rfl ?_
            exact ⟨rfl, Below.setCell (Below.setCell (Below.setCell (SW.out.trans s5) (by dsimp only; omega) _) (by dsimp only; omega) _) (by dsimp only; omega) _⟩
          · exact absurd hh.out.1 (by decide)
end Go.Proofs.YtngeaigkafamiaaGreat
namespace Go.Proofs.YtngeaigkafamiaaGreat
open Go.ChangeShapes Go.WideShapes Go.ChangeAt Go.RowKit
set_option maxRecDepth 100000
theorem fold_sets (vs cs : List Value) (off k : Nat) : (vs.zipIdx k).foldl (fun (a : Array Value) (p : Value × Nat) => a.setIfInBounds (off + p.2) p.1) cs.toArray = (setsL cs (off + k) vs).toArray := by
  induction vs generalizing cs k with
  | nil => rfl
  | cons v r ih =>
    rw [List.zipIdx_cons, List.foldl_cons, List.setIfInBounds_toArray, ih, setsL]
    rfl
theorem fill_cons {place : Nat → Option (Nat × Nat)} {cs cs' vs : List Value} {i off : Nat} {v : Value} {rest : List (Nat × Value)} (hp : place i = some (off, vs.length)) (hv : v.cells = vs.toArray) (hle : off + vs.length ≤ cs.length) (e : setsL cs off vs = cs') :
    Instr.fill place cs.toArray ((i, v) :: rest) = Instr.fill place cs'.toArray rest := by
  have h1 : (v.cells.size ≠ vs.length || off + v.cells.size > cs.toArray.size) = false := by
    rw [hv]; simp; omega
  have h2 : v.cells.zipIdx.foldl (fun (a : Array Value) (p : Value × Nat) => a.setIfInBounds (off + p.2) p.1) cs.toArray = cs'.toArray := by
    have h4 := fold_sets vs cs off 0
    rw [Nat.add_zero] at h4
    rw [hv, ← e, ← h4]
    simp
  have h3 : Instr.fill place cs.toArray ((i, v) :: rest) = if (v.cells.size ≠ vs.length || off + v.cells.size > cs.toArray.size) = true then none else Instr.fill place (v.cells.zipIdx.foldl (fun (a : Array Value) (p : Value × Nat) => a.setIfInBounds (off + p.2) p.1) cs.toArray) rest := by
    rw [Instr.fill, hp]
  rw [h3, h1, h2]
  rfl
theorem built51 (parts : List (Nat × Value)) : Tryz.prog.built 69 parts = Instr.fill ([(0, 48), (48, 1)].toArray[·]?) (ndl zeroN).toArray parts := by kernel_rfl
theorem fill_par (s : Sty) (hf : Full s) (p q : Int) : Instr.fill ([(0, 48), (48, 1)].toArray[·]?) (ndl ⟨s, q, hf⟩).toArray [(1, .int .i64 p)] = some (ndl ⟨s, p, hf⟩).toArray := by
  rw [fill_cons (vs := [.int .i64 p]) (off := 48) (cs' := ndl ⟨s, p, hf⟩) rfl rfl (by rw [ndl_length]; simp)]
  · rfl
  · have := setsL_mid (stl s) [.int .i64 q] [] [.int .i64 p] rfl
    rw [hf.len] at this
    simpa [ndl] using this
theorem built_both (s : Sty) (hf : Full s) (p : Int) : Tryz.prog.built 69 [(0, sv s), (1, .int .i64 p)] = some (ndl ⟨s, p, hf⟩).toArray := by
  rw [built51, fill_cons (vs := stl s) (off := 0) (cs' := ndl ⟨s, 0, hf⟩) (by rw [hf.len]; rfl) rfl (by rw [ndl_length, hf.len]; omega), fill_par]
  have := setsL_mid [] (stl zeroS) [.int .i64 0] (stl s) (by rw [hf.len, zero_full.len])
  simpa [ndl, zeroN] using this
theorem wpList_buildN {ops : Array Oper} {rest : List Oper} {o : Oper} {a : Act} {w : World} {Q : Exit → Act → World → Prop} (hg : o.guard = none) (x y : Operand) (ho : o.op = .build 69 #[(0, x), (1, y)]) (s : Sty) (hf : Full s) (p : Int)
    (hx : a.eval x = sv s) (hy : a.eval y = .int .i64 p) (h : wpList Tryz.prog ops Q rest (a.put o.dst (nv ⟨s, p, hf⟩)) w) : wpList Tryz.prog ops Q (o :: rest) a w := by
  refine wpList_buildTo hg 69 _ ho _ rfl (ndl ⟨s, p, hf⟩).toArray ?_ h
  have e : ((#[(0, x), (1, y)] : Array (Nat × Operand)).map fun (i, x) => (i, a.eval x)).toList = [(0, sv s), (1, .int .i64 p)] := by
    simp [hx, hy]
  rw [e, built_both s hf]
theorem info51z : (Tryz.prog.info? 69).map (fun i => (i.zero, i.size, i.bytes)) = some (some (.agg (ndl zeroN).toArray), 49, 384) := by kernel_rfl
theorem row_zero : (Array.range (1 * 49)).map ((ndl zeroN).toArray[· % (ndl zeroN).toArray.size]!) = (ndl zeroN).toArray := by kernel_rfl
theorem wpList_buildS1 {ops : Array Oper} {rest : List Oper} {o : Oper} {a : Act} {w : World} {Q : Exit → Act → World → Prop} (hg : o.guard = none) (x : Operand) (ho : o.op = .buildSlice 22 1 #[(0, x)]) (q : Nd)
    (hx : a.eval x = nv q) (h : wpList Tryz.prog ops Q rest (a.put o.dst (.slice (some ⟨w.heap.size, 0, none⟩) 1 1)) (w.alloc (.cells (ndl q).toArray 69))) : wpList Tryz.prog ops Q (o :: rest) a w := by
  obtain ⟨i0, hi, hz0, hz1, hz2⟩ := info_parts info51z
  refine wpList_buildSlice hg 22 69 1 _ ho (ndl q).toArray i0 _ Tryz.underlying22 hi hz0 (by rw [hz1]; decide) (by rw [hz1]; decide) ?_ h
  have e : ((#[(0, x)] : Array (Nat × Operand)).map fun (i, x) => (i, a.eval x)).toList = [(0, nv q)] := by simp [hx]
  rw [e, hz1]
  show Instr.fill _ ((Array.range (1 * 49)).map ((ndl zeroN).toArray[· % (ndl zeroN).toArray.size]!)) _ = _
  rw [row_zero, fill_cons (vs := ndl q) (off := 0) (cs' := ndl q) (by rw [ndl_length]) rfl (by rw [ndl_length, ndl_length]; omega)]
  · rfl
  · have := setsL_mid [] (ndl zeroN) [] (ndl q) (by rw [ndl_length, ndl_length])
    simpa using this
theorem new_rowN (w : World) (q : Nd) (base : Nat) (hb : base ≤ w.heap.size) : (w.alloc (.cells (ndl q).toArray 69)).ownsRow base 69 49 (.slice (some ⟨w.heap.size, 0, none⟩) 1 1) 1 (flatN [q]) :=
  ⟨by rw [flatN_length]; rfl, .inr ⟨w.heap.size, 1, (ndl q).toArray, rfl, hb, World.alloc_heap_new w _, Nat.le_refl _, by unfold maxLen; omega, by simp [ndl_length], by rw [List.take_of_length_le (by simp [ndl_length])]; simp [flatN]⟩⟩
theorem ns_of_own {w : World} {base n : Nat} {v : Value} {l : List Nd} (h : w.ownsRow base 69 49 v n (flatN l)) (hl : l.length = n) : ∃ a c, v = .slice a n c ∧ NS w a n l ∧ n ≤ c ∧ (a = none → c = 0) := by
  rcases h.2 with ⟨rfl, rfl⟩ | ⟨g, cap, cur, rfl, hb, hh, h1, h2, h3, h4⟩
  · exact ⟨none, 0, rfl, ⟨hl, fun h => absurd h (by omega)⟩, by omega, fun _ => rfl⟩
  · refine ⟨_, cap, rfl, ⟨hl, fun _ => ⟨g, 0, rfl, fun i hi j hj => ?_⟩⟩, h1, fun e => by cases e⟩
    rw [Nat.zero_add, h.cellAt (i * 49 + j) (by omega)]
    exact flatN_at l (by omega) hj
end Go.Proofs.YtngeaigkafamiaaGreat
namespace Go.Proofs.YtngeaigkafamiaaGreat
open Go.ChangeShapes Go.WideShapes Go.ChangeAt Go.RowKit
set_option maxRecDepth 100000
theorem infoL : (Tryz.prog.info? 43).map (·.size) = some 9 := by kernel_rfl
theorem sets_all (l m : List Value) (h : l.length = m.length) : setsL l 0 m = m := by
  have := setsL_mid [] l [] m h
  simpa using this
theorem seen_set {w w' : World} {B o : Nat} {v : Value} (h : Seen w w') (hB : w.heap.size ≤ B) : Seen w (w'.setCell ⟨B, o, none⟩ v) := Below.setCell h hB v
theorem Blk.turns {w w' : World} {X B : Nat} {l : List Value} {t : TypeId} (h : Blk w B l t) (k : Turns X w w') (hne : B ≠ X) : Blk w' B l t := (k.block B h.lt hne).trans h
theorem wpList_storeF {ops : Array Oper} {rest : List Oper} {op : Oper} {a : Act} {w : World} {Q : Exit → Act → World → Prop} (hgd : op.guard = none) (x y : Operand) (ho : op.op = .store 37 x y) (X : Nat) (f' f : Fr)
    (hx : a.eval x = .pointer (some ⟨X, 0, none⟩)) (hy : a.eval y = frv f) (hb : Blk w X (frl f') 37)
    (h : ∀ w', Blk w' X (frl f) 37 → Turns X w w' → wpList Tryz.prog ops Q rest (a.put op.dst undef) w') : wpList Tryz.prog ops Q (op :: rest) a w :=
  wpList_storeC hgd 37 x y ho X 0 (frl f) hx hy infoF (frl_one f) hb (Nat.le_refl _) (sets_all _ _ rfl) h
theorem built_bd (a b c d : Int) : Tryz.prog.built 37 [(6, .agg #[.int .i64 a, .int .i64 b, .int .i64 c, .int .i64 d])] = some (frl ⟨0, 0, 0, 0, zI4, zI4, ⟨a, b, c, d⟩, false, zeroC⟩).toArray := by kernel_rfl
theorem built_zF : Tryz.prog.built 37 [] = some (frl zFr).toArray := by kernel_rfl
theorem wpList_buildF0 {ops : Array Oper} {rest : List Oper} {o : Oper} {a : Act} {w : World} {Q : Exit → Act → World → Prop} (hg : o.guard = none) (ho : o.op = .build 37 #[])
    (h : wpList Tryz.prog ops Q rest (a.put o.dst (frv zFr)) w) : wpList Tryz.prog ops Q (o :: rest) a w := by
  refine wpList_buildTo hg 37 _ ho _ rfl (frl zFr).toArray ?_ h
  have e : ((#[] : Array (Nat × Operand)).map fun (i, x) => (i, a.eval x)).toList = [] := by simp
  rw [e]
  exact built_zF
theorem wpList_buildFb {ops : Array Oper} {rest : List Oper} {o : Oper} {a : Act} {w : World} {Q : Exit → Act → World → Prop} (hg : o.guard = none) (x : Operand) (ho : o.op = .build 37 #[(6, x)]) (q : I4)
    (hx : a.eval x = .agg #[.int .i64 q.a, .int .i64 q.b, .int .i64 q.c, .int .i64 q.d]) (h : wpList Tryz.prog ops Q rest (a.put o.dst (frv ⟨0, 0, 0, 0, zI4, zI4, q, false, zeroC⟩)) w) : wpList Tryz.prog ops Q (o :: rest) a w := by
  refine wpList_buildTo hg 37 _ ho _ rfl (frl ⟨0, 0, 0, 0, zI4, zI4, q, false, zeroC⟩).toArray ?_ h
  have e : ((#[(6, x)] : Array (Nat × Operand)).map fun (i, x) => (i, a.eval x)).toList = [(6, .agg #[.int .i64 q.a, .int .i64 q.b, .int .i64 q.c, .int .i64 q.d])] := by simp [hx]
  rw [e]
  exact built_bd q.a q.b q.c q.d
theorem blk_zero (w : World) : Blk (w.alloc (.cells #[.int .i64 0, .int .i64 0, .int .i64 0, .int .i64 0, .int .i64 0, .int .i64 0, .int .i64 0, .int .i64 0, .int .i64 0, .int .i64 0, .int .i64 0, .int .i64 0, .int .i64 0, .int .i64 0, .int .i64 0, .int .i64 0, .bool false, .int .i64 0, .int .i64 0, .int .i64 0, .int .i64 0, .int .i64 0, .int .i64 0, .bool false, .int .i64 0] 37)) w.heap.size (frl zFr) 37 := Blk.new w (frl zFr) 37
theorem run_loadF {w : World} {X : Nat} {f : Fr} (h : Blk w X (frl f) 37) : (loadVar 37 ⟨X, 0, none⟩).run Tryz.prog w = .ok (frv f) w :=
  run_loadVar_mid w X 0 37 (frl f) _ h.range Tryz.underlying37 rfl infoF
theorem run_loadLay {w : World} {X : Nat} {lv yv : Value} {p : Pi} {hi : Int} (h : Blk w X (layl lv yv p hi) 43) : (loadVar 43 ⟨X, 0, none⟩).run Tryz.prog w = .ok (layv lv yv p hi) w :=
  run_loadVar_mid w X 0 43 (layl lv yv p hi) _ h.range Tryz.underlying43 rfl infoL
theorem results_two {fn : Func} {tmps : Array Value} {k j : Nat} {t : TypeId} {w : World} {X : Addr} {v u : Value} (hr : fn.results = #[.cell k t, .tmp j]) (hp : tmps.getD k undef = .pointer (some X)) (hu : tmps.getD j undef = u) (hl : (loadVar t X).run Tryz.prog w = .ok v w) :
    (results fn tmps).run Tryz.prog w = .ok (.tuple #[v, u]) w := by
  have hp' : tmps[k]?.getD undef = .pointer (some X) := by simpa using hp
  have hu' : tmps[j]?.getD undef = u := by simpa using hu
  simp [results, hr, asAddr, hp', hu', hl]
theorem results_three {fn : Func} {tmps : Array Value} {k k' j : Nat} {t t' : TypeId} {w : World} {X X' : Addr} {v v' u : Value} (hr : fn.results = #[.cell k t, .cell k' t', .tmp j]) (hp : tmps.getD k undef = .pointer (some X)) (hp2 : tmps.getD k' undef = .pointer (some X')) (hu : tmps.getD j undef = u) (hl : (loadVar t X).run Tryz.prog w = .ok v w) (hl2 : (loadVar t' X').run Tryz.prog w = .ok v' w) :
    (results fn tmps).run Tryz.prog w = .ok (.tuple #[v, v', u]) w := by
  have hp' : tmps[k]?.getD undef = .pointer (some X) := by simpa using hp
  have hp2' : tmps[k']?.getD undef = .pointer (some X') := by simpa using hp2
  have hu' : tmps[j]?.getD undef = u := by simpa using hu
  simp [results, hr, asAddr, hp', hp2', hu', hl, hl2]
theorem ldc2 {w : World} {a : Addr} {v : Value} (h : w.cell? a = some v) : (Instr.loadAt 2 (.pointer (some a))).run Tryz.prog w = .ok v w := by
  simp [Instr.loadAt, Instr.sureAddr, loadVar, Tryz.isAgg2, h]
theorem ldc3 {w : World} {a : Addr} {v : Value} (h : w.cell? a = some v) : (Instr.loadAt 3 (.pointer (some a))).run Tryz.prog w = .ok v w := by
  simp [Instr.loadAt, Instr.sureAddr, loadVar, Tryz.isAgg3, h]
theorem ldc4 {w : World} {a : Addr} {v : Value} (h : w.cell? a = some v) : (Instr.loadAt 4 (.pointer (some a))).run Tryz.prog w = .ok v w := by
  simp [Instr.loadAt, Instr.sureAddr, loadVar, Tryz.isAgg4, h]
theorem ldc27 {w : World} {a : Addr} {v : Value} (h : w.cell? a = some v) : (Instr.loadAt 27 (.pointer (some a))).run Tryz.prog w = .ok v w := by
  simp [Instr.loadAt, Instr.sureAddr, loadVar, Tryz.isAgg27, h]
theorem ldc48 {w : World} {a : Addr} {v : Value} (h : w.cell? a = some v) : (Instr.loadAt 38 (.pointer (some a))).run Tryz.prog w = .ok v w := by
  simp [Instr.loadAt, Instr.sureAddr, loadVar, Tryz.isAgg38, h]
theorem sz24 : (Tryz.prog.info? 24).map (·.size) = some 2 := by kernel_rfl
theorem lda24 {w : World} {X o : Nat} {vs : List Value} (h : w.rangeAt X o vs) (hl : vs.length = 2) : (Instr.loadAt 24 (.pointer (some ⟨X, o, none⟩))).run Tryz.prog w = .ok (.agg vs.toArray) w :=
  run_loadAt_mid w X o 24 vs _ h Tryz.underlying24 rfl (by rw [hl]; exact sz24)
theorem sz43 : (Tryz.prog.info? 33).map (·.size) = some 2 := by kernel_rfl
theorem lda43 {w : World} {X o : Nat} {vs : List Value} (h : w.rangeAt X o vs) (hl : vs.length = 2) : (Instr.loadAt 33 (.pointer (some ⟨X, o, none⟩))).run Tryz.prog w = .ok (.agg vs.toArray) w :=
  run_loadAt_mid w X o 33 vs _ h Tryz.underlying33 rfl (by rw [hl]; exact sz43)
theorem sz51 : (Tryz.prog.info? 41).map (·.size) = some 7 := by kernel_rfl
theorem lda51 {w : World} {X o : Nat} {vs : List Value} (h : w.rangeAt X o vs) (hl : vs.length = 7) : (Instr.loadAt 41 (.pointer (some ⟨X, o, none⟩))).run Tryz.prog w = .ok (.agg vs.toArray) w :=
  run_loadAt_mid w X o 41 vs _ h Tryz.underlying41 rfl (by rw [hl]; exact sz51)
theorem sz94 : (Tryz.prog.info? 131).map (·.size) = some 3 := by kernel_rfl
theorem lda94 {w : World} {X o : Nat} {vs : List Value} (h : w.rangeAt X o vs) (hl : vs.length = 3) : (Instr.loadAt 131 (.pointer (some ⟨X, o, none⟩))).run Tryz.prog w = .ok (.agg vs.toArray) w :=
  run_loadAt_mid w X o 131 vs _ h Tryz.underlying131 rfl (by rw [hl]; exact sz94)
theorem sz103 : (Tryz.prog.info? 127).map (·.size) = some 4 := by kernel_rfl
theorem lda103 {w : World} {X o : Nat} {vs : List Value} (h : w.rangeAt X o vs) (hl : vs.length = 4) : (Instr.loadAt 127 (.pointer (some ⟨X, o, none⟩))).run Tryz.prog w = .ok (.agg vs.toArray) w :=
  run_loadAt_mid w X o 127 vs _ h Tryz.underlying127 rfl (by rw [hl]; exact sz103)
theorem sz45 : (Tryz.prog.info? 35).map (·.size) = some 8 := by kernel_rfl
theorem sz47 : (Tryz.prog.info? 37).map (·.size) = some 25 := by kernel_rfl
theorem lda47 {w : World} {X o : Nat} {vs : List Value} (h : w.rangeAt X o vs) (hl : vs.length = 25) : (Instr.loadAt 37 (.pointer (some ⟨X, o, none⟩))).run Tryz.prog w = .ok (.agg vs.toArray) w :=
  run_loadAt_mid w X o 37 vs _ h Tryz.underlying37 rfl (by rw [hl]; exact sz47)
theorem sz53 : (Tryz.prog.info? 43).map (·.size) = some 9 := by kernel_rfl
theorem lda53 {w : World} {X o : Nat} {vs : List Value} (h : w.rangeAt X o vs) (hl : vs.length = 9) : (Instr.loadAt 43 (.pointer (some ⟨X, o, none⟩))).run Tryz.prog w = .ok (.agg vs.toArray) w :=
  run_loadAt_mid w X o 43 vs _ h Tryz.underlying43 rfl (by rw [hl]; exact sz53)
theorem Blk.mid {w : World} {X : Nat} {cs : List Value} {t : TypeId} (h : Blk w X cs t) (o n : Nat) : w.rangeAt X o ((cs.drop o).take n) := fun j v hj => by
  have hjn : j < n := by
    rcases Nat.lt_or_ge j n with h1 | h1
    · exact h1
    · rw [List.getElem?_eq_none (by simp; omega)] at hj; cases hj
  rw [List.getElem?_take_of_lt hjn, List.getElem?_drop] at hj
  rw [h.cell]
  exact hj
theorem st2 {w : World} {X o : Nat} {cs : List Value} {t : TypeId} {u : Value} (n : Int) (h : Blk w X cs t) (hc : cs[o]? = some u) : (Instr.storeAt 2 (.pointer (some ⟨X, o, none⟩)) (.int .i64 n)).run Tryz.prog w = .ok () (w.setCell ⟨X, o, none⟩ (.int .i64 n)) := by
  have c : w.cell? ⟨X, o, none⟩ = some u := (h.cell o).trans hc
  have f := h.free o
  go_simp
theorem st4 {w : World} {X o : Nat} {cs : List Value} {t : TypeId} {u : Value} (b : Bool) (h : Blk w X cs t) (hc : cs[o]? = some u) : (Instr.storeAt 4 (.pointer (some ⟨X, o, none⟩)) (.bool b)).run Tryz.prog w = .ok () (w.setCell ⟨X, o, none⟩ (.bool b)) := by
  have c : w.cell? ⟨X, o, none⟩ = some u := (h.cell o).trans hc
  have f := h.free o
  go_simp
theorem stC {w : World} {X o : Nat} {ty t : TypeId} {vs cs : List Value} (hb : Blk w X cs t) (hn : o + vs.length ≤ cs.length) (hi : (Tryz.prog.info? ty).map (·.size) = some vs.length) (h1 : ∀ u ∈ vs, u.oneCell' = true) :
    (Instr.storeAt ty (.pointer (some ⟨X, o, none⟩)) (.agg vs.toArray)).run Tryz.prog w = .ok () (w.setCells X o vs) := by
  have := run_storeAt_mid (P := Tryz.prog) w X o ty vs.toArray (by simpa using there_block hb hn) (by simpa using hi) (all_oneCell_toArray h1)
  simpa using this
end Go.Proofs.YtngeaigkafamiaaGreat
namespace Go.Proofs.YtngeaigkafamiaaGreat
open Go.ChangeShapes Go.WideShapes Go.ChangeAt Go.RowKit
set_option maxRecDepth 100000
def rngB (c : Ct) : Bool := decide (0 ≤ c.w) && (decide (c.w ≤ 1125899906842624) && (decide (0 ≤ orV c.h 0) && decide (orV c.h 0 ≤ 1125899906842624)))
set_option maxHeartbeats 1000000 in
theorem inRange_any (c : Ct) (w : World) :
    Calls Tryz.prog 19 #[ctv c] w fun e w' => e = .returned (.bool (rngB c)) ∧ Seen w w' := by
  have HV := Lib.hid (show rngB c = (decide (0 ≤ c.w) && (decide (c.w ≤ 1125899906842624) && (decide (0 ≤ orV c.h 0) && decide (orV c.h 0 ≤ 1125899906842624)))) from rfl)
  rw [HV.out]
  clear HV
  obtain ⟨x, ⟨au, n⟩, rtl⟩ := c
  have OR := fun w => or_any ⟨au, n⟩ 0 w
  obtain ⟨o, ho⟩ : ∃ o, orV ⟨au, n⟩ 0 = o := ⟨_, rfl⟩
  simp only
  rw [ho] at OR ⊢
  clear ho
  obtain ⟨W, hW⟩ : ∃ W, W = w.alloc (.cells #[.int .i64 x, .bool au, .int .i64 n, .bool rtl] 82) := ⟨_, rfl⟩
  have k : Blk W w.heap.size [.int .i64 x, .bool au, .int .i64 n, .bool rtl] 82 := by rw [hW]; exact Blk.new w _ _
  have SW : Hid (Seen w W) := by rw [hW]; exact (Seen.refl w).alloc _
  have r0 := k.rules4
  have r0' := r0 W (Seen.refl W)
  clear k
  obtain ⟨E, hE⟩ : ∃ E, (decide (0 ≤ x) && (decide (x ≤ 1125899906842624) && (decide (0 ≤ o) && decide (o ≤ 1125899906842624)))) = E := ⟨_, rfl⟩
  rw [hE]
  have HE := Lib.hid hE
  clear hE
  go_enter Tryz.func19, Tryz.ntmps19
  go_upto_region 1 with fail
  rw [← hW]
  clear hW
  by_cases h1 : 0 ≤ x
  · by_cases h2 : x ≤ 1125899906842624
    · by_cases h3 : 0 ≤ o
      · by_cases h4 : o ≤ 1125899906842624
        · have HX : Hid (E = true ∧ True) := ⟨by rw [← HE.out]; simp [h1, h2, h3, h4], trivial⟩
          clear HE
          go_wp2_with (go_at_call 40; refine (OR _).mono ?_; clear OR; rintro e w2 ⟨rfl, hb⟩; have H2 := Lib.hid (show Seen W w2 from hb); have r2 := r0 w2 hb; clear hb)
          go_ret
          exact ⟨by rw [HX.out.1]; first | rfl | exact ret_bool (by simp; omega), SW.out.trans H2.out⟩
        · have HX : Hid (E = false ∧ True) := ⟨by rw [← HE.out]; simp [h4], trivial⟩
          clear HE
          go_wp2_with (go_at_call 40; refine (OR _).mono ?_; clear OR; rintro e w2 ⟨rfl, hb⟩; have H2 := Lib.hid (show Seen W w2 from hb); have r2 := r0 w2 hb; clear hb)
          go_ret
          exact ⟨by rw [HX.out.1]; first | rfl | exact ret_bool (by simp; omega), SW.out.trans H2.out⟩
      · have HX : Hid (E = false ∧ True) := ⟨by rw [← HE.out]; simp [h3], trivial⟩
        clear HE
        go_wp2_with (go_at_call 40; refine (OR _).mono ?_; clear OR; rintro e w2 ⟨rfl, hb⟩; have H2 := Lib.hid (show Seen W w2 from hb); have r2 := r0 w2 hb; clear hb)
        go_ret
        exact ⟨by rw [HX.out.1]; first | rfl | exact ret_bool (by simp; omega), SW.out.trans H2.out⟩
    · have HX : Hid (E = false ∧ True) := ⟨by rw [← HE.out]; simp [h2], trivial⟩
      clear HE
      go_wp2_with (go_at_call 40; refine (OR _).mono ?_; clear OR; rintro e w2 ⟨rfl, hb⟩; have H2 := Lib.hid (show Seen W w2 from hb); have r2 := r0 w2 hb; clear hb)
      go_ret
      exact ⟨by rw [HX.out.1]; first | rfl | exact ret_bool (by simp; omega), SW.out.trans H2.out⟩
  · have HX : Hid (E = false ∧ True) := ⟨by rw [← HE.out]; simp [h1], trivial⟩
    clear HE
    go_wp2_with (go_at_call 40; refine (OR _).mono ?_; clear OR; rintro e w2 ⟨rfl, hb⟩; have H2 := Lib.hid (show Seen W w2 from hb); have r2 := r0 w2 hb; clear hb)
    go_ret
    exact ⟨by rw [HX.out.1]; first | rfl | exact ret_bool (by simp; omega), SW.out.trans H2.out⟩
set_option maxHeartbeats 1000000 in
theorem through_any (a : Option Addr) (c : Nat) (p : Pi) (e : En) (h : Hts) (w : World) :
    Calls Tryz.prog 78 #[piv (.slice a p.y.length c) p, env e, htv h] w fun r w' => r = .returned (.bool (thrB p e h)) ∧ Seen w w' := by
  have HV := Lib.hid (show thrB p e h = (p.att && (e.flat && (h.own.au || (decide (h.own.n = 0) && decide (p.y.length = 0))))) from rfl)
  rw [HV.out]
  clear HV
  obtain ⟨y, ed, ⟨tp, tn⟩, ⟨up, un⟩, att⟩ := p
  obtain ⟨top, bot, flat⟩ := e
  obtain ⟨⟨au, n⟩, lo, hi⟩ := h
  simp only
  obtain ⟨m, hm⟩ : ∃ m, y.length = m := ⟨_, rfl⟩
  rw [hm]
  clear hm
  by_cases h1 : n = 0
  · subst h1
    by_cases h2 : m = 0
    · subst h2
      cases att <;> cases flat <;> cases au
      all_goals
        go_enter Tryz.func78, Tryz.ntmps78
        go_wp2_with fail
        go_ret
        exact ⟨by simp, by unfold Seen; go_grown⟩
    · have h2' : ¬ (m : Int) = 0 := by omega
      cases att <;> cases flat <;> cases au
      all_goals
        go_enter Tryz.func78, Tryz.ntmps78
        go_wp2_with fail
        go_ret
        exact ⟨by simp [h2], by unfold Seen; go_grown⟩
  · cases att <;> cases flat <;> cases au
    all_goals
      go_enter Tryz.func78, Tryz.ntmps78
      go_wp2_with fail
      go_ret
      exact ⟨by simp [h1], by unfold Seen; go_grown⟩
end Go.Proofs.YtngeaigkafamiaaGreat
namespace Go.Proofs.YtngeaigkafamiaaGreat
open Go.ChangeShapes Go.WideShapes Go.ChangeAt Go.RowKit
set_option maxRecDepth 100000
def plainK (k : Nat) : Sty := ⟨true, 0, List.replicate 14 ⟨0, 0⟩ ++ (List.replicate k ⟨1, 0⟩ ++ List.replicate (4 - k) ⟨0, 0⟩), [0, 0, 0, 0], false, false, 0, false, 0, 0⟩
theorem plain_full {k : Nat} (h : k ≤ 4) : Full (plainK k) := ⟨by simp [plainK]; omega, rfl⟩
theorem plain_step {k : Nat} (h : k < 4) : ((stl (plainK k)).set (30 + k * 2) (.int .i64 1)).set (30 + k * 2 + 1) (.int .i64 0) = stl (plainK (k + 1)) := by
  match k, h with
  | 0, _ => rfl
  | 1, _ => rfl
  | 2, _ => rfl
  | 3, _ => rfl
theorem Hs.keeps {w w' : World} {X : Nat} {s : Sty} (h : Hs w X s) (e : w'.heap[X]? = w.heap[X]?) : Hs w' X s := e.trans h
theorem zero_lit : (#[.bool false, .int .i64 0, .int .i64 0, .int .i64 0, .int .i64 0, .int .i64 0, .int .i64 0, .int .i64 0, .int .i64 0, .int .i64 0, .int .i64 0, .int .i64 0, .int .i64 0, .int .i64 0, .int .i64 0, .int .i64 0, .int .i64 0, .int .i64 0, .int .i64 0, .int .i64 0, .int .i64 0, .int .i64 0, .int .i64 0, .int .i64 0, .int .i64 0, .int .i64 0, .int .i64 0, .int .i64 0, .int .i64 0, .int .i64 0, .int .i64 0, .int .i64 0, .int .i64 0, .int .i64 0, .int .i64 0, .int .i64 0, .int .i64 0, .int .i64 0, .int .i64 0, .int .i64 0, .int .i64 0, .int .i64 0, .bool false, .bool false, .int .i64 0, .bool false, .int .i64 0, .int .i64 0] : Array Value) = (stl zeroS).toArray := by kernel_rfl
theorem plain_lit : (#[.bool true, .int .i64 0, .int .i64 0, .int .i64 0, .int .i64 0, .int .i64 0, .int .i64 0, .int .i64 0, .int .i64 0, .int .i64 0, .int .i64 0, .int .i64 0, .int .i64 0, .int .i64 0, .int .i64 0, .int .i64 0, .int .i64 0, .int .i64 0, .int .i64 0, .int .i64 0, .int .i64 0, .int .i64 0, .int .i64 0, .int .i64 0, .int .i64 0, .int .i64 0, .int .i64 0, .int .i64 0, .int .i64 0, .int .i64 0, .int .i64 0, .int .i64 0, .int .i64 0, .int .i64 0, .int .i64 0, .int .i64 0, .int .i64 0, .int .i64 0, .int .i64 0, .int .i64 0, .int .i64 0, .int .i64 0, .bool false, .bool false, .int .i64 0, .bool false, .int .i64 0, .int .i64 0] : Array Value) = (stl (plainK 0)).toArray := by kernel_rfl
set_option maxRecDepth 100000 in
set_option maxHeartbeats 4000000 in
theorem plain_any (w : World) : Calls Tryz.prog 11 #[] w fun e w' => e = .returned (sv (plainK 4)) ∧ Seen w w' := by
  obtain ⟨W, hW⟩ : ∃ W, W = (w.alloc (.cells (stl zeroS).toArray 66)).alloc (.cells (stl zeroS).toArray 66) := ⟨_, rfl⟩
  have HZ : Hid (Hs W w.heap.size zeroS) := by rw [hW]; exact (hs_new w zeroS).seen ((Seen.refl _).alloc _)
  have HP : Hid (Hs W (w.heap.size + 1) zeroS) := by
    unfold Hid
    rw [hW]
    have := hs_new (w.alloc (.cells (stl zeroS).toArray 66)) zeroS
    simpa using this
  have SW : Hid (Seen w W) := by rw [hW]; exact ((Seen.refl w).alloc _).alloc _
  go_enter Tryz.func11, Tryz.ntmps11
  go_wp2_with (rw [plain_lit, zero_lit, ← hW]; refine wpList_storeS rfl _ _ rfl (w.heap.size + 1) zeroS (plainK 0) rfl rfl (plain_full (by omega)) zero_full HP.out ?_; intro w1 hs1 ht1; have R1 := Lib.hid (And.intro hs1 ht1); clear hs1 ht1 hW)
  go_loopw [4] (fun i wr => ∃ k : Nat, k ≤ 4 ∧ i = .int .i64 k ∧ Hs wr w.heap.size zeroS ∧ Hs wr (w.heap.size + 1) (plainK k) ∧ Seen w wr) (fun i _ => 4 - (intOf i).toNat)
  case atStart =>
    exact ⟨0, Nat.zero_le _, rfl, HZ.out.keeps (R1.out.2.block _ HZ.out.lt (by omega)), R1.out.1, SW.out.turns R1.out.2 (by omega)⟩
  case round =>
    obtain ⟨k, hk, rfl, h1, h2, h3⟩ := hrel
    have H1 := Lib.hid h1
    have H2 := Lib.hid h2
    have H3 := Lib.hid h3
    clear h1 h2 h3
    by_cases hlt : k < 4
    · have hk' : (k : Int) < 4 := by omega
      obtain ⟨c0, c1⟩ := H2.out.two (plain_full hk) (i := 14 + k) (by omega)
      rw [show 2 + (14 + k) * 2 = 30 + k * 2 by omega] at c0 c1
      have f0 := H2.out.free (30 + k * 2)
      have f1 := H2.out.free (30 + k * 2 + 1)
      go_wp2_with fail
      refine ⟨⟨k + 1, hlt, by go_num, H1.out.keeps ?_, ?_, ?_⟩, by simp [intOf]; omega⟩
      · rw [Below.heap_setCell _ ⟨w.heap.size + 1, 30 + k * 2 + 1, none⟩ _ _ (by show w.heap.size ≠ w.heap.size + 1; omega), Below.heap_setCell _ ⟨w.heap.size + 1, 30 + k * 2, none⟩ _ _ (by show w.heap.size ≠ w.heap.size + 1; omega)]
      · exact Hs.set (Hs.set H2.out _ _ rfl) _ _ (plain_step hlt)
      · exact (H3.out.turns (Turns.set _ _ _ _) (by omega)).turns (Turns.set _ _ _ _) (by omega)
    · have hk' : ¬ (k : Int) < 4 := by omega
      obtain rfl : k = 4 := by omega
      go_wp2_with (first
        | refine wpList_loadS rfl _ rfl (w.heap.size + 1) (plainK 4) rfl (plain_full hk) H2.out ?_
        | (refine wpList_storeS rfl _ _ rfl w.heap.size zeroS (plainK 4) rfl rfl (plain_full hk) zero_full H1.out ?_; intro w2 hs2 ht2; have R2 := Lib.hid (And.intro hs2 ht2); clear hs2 ht2))
      refine bodyPost_ret (results_cell Tryz.results11 rfl (run_loadS R2.out.1 (plain_full hk))) rfl ?_
      exact ⟨rfl, H3.out.turns R2.out.2 (Nat.le_refl _)⟩
theorem plain_formed : formedB (plainK 4) = true := decide_eq_true (by unfold FormedP; exact ⟨by decide, by decide, by decide, by decide, by decide⟩)
theorem plain_within : withinB (plainK 4) = true := decide_eq_true (by unfold WithinP; exact ⟨by decide, by decide, by decide⟩)
end Go.Proofs.YtngeaigkafamiaaGreat

