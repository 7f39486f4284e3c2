/- Texts of the proof, merged: Solve, FAcross. -/
import Derived.Test.YteplmjgohnbpbaaM21
import Derived.Test.YteplmjgohnbpbaaM16
/- Contracts of bound.Solve around tryWide, of across.Solve and of the law package's own check; no conditions beyond those written in each theorem. -/
namespace Go.Proofs.Yteplmjgohnbpbaa
open Go.ChangeShapes Go.WideShapes Go.ChangeAt Go.RowKit
set_option maxRecDepth 100000
set_option linter.unusedVariables false
set_option maxHeartbeats 2000000 in
theorem bsolve_any (b : Bx) (w : World) :
    Calls Try.prog 93 #[.func (.func 94) #[bxv b] #[], szv b.wd, .int .i64 b.lo, .int .i64 b.hi] w fun e w' => e = .returned (.tuple #[o3v (tryO b (lastS b)), .bool (tryB b (lastS b))]) ∧ Seen w w' := by
  have hmf : ∀ (fn : Fn) (first cap : Array Value) (w : World), (Instr.makeFunc fn first cap).run Try.prog w = .ok (.func fn first cap) w := fun _ _ _ _ => rfl
  have C := fun w => within_any b w
  obtain ⟨o, ho⟩ : ∃ x, tryO b (lastS b) = x := ⟨_, rfl⟩
  obtain ⟨p, hp⟩ : ∃ x, tryB b (lastS b) = x := ⟨_, rfl⟩
  rw [ho, hp] at C
  rw [ho, hp]
  clear ho hp
  obtain ⟨l, m, r⟩ := o
  obtain ⟨W, hW⟩ : ∃ W, W = (w.alloc (.cells #[.bool b.wd.au, .int .i64 b.wd.n] 24)).alloc (.cells #[.int .i64 0, .int .i64 0, .int .i64 0] 130) := ⟨_, rfl⟩
  have ks : Blk W w.heap.size [.bool b.wd.au, .int .i64 b.wd.n] 24 := by rw [hW]; exact (Blk.new w _ _).alloc _
  have ko : Blk W (w.heap.size + 1) [.int .i64 0, .int .i64 0, .int .i64 0] 130 := by rw [hW]; simpa using Blk.new (w.alloc (.cells #[.bool b.wd.au, .int .i64 b.wd.n] 24)) [.int .i64 0, .int .i64 0, .int .i64 0] 130
  have SW : Hid (Seen w W) := by rw [hW]; unfold Hid Seen; go_grown
  have HKO := Lib.hid ko
  have rs := ks.rules2 _ (Seen.refl W)
  clear ks ko
  go_enter Try.func93, Try.ntmps93
  go_upto_region 1 with fail
  rw [← hW]
  clear hW
  go_wp2_with (go_at_call 98; refine (C _).mono ?_; clear C; rintro e w1 ⟨rfl, hb⟩; have HB := Lib.hid hb; clear hb; have ro := (HKO.out.seen HB.out).rules3 _ (Seen.refl _))
  have z := (((HKO.out.seen HB.out).set 0 (.int .i64 l)).set 1 (.int .i64 m)).set 2 (.int .i64 r)
  have z0 := z.cell 0
  have z1 := z.cell 1
  have z2 := z.cell 2
  refine bodyPost_ret (by simp [results, Try.results93, go_sem, z0, z1, z2]; try rfl) rfl ?_
  exact ⟨rfl, Seen.set3 (SW.out.trans HB.out) (by omega)⟩
set_option maxHeartbeats 2000000 in
theorem solve_any (b : Bx) (w : World) :
    Calls Try.prog 83 #[bxv b] w fun e w' => e = .returned (.tuple #[o3v (solO b), .bool (solB b)]) ∧ Seen w w' := by
  have hmf : ∀ (fn : Fn) (first cap : Array Value) (w : World), (Instr.makeFunc fn first cap).run Try.prog w = .ok (.func fn first cap) w := fun _ _ _ _ => rfl
  have HF := Lib.hid (show solB b = (okF b && tryB b (lastS b)) ∧ solO b = (if okF b && tryB b (lastS b) then fillW b (lastS b) else zO) from ⟨rfl, rfl⟩)
  have HT := Lib.hid (show tryO b (lastS b) = if tryB b (lastS b) then fillW b (lastS b) else zO from rfl)
  have F := fun w => fitsIn_any b w
  have C := fun w => bsolve_any b w
  rw [HT.out] at C
  obtain ⟨f, hf⟩ : ∃ x, okF b = x := ⟨_, rfl⟩
  rw [HF.out.1, HF.out.2]
  rw [hf] at F
  rw [hf]
  clear hf HF HT
  obtain ⟨W, hW⟩ : ∃ W, W = (w.alloc (.cells (bxl b).toArray 150)).alloc (.cells #[.int .i64 0, .int .i64 0, .int .i64 0] 130) := ⟨_, rfl⟩
  have kb : Blk W w.heap.size (bxl b) 150 := by rw [hW]; exact (Blk.new w _ _).alloc _
  have ko : Blk W (w.heap.size + 1) [.int .i64 0, .int .i64 0, .int .i64 0] 130 := by rw [hW]; simpa using Blk.new (w.alloc (.cells (bxl b).toArray 150)) [.int .i64 0, .int .i64 0, .int .i64 0] 130
  have SW : Hid (Seen w W) := by rw [hW]; unfold Hid Seen; go_grown
  have HKO := Lib.hid ko
  have rb := kb.rulesB
  have sr := Seen.refl W
  clear ko
  cases f with
  | false =>
    have H0 := Lib.hid (show (if (false && tryB b (lastS b)) = true then fillW b (lastS b) else zO) = zO from rfl)
    rw [H0.out]
    clear C H0
    go_enter Try.func83, Try.ntmps83
    go_upto_region 1 with fail
    rw [← hW]
    clear hW
    go_wp2_with (go_at_call 92; refine (F _).mono ?_; clear F; rintro e w1 ⟨rfl, hb⟩; have HB := Lib.hid hb; clear hb; have ro := (HKO.out.seen HB.out).rules3 _ (Seen.refl _))
    have z := (((HKO.out.seen HB.out).set 0 (.int .i64 0)).set 1 (.int .i64 0)).set 2 (.int .i64 0)
    have z0 := z.cell 0
    have z1 := z.cell 1
    have z2 := z.cell 2
    refine bodyPost_ret (by simp [results, Try.results83, go_sem, z0, z1, z2]; try rfl) rfl ?_
    exact ⟨rfl, Seen.set3 (SW.out.trans HB.out) (by omega)⟩
  | true =>
    rw [Bool.true_and]
    obtain ⟨o, ho⟩ : ∃ x, (if tryB b (lastS b) = true then fillW b (lastS b) else zO) = x := ⟨_, rfl⟩
    obtain ⟨p, hp⟩ : ∃ x, tryB b (lastS b) = x := ⟨_, rfl⟩
    rw [ho, hp] at C
    rw [ho, hp]
    clear ho hp
    obtain ⟨l, m, r⟩ := o
    go_enter Try.func83, Try.ntmps83
    go_upto_region 1 with fail
    rw [← hW]
    clear hW
    go_wp2_with (first
      | (go_at_call 92; refine (F _).mono ?_; clear F; rintro e w1 ⟨rfl, hb⟩; have HB := Lib.hid hb; replace sr : Seen W w1 := hb; clear hb)
      | (go_at_call 93; refine (C _).mono ?_; clear C; rintro e w2 ⟨rfl, hb⟩; replace HB := Lib.hid (HB.out.trans hb); clear hb; have ro := (HKO.out.seen HB.out).rules3 _ (Seen.refl _)))
    have z := (((HKO.out.seen HB.out).set 0 (.int .i64 l)).set 1 (.int .i64 m)).set 2 (.int .i64 r)
    have z0 := z.cell 0
    have z1 := z.cell 1
    have z2 := z.cell 2
    refine bodyPost_ret (by simp [results, Try.results83, go_sem, z0, z1, z2]; try rfl) rfl ?_
    exact ⟨rfl, Seen.set3 (SW.out.trans HB.out) (by omega)⟩
/-- Two triples are alike. -/
def eqO (a b : O3) : Bool := decide (a.l = b.l ∧ a.w = b.w ∧ a.r = b.r)
theorem eqO_self (a : O3) : eqO a a = true := by simp [eqO]
theorem run_eql28 (w : World) (a b c x y z : Int) : (binOp .eql 130 (.agg #[.int .i64 a, .int .i64 b, .int .i64 c]) (.agg #[.int .i64 x, .int .i64 y, .int .i64 z])).run Try.prog w = .ok (.bool (eqO ⟨a, b, c⟩ ⟨x, y, z⟩)) w := by
  unfold eqO
  by_cases h1 : a = x
  · by_cases h2 : b = y
    · by_cases h3 : c = z
      · subst h1 h2 h3; go_simp
      · subst h1 h2; go_simp
    · subst h1; go_simp
  · go_simp
def auS : Sz := ⟨true, 0⟩
def boxA : Bx := ⟨100, ⟨true, 0⟩, ⟨false, 40⟩, ⟨true, 0⟩, 0, false, 0, 1000⟩
end Go.Proofs.Yteplmjgohnbpbaa

/- Contract of acrossOf; no conditions beyond those written in each theorem. -/
namespace Go.Proofs.Yteplmjgohnbpbaa
open Go.ChangeShapes Go.WideShapes Go.ChangeAt Go.RowKit
set_option maxRecDepth 100000
theorem infoF : (Try.prog.info? 47).map (·.size) = some 25 := by kernel_rfl
theorem Blk.range {w : World} {B : Nat} {l : List Value} {t : TypeId} (h : Blk w B l t) : w.rangeAt B 0 l := fun j v hj => by rw [Nat.zero_add, h.cell]; exact hj
/-- The load of a whole frame. -/
theorem wpList_loadF {ops : Array Oper} {rest : List Oper} {op : Oper} {a : Act} {w : World} {Q : Exit → Act → World → Prop} (hgd : op.guard = none) (x : Operand) (ho : op.op = .load 47 x) (X o : Nat) (f : Fr)
    (hx : a.eval x = .pointer (some ⟨X, o, none⟩)) (hr : w.rangeAt X o (frl f)) (h : wpList Try.prog ops Q rest (a.put op.dst (frv f)) w) : wpList Try.prog ops Q (op :: rest) a w :=
  wpList_load_mid hgd 47 x ho X o hx (frl f) _ hr Try.underlying47 rfl infoF h
set_option maxHeartbeats 4000000 in
theorem acrossOf_any (s : Sty) (hf : Full s) (f : Fr) (m : S4) (c : Ct) (w : World) :
    Calls Try.prog 62 #[sv s, frv f, s4v m, ctv c] w fun r w' => r = .returned (.tuple #[o3v (acO s f m c), .bool (acB s f m c)]) ∧ Seen w w' := by
  have HV := Lib.hid (show acO s f m c = (if acG s f c then solO (acIn s f m c) else zO) ∧ acB s f m c = (acG s f c && solB (acIn s f m c)) ∧
    acG s f c = (ofB (lat s.lens 4).k (lat s.lens 4).n c.w true && (ofB (lat s.lens 6).k (lat s.lens 6).n c.w true && (ofB (lat s.lens 7).k (lat s.lens 7).n c.w true && sumB (arL f)))) ∧
    acIn s f m c = ⟨c.w, m.d, ofS (lat s.lens 4).k (lat s.lens 4).n c.w true, m.b, sumN (arL f), c.rtl, ofOrV (lat s.lens 6).k (lat s.lens 6).n c.w true 0, ofOrV (lat s.lens 7).k (lat s.lens 7).n c.w true 1125899906842624⟩ from ⟨rfl, rfl, rfl, rfl⟩)
  obtain ⟨O, hO⟩ : ∃ O, acO s f m c = O := ⟨_, rfl⟩
  obtain ⟨B, hB⟩ : ∃ B, acB s f m c = B := ⟨_, rfl⟩
  obtain ⟨G, hG⟩ : ∃ G, acG s f c = G := ⟨_, rfl⟩
  obtain ⟨I, hI⟩ : ∃ I, acIn s f m c = I := ⟨_, rfl⟩
  rw [hO, hB, hG, hI] at HV
  rw [hO, hB]
  clear hO hB hG hI
  obtain ⟨cw, ⟨cau, cn⟩, crtl⟩ := c
  obtain ⟨⟨mau, man⟩, ⟨mbu, mbn⟩, ⟨mcu, mcn⟩, ⟨mdu, mdn⟩⟩ := m
  simp only at HV
  obtain ⟨a0, b0⟩ := stl_len hf (i := 4) (by omega)
  obtain ⟨a1, b1⟩ := stl_len hf (i := 6) (by omega)
  obtain ⟨a2, b2⟩ := stl_len hf (i := 7) (by omega)
  simp only [Nat.reduceAdd, Nat.reduceMul] at a0 b0 a1 b1 a2 b2
  have HF := Lib.hid (show f = f from rfl)
  obtain ⟨W, hW⟩ : ∃ W, W = ((((w.alloc (.cells (stl s).toArray 39)).alloc (.cells (frl f).toArray 47)).alloc (.cells #[.bool mau, .int .i64 man, .bool mbu, .int .i64 mbn, .bool mcu, .int .i64 mcn, .bool mdu, .int .i64 mdn] 126)).alloc (.cells #[.int .i64 cw, .bool cau, .int .i64 cn, .bool crtl] 81)).alloc (.cells #[.int .i64 0, .int .i64 0, .int .i64 0] 130) := ⟨_, rfl⟩
  have k0 : Blk W w.heap.size (stl s) 39 := by rw [hW]; exact ((((Blk.new w _ _).alloc _).alloc _).alloc _).alloc _
  have k1 : Blk W (w.heap.size + 1) (frl f) 47 := by rw [hW]; simpa using (((Blk.new (w.alloc (.cells (stl s).toArray 39)) (frl f) 47).alloc (.cells #[.bool mau, .int .i64 man, .bool mbu, .int .i64 mbn, .bool mcu, .int .i64 mcn, .bool mdu, .int .i64 mdn] 126)).alloc (.cells #[.int .i64 cw, .bool cau, .int .i64 cn, .bool crtl] 81)).alloc (.cells #[.int .i64 0, .int .i64 0, .int .i64 0] 130)
  have k2 : Blk W (w.heap.size + 1 + 1) [.bool mau, .int .i64 man, .bool mbu, .int .i64 mbn, .bool mcu, .int .i64 mcn, .bool mdu, .int .i64 mdn] 126 := by rw [hW]; simpa using ((Blk.new ((w.alloc (.cells (stl s).toArray 39)).alloc (.cells (frl f).toArray 47)) [.bool mau, .int .i64 man, .bool mbu, .int .i64 mbn, .bool mcu, .int .i64 mcn, .bool mdu, .int .i64 mdn] 126).alloc (.cells #[.int .i64 cw, .bool cau, .int .i64 cn, .bool crtl] 81)).alloc (.cells #[.int .i64 0, .int .i64 0, .int .i64 0] 130)
  have k3 : Blk W (w.heap.size + 1 + 1 + 1) [.int .i64 cw, .bool cau, .int .i64 cn, .bool crtl] 81 := by rw [hW]; simpa using (Blk.new (((w.alloc (.cells (stl s).toArray 39)).alloc (.cells (frl f).toArray 47)).alloc (.cells #[.bool mau, .int .i64 man, .bool mbu, .int .i64 mbn, .bool mcu, .int .i64 mcn, .bool mdu, .int .i64 mdn] 126)) [.int .i64 cw, .bool cau, .int .i64 cn, .bool crtl] 81).alloc (.cells #[.int .i64 0, .int .i64 0, .int .i64 0] 130)
  have k4 : Blk W (w.heap.size + 1 + 1 + 1 + 1) [.int .i64 0, .int .i64 0, .int .i64 0] 130 := by rw [hW]; simpa using Blk.new ((((w.alloc (.cells (stl s).toArray 39)).alloc (.cells (frl f).toArray 47)).alloc (.cells #[.bool mau, .int .i64 man, .bool mbu, .int .i64 mbn, .bool mcu, .int .i64 mcn, .bool mdu, .int .i64 mdn] 126)).alloc (.cells #[.int .i64 cw, .bool cau, .int .i64 cn, .bool crtl] 81)) [.int .i64 0, .int .i64 0, .int .i64 0] 130
  have SW : Hid (Seen w W) := by rw [hW]; exact (((((Seen.refl w).alloc _).alloc _).alloc _).alloc _).alloc _
  have q0 := fun w' (h : Seen W w') => ((k0.seen h).cell 10).trans a0
  have q1 := fun w' (h : Seen W w') => ((k0.seen h).cell 11).trans b0
  have q2 := fun w' (h : Seen W w') => ((k0.seen h).cell 14).trans a1
  have q3 := fun w' (h : Seen W w') => ((k0.seen h).cell 15).trans b1
  have q4 := fun w' (h : Seen W w') => ((k0.seen h).cell 16).trans a2
  have q5 := fun w' (h : Seen W w') => ((k0.seen h).cell 17).trans b2
  have q6 := k3.rules4
  have K1 := Lib.hid k1
  have K2 := Lib.hid k2
  have K4 := Lib.hid k4
  clear a0 b0 a1 b1 a2 b2 k0 k1 k2 k3 k4
  have AR := Lib.hid (fun w => aroundL_any f w)
  generalize (lat s.lens 4).k = x0 at q0 HV
  generalize (lat s.lens 4).n = x1 at q1 HV
  generalize (lat s.lens 6).k = x2 at q2 HV
  generalize (lat s.lens 6).n = x3 at q3 HV
  generalize (lat s.lens 7).k = x4 at q4 HV
  generalize (lat s.lens 7).n = x5 at q5 HV
  have C0 := fun w => of_any x0 x1 cw true w
  have C1 := fun w => least_any x2 x3 cw true w
  have C2 := fun w => most_any x4 x5 cw true w
  generalize ofS x0 x1 cw true = r0 at C0 HV
  generalize ofB x0 x1 cw true = g0 at C0 HV
  generalize ofOrV x2 x3 cw true 0 = r1 at C1 HV
  generalize ofB x2 x3 cw true = g1 at C1 HV
  generalize ofOrV x4 x5 cw true 1125899906842624 = r2 at C2 HV
  generalize ofB x4 x5 cw true = g2 at C2 HV
  generalize sumN (arL f) = r3 at AR HV
  generalize sumB (arL f) = g3 at AR HV
  have sr := Seen.refl W
  obtain ⟨ra, rn⟩ := r0
  obtain ⟨h1, h2, h3, h4⟩ := HV.out
  have SO := Lib.hid (fun w => solve_any I w)
  by_cases hg : G = true
  · subst hg
    have hh := h3.symm
    simp only [Bool.and_eq_true] at hh
    obtain ⟨rfl, rfl, rfl, rfl⟩ := hh
    simp only [if_true, Bool.true_and] at h1 h2
    rw [← h1, ← h2] at SO
    rw [h4] at SO
    clear HV h1 h2 h3 h4 I
    obtain ⟨ol, ow, orr⟩ := O
    unfold sv frv
    go_enter Try.func62, Try.ntmps62
    go_upto_region 1 with fail
    rw [← hW]
    clear hW
    go_wp2_with (first
      | (go_at_call 63; refine (C0 _).mono ?_; clear C0; rintro r w2 ⟨rfl, hb⟩; replace sr : Seen W w2 := hb; clear hb
         obtain ⟨W2, hW2⟩ : ∃ W2, W2 = w2.alloc (.cells #[.bool ra, .int .i64 rn] 24) := ⟨_, rfl⟩
         have k7 : Blk W2 w2.heap.size [.bool ra, .int .i64 rn] 24 := by rw [hW2]; exact Blk.new w2 _ _
         have q7 := k7.rules2
         have s2 : Seen W W2 := by rw [hW2]; exact sr.alloc _
         have p2 := fun o => q2 (w2.alloc o) (sr.alloc o)
         have p3 := fun o => q3 (w2.alloc o) (sr.alloc o)
         have p6 := fun o => q6 (w2.alloc o) (sr.alloc o)
         clear k7)
      | (go_at_call 64; rw [← hW2]; clear hW2 p2 p3 p6; refine (C1 _).mono ?_; clear C1; rintro r w3 ⟨rfl, hb⟩; have s3 : Seen W w3 := s2.trans hb; have t3 : Seen W2 w3 := hb; clear hb)
      | (go_at_call 65; refine (C2 _).mono ?_; clear C2; rintro r w4 ⟨rfl, hb⟩; have s4 : Seen W w4 := s3.trans hb; have t4 : Seen W2 w4 := t3.trans hb; clear hb; have R4 := Lib.hid (K1.out.seen s4).range)
      | (refine wpList_loadF rfl (.tmp 5) rfl (w.heap.size + 1) 0 f rfl R4.out ?_)
      | (go_at_call 67; refine (AR.out _).mono ?_; clear AR; rintro r w5 ⟨rfl, hb⟩; have s5 : Seen W w5 := s4.trans hb; have t5 : Seen W2 w5 := t4.trans hb; clear hb; have q8 := (K2.out.seen s5).rules8 w5 (Seen.refl w5); have K5 := K4.out.seen s5; have q9 := K5.rules3 w5 (Seen.refl w5))
      | (go_at_call 83; refine (SO.out _).mono ?_; clear SO; rintro r w6 ⟨rfl, hb⟩; have s6 : Seen W w6 := s5.trans hb; clear hb; have K6 := K4.out.seen s6; have q9 := K6.rules3 w6 (Seen.refl w6)))
    have z := ((K6.set 0 (.int .i64 ol)).set 1 (.int .i64 ow)).set 2 (.int .i64 orr)
    have z0 := z.cell 0
    have z1 := z.cell 1
    have z2 := z.cell 2
    refine bodyPost_ret (by simp [results, Try.results62, go_sem, z0, z1, z2]; try rfl) rfl ?_
    exact ⟨rfl, Below.setCell (Below.setCell (Below.setCell (SW.out.trans s6) (by dsimp only; omega) _) (by dsimp only; omega) _) (by dsimp only; omega) _⟩
  · have hg' : G = false := by simpa using hg
    subst hg'
    simp only [Bool.false_eq_true, if_false, Bool.false_and] at h1 h2
    subst h1 h2
    have hh := Lib.hid (show (g0 && (g1 && (g2 && g3))) = false ∧ True from ⟨h3.symm, trivial⟩)
    clear HV h3 h4 SO hg I
    unfold sv frv
    cases g0
    · go_enter Try.func62, Try.ntmps62
      go_upto_region 1 with fail
      rw [← hW]
      clear hW
      go_wp2_with (first
        | (go_at_call 63; refine (C0 _).mono ?_; clear C0; rintro r w2 ⟨rfl, hb⟩; replace sr : Seen W w2 := hb; clear hb
           obtain ⟨W2, hW2⟩ : ∃ W2, W2 = w2.alloc (.cells #[.bool ra, .int .i64 rn] 24) := ⟨_, rfl⟩
           have k7 : Blk W2 w2.heap.size [.bool ra, .int .i64 rn] 24 := by rw [hW2]; exact Blk.new w2 _ _
           have q7 := k7.rules2
           have s2 : Seen W W2 := by rw [hW2]; exact sr.alloc _
           have p2 := fun o => q2 (w2.alloc o) (sr.alloc o)
           have p3 := fun o => q3 (w2.alloc o) (sr.alloc o)
           have p6 := fun o => q6 (w2.alloc o) (sr.alloc o)
           clear k7)
        | (go_at_call 64; rw [← hW2]; clear hW2 p2 p3 p6; refine (C1 _).mono ?_; clear C1; rintro r w3 ⟨rfl, hb⟩; have s3 : Seen W w3 := s2.trans hb; have t3 : Seen W2 w3 := hb; clear hb)
        | (go_at_call 65; refine (C2 _).mono ?_; clear C2; rintro r w4 ⟨rfl, hb⟩; have s4 : Seen W w4 := s3.trans hb; have t4 : Seen W2 w4 := t3.trans hb; clear hb; have R4 := Lib.hid (K1.out.seen s4).range)
        | (refine wpList_loadF rfl (.tmp 5) rfl (w.heap.size + 1) 0 f rfl R4.out ?_)
        | (go_at_call 67; refine (AR.out _).mono ?_; clear AR; rintro r w5 ⟨rfl, hb⟩; have s5 : Seen W w5 := s4.trans hb; have t5 : Seen W2 w5 := t4.trans hb; clear hb; have q8 := (K2.out.seen s5).rules8 w5 (Seen.refl w5); have K5 := K4.out.seen s5; have q9 := K5.rules3 w5 (Seen.refl w5)))
      have z := ((K5.set 0 (.int .i64 0)).set 1 (.int .i64 0)).set 2 (.int .i64 0)
      have z0 := z.cell 0
      have z1 := z.cell 1
      have z2 := z.cell 2
      refine bodyPost_ret (by simp [results, Try.results62, go_sem, z0, z1, z2]; try rfl) rfl ?_
      exact ⟨rfl, Below.setCell (Below.setCell (Below.setCell (SW.out.trans s5) (by dsimp only; omega) _) (by dsimp only; omega) _) (by dsimp only; omega) _⟩
    · cases g1
      · go_enter Try.func62, Try.ntmps62
        go_upto_region 1 with fail
        rw [← hW]
        clear hW
        go_wp2_with (first
          | (go_at_call 63; refine (C0 _).mono ?_; clear C0; rintro r w2 ⟨rfl, hb⟩; replace sr : Seen W w2 := hb; clear hb
             obtain ⟨W2, hW2⟩ : ∃ W2, W2 = w2.alloc (.cells #[.bool ra, .int .i64 rn] 24) := ⟨_, rfl⟩
             have k7 : Blk W2 w2.heap.size [.bool ra, .int .i64 rn] 24 := by rw [hW2]; exact Blk.new w2 _ _
             have q7 := k7.rules2
             have s2 : Seen W W2 := by rw [hW2]; exact sr.alloc _
             have p2 := fun o => q2 (w2.alloc o) (sr.alloc o)
             have p3 := fun o => q3 (w2.alloc o) (sr.alloc o)
             have p6 := fun o => q6 (w2.alloc o) (sr.alloc o)
             clear k7)
          | (go_at_call 64; rw [← hW2]; clear hW2 p2 p3 p6; refine (C1 _).mono ?_; clear C1; rintro r w3 ⟨rfl, hb⟩; have s3 : Seen W w3 := s2.trans hb; have t3 : Seen W2 w3 := hb; clear hb)
          | (go_at_call 65; refine (C2 _).mono ?_; clear C2; rintro r w4 ⟨rfl, hb⟩; have s4 : Seen W w4 := s3.trans hb; have t4 : Seen W2 w4 := t3.trans hb; clear hb; have R4 := Lib.hid (K1.out.seen s4).range)
          | (refine wpList_loadF rfl (.tmp 5) rfl (w.heap.size + 1) 0 f rfl R4.out ?_)
          | (go_at_call 67; refine (AR.out _).mono ?_; clear AR; rintro r w5 ⟨rfl, hb⟩; have s5 : Seen W w5 := s4.trans hb; have t5 : Seen W2 w5 := t4.trans hb; clear hb; have q8 := (K2.out.seen s5).rules8 w5 (Seen.refl w5); have K5 := K4.out.seen s5; have q9 := K5.rules3 w5 (Seen.refl w5)))
        have z := ((K5.set 0 (.int .i64 0)).set 1 (.int .i64 0)).set 2 (.int .i64 0)
        have z0 := z.cell 0
        have z1 := z.cell 1
        have z2 := z.cell 2
        refine bodyPost_ret (by simp [results, Try.results62, go_sem, z0, z1, z2]; try rfl) rfl ?_
        exact ⟨rfl, Below.setCell (Below.setCell (Below.setCell (SW.out.trans s5) (by dsimp only; omega) _) (by dsimp only; omega) _) (by dsimp only; omega) _⟩
      · cases g2
        · go_enter Try.func62, Try.ntmps62
          go_upto_region 1 with fail
          rw [← hW]
          clear hW
          go_wp2_with (first
            | (go_at_call 63; refine (C0 _).mono ?_; clear C0; rintro r w2 ⟨rfl, hb⟩; replace sr : Seen W w2 := hb; clear hb
               obtain ⟨W2, hW2⟩ : ∃ W2, W2 = w2.alloc (.cells #[.bool ra, .int .i64 rn] 24) := ⟨_, rfl⟩
               have k7 : Blk W2 w2.heap.size [.bool ra, .int .i64 rn] 24 := by rw [hW2]; exact Blk.new w2 _ _
               have q7 := k7.rules2
               have s2 : Seen W W2 := by rw [hW2]; exact sr.alloc _
               have p2 := fun o => q2 (w2.alloc o) (sr.alloc o)
               have p3 := fun o => q3 (w2.alloc o) (sr.alloc o)
               have p6 := fun o => q6 (w2.alloc o) (sr.alloc o)
               clear k7)
            | (go_at_call 64; rw [← hW2]; clear hW2 p2 p3 p6; refine (C1 _).mono ?_; clear C1; rintro r w3 ⟨rfl, hb⟩; have s3 : Seen W w3 := s2.trans hb; have t3 : Seen W2 w3 := hb; clear hb)
            | (go_at_call 65; refine (C2 _).mono ?_; clear C2; rintro r w4 ⟨rfl, hb⟩; have s4 : Seen W w4 := s3.trans hb; have t4 : Seen W2 w4 := t3.trans hb; clear hb; have R4 := Lib.hid (K1.out.seen s4).range)
            | (refine wpList_loadF rfl (.tmp 5) rfl (w.heap.size + 1) 0 f rfl R4.out ?_)
            | (go_at_call 67; refine (AR.out _).mono ?_; clear AR; rintro r w5 ⟨rfl, hb⟩; have s5 : Seen W w5 := s4.trans hb; have t5 : Seen W2 w5 := t4.trans hb; clear hb; have q8 := (K2.out.seen s5).rules8 w5 (Seen.refl w5); have K5 := K4.out.seen s5; have q9 := K5.rules3 w5 (Seen.refl w5)))
          have z := ((K5.set 0 (.int .i64 0)).set 1 (.int .i64 0)).set 2 (.int .i64 0)
          have z0 := z.cell 0
          have z1 := z.cell 1
          have z2 := z.cell 2
          refine bodyPost_ret (by simp [results, Try.results62, go_sem, z0, z1, z2]; try rfl) rfl ?_
          exact ⟨rfl, Below.setCell (Below.setCell (Below.setCell (SW.out.trans s5) (by dsimp only; omega) _) (by dsimp only; omega) _) (by dsimp only; omega) _⟩
        · cases g3
          · go_enter Try.func62, Try.ntmps62
            go_upto_region 1 with fail
            rw [← hW]
            clear hW
            go_wp2_with (first
              | (go_at_call 63; refine (C0 _).mono ?_; clear C0; rintro r w2 ⟨rfl, hb⟩; replace sr : Seen W w2 := hb; clear hb
                 obtain ⟨W2, hW2⟩ : ∃ W2, W2 = w2.alloc (.cells #[.bool ra, .int .i64 rn] 24) := ⟨_, rfl⟩
                 have k7 : Blk W2 w2.heap.size [.bool ra, .int .i64 rn] 24 := by rw [hW2]; exact Blk.new w2 _ _
                 have q7 := k7.rules2
                 have s2 : Seen W W2 := by rw [hW2]; exact sr.alloc _
                 have p2 := fun o => q2 (w2.alloc o) (sr.alloc o)
                 have p3 := fun o => q3 (w2.alloc o) (sr.alloc o)
                 have p6 := fun o => q6 (w2.alloc o) (sr.alloc o)
                 clear k7)
              | (go_at_call 64; rw [← hW2]; clear hW2 p2 p3 p6; refine (C1 _).mono ?_; clear C1; rintro r w3 ⟨rfl, hb⟩; have s3 : Seen W w3 := s2.trans hb; have t3 : Seen W2 w3 := hb; clear hb)
              | (go_at_call 65; refine (C2 _).mono ?_; clear C2; rintro r w4 ⟨rfl, hb⟩; have s4 : Seen W w4 := s3.trans hb; have t4 : Seen W2 w4 := t3.trans hb; clear hb; have R4 := Lib.hid (K1.out.seen s4).range)
              | (refine wpList_loadF rfl (.tmp 5) rfl (w.heap.size + 1) 0 f rfl R4.out ?_)
              | (go_at_call 67; refine (AR.out _).mono ?_; clear AR; rintro r w5 ⟨rfl, hb⟩; have s5 : Seen W w5 := s4.trans hb; have t5 : Seen W2 w5 := t4.trans hb; clear hb; have q8 := (K2.out.seen s5).rules8 w5 (Seen.refl w5); have K5 := K4.out.seen s5; have q9 := K5.rules3 w5 (Seen.refl w5)))
            have z := ((K5.set 0 (.int .i64 0)).set 1 (.int .i64 0)).set 2 (.int .i64 0)
            have z0 := z.cell 0
            have z1 := z.cell 1
            have z2 := z.cell 2
            refine bodyPost_ret (by simp [results, Try.results62, go_sem, z0, z1, z2]; try rfl) rfl ?_
            exact ⟨rfl, Below.setCell (Below.setCell (Below.setCell (SW.out.trans s5) (by dsimp only; omega) _) (by dsimp only; omega) _) (by dsimp only; omega) _⟩
          · exact absurd hh.out.1 (by decide)
end Go.Proofs.Yteplmjgohnbpbaa
