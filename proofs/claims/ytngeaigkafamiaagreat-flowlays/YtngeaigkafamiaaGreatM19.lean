/- Texts of the proof, merged: FR2. -/
import Derived.Test.YtngeaigkafamiaaGreatM13
import Derived.Test.YtngeaigkafamiaaGreatM18
import Derived.Test.YtngeaigkafamiaaGreatM6
namespace Go.Proofs.YtngeaigkafamiaaGreat
open Go.ChangeShapes Go.WideShapes Go.ChangeAt Go.RowKit
set_option maxRecDepth 100000
theorem wpl_run {P : Program} {ops : Array Oper} {rest : List Oper} {o : Oper} {a : Act} {w : World} {Q : Exit → Act → World → Prop} (hg : o.guard = none) (d : Option Tmp) (hd : o.dst = d)
    (v : Value) (w' : World) (hr : (execOp a.eval o).run P w = .ok (.value v) w') (h : wpList P ops Q rest (a.put d v) w') : wpList P ops Q (o :: rest) a w := by
  subst hd
  refine wpList_plain hg fun K hK => ?_
  unfold Oper.wp
  rw [hr, Oper.upon_value]
  exact hK _ _ h
theorem wpList_loadK {ops : Array Oper} {rest : List Oper} {op : Oper} {a : Act} {w : World} {Q : Exit → Act → World → Prop} (hgd : op.guard = none) (x : Operand) (ho : op.op = .load 91 x) (X : Nat) (k : Kn)
    (hx : a.eval x = .pointer (some ⟨X, 0, none⟩)) (hr : w.rangeAt X 0 (knl k)) (h : wpList Tryz.prog ops Q rest (a.put op.dst (knv k)) w) : wpList Tryz.prog ops Q (op :: rest) a w :=
  wpList_load_mid hgd 91 x ho X 0 hx (knl k) _ hr Tryz.underlying91 rfl zz91 h
theorem wpList_storeK {ops : Array Oper} {rest : List Oper} {op : Oper} {a : Act} {w : World} {Q : Exit → Act → World → Prop} (hgd : op.guard = none) (x y : Operand) (ho : op.op = .store 91 x y) (X : Nat) (k' k : Kn)
    (hx : a.eval x = .pointer (some ⟨X, 0, none⟩)) (hy : a.eval y = knv k) (hb : Blk w X (knl k') 91)
    (h : ∀ w', Blk w' X (knl k) 91 → Turns X w w' → wpList Tryz.prog ops Q rest (a.put op.dst undef) w') : wpList Tryz.prog ops Q (op :: rest) a w :=
  wpList_storeC hgd 91 x y ho X 0 (knl k) hx hy zz91 (knl_one k) hb (Nat.le_refl _) (sets_all _ _ rfl) h
theorem run_loadK {w : World} {X : Nat} {k : Kn} (h : Blk w X (knl k) 91) : (loadVar 91 ⟨X, 0, none⟩).run Tryz.prog w = .ok (knv k) w :=
  run_loadVar_mid w X 0 91 (knl k) _ h.range Tryz.underlying91 rfl zz91
theorem blk_zeroK (w : World) : Blk (w.alloc (.cells #[.bool false, .int .i64 0, .bool false, .int .i64 0, .bool false, .int .i64 0, .bool false, .int .i64 0, .bool false, .int .i64 0, .bool false, .int .i64 0, .bool false, .int .i64 0, .bool false, .int .i64 0, .bool false, .int .i64 0, .int .i64 0, .int .i64 0, .bool false, .bool false, .bool false, .bool false] 91)) w.heap.size (knl zKn) 91 := Blk.new w (knl zKn) 91
theorem refSides4 (q : Ln4) (b : Int) (w : World) :
    Calls Tryz.prog 50 #[.agg #[.int .i64 q.a.k, .int .i64 q.a.n, .int .i64 q.b.k, .int .i64 q.b.n, .int .i64 q.c.k, .int .i64 q.c.n, .int .i64 q.d.k, .int .i64 q.d.n], .int .i64 b] w fun e w' => e = .returned (.tuple #[s4v (sds q b), .bool (sidesB q b)]) ∧ Seen w w' := refSides_any q b w
set_option maxHeartbeats 8000000 in
theorem knownOf_any {l : List Nd} (ad : Option Addr) (N cp : Nat) (n : Nat) (x : Int) (h : Sz) (W : World) (hNS : NS W ad N l) (hf : FormedT l) (hN : N ≤ 65535) (hn : n < N) :
    Calls Tryz.prog 23 #[.slice ad N cp, .int .i64 n, .int .i64 x, .agg #[.bool h.au, .int .i64 h.n]] W fun e w' => e = .returned (.tuple #[knv (knO l n x h), .bool (knB (styAt l n) x h)]) ∧ Seen W w' := by
  have hlen : l.length = N := hNS.1
  have hnl : n < l.length := by omega
  have HFK : Hid (∀ w, Seen W w → Calls Tryz.prog 51 #[.slice ad N cp, .int .i64 n] w (RowI w (flowV l n))) := fun w h => by
    have := refFlow_any ad N cp l n w (hNS.seen h) hf (by omega)
    rwa [← hlen, show flowTo l n l.length = flowV l n by unfold flowV; rw [inB_nat hnl]; rfl, hlen] at this
  obtain ⟨b, off, rfl, hats⟩ := hNS.ats (by omega)
  have AN := Lib.hid (hats n hn)
  have hfs := styAt_full l n
  have HO := Lib.hid (show knO l n x h = ⟨sds (mg4 (styAt l n)) x, sds (pd4 (styAt l n)) x, ⟨ofS (lat (styAt l n).lens 5).k (lat (styAt l n).lens 5).n h.n (!h.au), ofOrV (lat (styAt l n).lens 8).k (lat (styAt l n).lens 8).n h.n (!h.au) 0, ofOrV (lat (styAt l n).lens 9).k (lat (styAt l n).lens 9).n h.n (!h.au) 1125899906842624⟩, decide (bat (styAt l n).bord 0 = 0) && decide ((sds (pd4 (styAt l n)) x).a.n = 0), decide (bat (styAt l n).bord 2 = 0) && decide ((sds (pd4 (styAt l n)) x).c.n = 0), indB (styAt l n) n, decide (((flowV l n).length : Int) = 0)⟩ ∧
    knB (styAt l n) x h = (sidesB (mg4 (styAt l n)) x && (sidesB (pd4 (styAt l n)) x && (ofB (lat (styAt l n).lens 5).k (lat (styAt l n).lens 5).n h.n (!h.au) && (ofB (lat (styAt l n).lens 8).k (lat (styAt l n).lens 8).n h.n (!h.au) && ofB (lat (styAt l n).lens 9).k (lat (styAt l n).lens 9).n h.n (!h.au))))) from ⟨rfl, rfl⟩)
  have hs0 : (nd l n).s = styAt l n := by unfold styAt; rw [inB_nat hnl]; rfl
  obtain ⟨s, hss⟩ : ∃ s, styAt l n = s := ⟨_, rfl⟩
  rw [hss] at HO hfs hs0 ⊢
  have HF := Lib.hid hfs
  have HSS := Lib.hid hs0
  have S1 := fun w => refSides4 (mg4 s) x w
  have S2 := fun w => refSides4 (pd4 s) x w
  obtain ⟨ha0, hn0⟩ := h
  simp only at HO
  obtain ⟨KO, hKO⟩ : ∃ q, knO l n x ⟨ha0, hn0⟩ = q := ⟨_, rfl⟩
  obtain ⟨KB, hKB⟩ : ∃ q, knB s x ⟨ha0, hn0⟩ = q := ⟨_, rfl⟩
  rw [hKO, hKB] at HO
  rw [hKO, hKB]
  obtain ⟨⟨k5, n5⟩, hq5⟩ : ∃ q, lat s.lens 5 = q := ⟨_, rfl⟩
  have hk5 := Lib.hid hq5
  rw [hq5] at HO
  clear hq5
  obtain ⟨⟨k8, n8⟩, hq8⟩ : ∃ q, lat s.lens 8 = q := ⟨_, rfl⟩
  have hk8 := Lib.hid hq8
  rw [hq8] at HO
  clear hq8
  obtain ⟨⟨k9, n9⟩, hq9⟩ : ∃ q, lat s.lens 9 = q := ⟨_, rfl⟩
  have hk9 := Lib.hid hq9
  rw [hq9] at HO
  clear hq9
  have OH := fun w => refOf_any k5 n5 hn0 (!ha0) w
  have OB := fun w => refBounds_any k8 n8 k9 n9 hn0 (!ha0) w
  obtain ⟨m, hm⟩ : ∃ q, sds (mg4 s) x = q := ⟨_, rfl⟩
  obtain ⟨p, hp⟩ : ∃ q, sds (pd4 s) x = q := ⟨_, rfl⟩
  obtain ⟨⟨ha, hn1⟩, hh⟩ : ∃ q, ofS k5 n5 hn0 (!ha0) = q := ⟨_, rfl⟩
  obtain ⟨lo, hlo⟩ : ∃ q, ofOrV k8 n8 hn0 (!ha0) 0 = q := ⟨_, rfl⟩
  obtain ⟨hi, hhi⟩ : ∃ q, ofOrV k9 n9 hn0 (!ha0) 1125899906842624 = q := ⟨_, rfl⟩
  obtain ⟨g0, hg0⟩ : ∃ q, sidesB (mg4 s) x = q := ⟨_, rfl⟩
  obtain ⟨g1, hg1⟩ : ∃ q, sidesB (pd4 s) x = q := ⟨_, rfl⟩
  obtain ⟨g2, hg2⟩ : ∃ q, ofB k5 n5 hn0 (!ha0) = q := ⟨_, rfl⟩
  obtain ⟨g3, hg3⟩ : ∃ q, (ofB k8 n8 hn0 (!ha0) && ofB k9 n9 hn0 (!ha0)) = q := ⟨_, rfl⟩
  rw [hm, hg0] at S1
  rw [hp, hg1] at S2
  rw [hh, hg2] at OH
  rw [hlo, hhi, hg3] at OB
  rw [hm, hp, hh, hlo, hhi, hg0, hg1, hg2, hg3] at HO
  clear hss hs0 hfs hNS hf hN hats hm hp hh hlo hhi hg0 hg1 hg2 hg3 hKO hKB hlen
  have hn' : (n : Int) < (N : Int) := by omega
  obtain ⟨W0, hW0⟩ : ∃ q, q = (W.alloc (.cells #[.bool ha0, .int .i64 hn0] 58)).alloc (.cells #[.bool false, .int .i64 0, .bool false, .int .i64 0, .bool false, .int .i64 0, .bool false, .int .i64 0, .bool false, .int .i64 0, .bool false, .int .i64 0, .bool false, .int .i64 0, .bool false, .int .i64 0, .bool false, .int .i64 0, .int .i64 0, .int .i64 0, .bool false, .bool false, .bool false, .bool false] 91) := ⟨_, rfl⟩
  have KH := Lib.hid (show Blk W0 W.heap.size [.bool ha0, .int .i64 hn0] 58 by rw [hW0]; exact (Blk.new W _ _).alloc _)
  have KZ := Lib.hid (show Blk W0 (W.heap.size + 1) (knl zKn) 91 by rw [hW0]; simpa using blk_zeroK (W.alloc (.cells #[.bool ha0, .int .i64 hn0] 58)))
  have SA : Hid (Seen W W0) := by rw [hW0]; exact ((Seen.refl W).alloc _).alloc _
  have hsz : Hid (W0.heap.size = W.heap.size + 1 + 1) := by rw [hW0]; simp [Hid]
  have AN0 := Lib.hid (AN.out.seen SA.out)
  clear AN
  go_enter Tryz.func23, Tryz.ntmps23
  go_upto_region 1 with fail
  rw [← hW0]
  clear hW0
  go_upto_region 2 with (first
    | (refine wpList_loadNS rfl (.tmp 24) rfl b (off + n * 49) (nd l n) rfl AN0.out ?_; clear AN0)
    | (rw [zero_lit]; refine wpList_storeS rfl (.tmp 10) (.tmp 25) rfl W0.heap.size zeroS (nd l n).s rfl rfl (nd l n).full zero_full (hs_new W0 zeroS) ?_; intro W1 b1 t1; (have SB := Lib.hid (Seen.fresh (Seen.refl W0) t1)); (have KS : Hid (Hs W1 W0.heap.size s) := by rw [← HSS.out]; exact b1); clear b1 t1))
  obtain ⟨X10, hX10⟩ : ∃ q, W0.heap.size = q := ⟨_, rfl⟩
  rw [hX10] at hsz KS ⊢
  have H10 := Lib.hid hX10
  clear hX10
  have rS := fun w' (hs : Seen W1 w') => (show Blk w' X10 (stl s) 66 from Hs.seen KS.out hs).rules16 HF.out w' (Seen.refl w')
  have r5 := fun w' (hs : Seen W1 w') => rdLen (Hs.seen KS.out hs) HF.out (i := 5) (by decide) rfl hk5.out
  have r8 := fun w' (hs : Seen W1 w') => rdLen (Hs.seen KS.out hs) HF.out (i := 8) (by decide) rfl hk8.out
  have r9 := fun w' (hs : Seen W1 w') => rdLen (Hs.seen KS.out hs) HF.out (i := 9) (by decide) rfl hk9.out
  have rH := fun w' (hs : Seen W1 w') => (KH.out.seen (SB.out.trans hs)).rules2 w' (Seen.refl w')
  have a0 := rS W1 (Seen.refl W1)
  go_upto_region 3 with (go_at_call 50; refine (S1 _).mono ?_; clear S1; rintro e w2 ⟨rfl, hb⟩; have S2S : Hid (Seen W1 w2) := hb; clear hb a0)
  obtain ⟨W2, hW2⟩ : ∃ q, q = w2.alloc (.cells #[.bool m.a.au, .int .i64 m.a.n, .bool m.b.au, .int .i64 m.b.n, .bool m.c.au, .int .i64 m.c.n, .bool m.d.au, .int .i64 m.d.n] 89) := ⟨_, rfl⟩
  have K11 := Lib.hid (show Blk W2 w2.heap.size [.bool m.a.au, .int .i64 m.a.n, .bool m.b.au, .int .i64 m.b.n, .bool m.c.au, .int .i64 m.c.n, .bool m.d.au, .int .i64 m.d.n] 89 by rw [hW2]; exact Blk.new _ _ _)
  have S3S : Hid (Seen W1 W2) := by rw [hW2]; exact S2S.out.alloc _
  rw [← hW2]
  clear hW2
  have a0 := rS W2 S3S.out
  go_upto_region 4 with (go_at_call 50; refine (S2 _).mono ?_; clear S2; rintro e w3 ⟨rfl, hb⟩; have S4S : Hid (Seen W2 w3) := hb; clear hb a0)
  obtain ⟨W3, hW3⟩ : ∃ q, q = w3.alloc (.cells #[.bool p.a.au, .int .i64 p.a.n, .bool p.b.au, .int .i64 p.b.n, .bool p.c.au, .int .i64 p.c.n, .bool p.d.au, .int .i64 p.d.n] 89) := ⟨_, rfl⟩
  have K13 := Lib.hid (show Blk W3 w3.heap.size [.bool p.a.au, .int .i64 p.a.n, .bool p.b.au, .int .i64 p.b.n, .bool p.c.au, .int .i64 p.c.n, .bool p.d.au, .int .i64 p.d.n] 89 by rw [hW3]; exact Blk.new _ _ _)
  have S5S : Hid (Seen W2 W3) := by rw [hW3]; exact S4S.out.alloc _
  rw [← hW3]
  clear hW3
  have S13 := Lib.hid (S3S.out.trans S5S.out)
  have a5 := r5 W3 S13.out
  have aH := rH W3 S13.out
  go_upto_region 5 with (go_at_call 25; refine (OH _).mono ?_; clear OH; rintro e w4 ⟨rfl, hb⟩; have S6S : Hid (Seen W3 w4) := hb; clear hb a5 aH)
  obtain ⟨W4, hW4⟩ : ∃ q, q = w4.alloc (.cells #[.bool ha, .int .i64 hn1] 58) := ⟨_, rfl⟩
  have K15 := Lib.hid (show Blk W4 w4.heap.size [.bool ha, .int .i64 hn1] 58 by rw [hW4]; exact Blk.new _ _ _)
  have S7S : Hid (Seen W3 W4) := by rw [hW4]; exact S6S.out.alloc _
  rw [← hW4]
  clear hW4
  have S14 := Lib.hid (S13.out.trans S7S.out)
  have a8 := r8 W4 S14.out
  have a9 := r9 W4 S14.out
  have aH := rH W4 S14.out
  go_upto_region 6 with (go_at_call 26; refine (OB _).mono ?_; clear OB; rintro e W5 ⟨rfl, hb⟩; have S8S : Hid (Seen W4 W5) := hb; clear hb a8 a9 aH)
  have o1 : W.heap.size + 1 < X10 := by have := hsz.out; omega
  have o2 : X10 < w2.heap.size := by have := Hs.lt KS.out; have := S2S.out.size; omega
  have o3 : w2.heap.size < w3.heap.size := by have := K11.out.lt; have := S4S.out.size; omega
  have o4 : w3.heap.size < w4.heap.size := by have := K13.out.lt; have := S6S.out.size; omega
  have o5 : w4.heap.size < W5.heap.size := by have := K15.out.lt; have := S8S.out.size; omega
  obtain ⟨X11, hX11⟩ : ∃ q, w2.heap.size = q := ⟨_, rfl⟩
  obtain ⟨X13, hX13⟩ : ∃ q, w3.heap.size = q := ⟨_, rfl⟩
  obtain ⟨X15, hX15⟩ : ∃ q, w4.heap.size = q := ⟨_, rfl⟩
  rw [hX11] at o2 o3 K11 ⊢
  rw [hX13] at o3 o4 K13 ⊢
  rw [hX15] at o4 o5 K15 ⊢
  replace K11 := Lib.hid (K11.out.seen (S5S.out.trans (S7S.out.trans S8S.out)))
  replace K13 := Lib.hid (K13.out.seen (S7S.out.trans S8S.out))
  replace K15 := Lib.hid (K15.out.seen S8S.out)
  have S15 := Lib.hid (S14.out.trans S8S.out)
  have K10 := Lib.hid (show Blk W5 X10 (stl s) 66 from Hs.seen KS.out S15.out)
  replace KZ := Lib.hid (KZ.out.seen (SB.out.trans S15.out))
  have SW := Lib.hid (SA.out.trans (SB.out.trans S15.out))
  clear hX11 hX13 hX15 S2S S3S S4S S5S S6S S7S S8S S13 S14 S15 SA SB KS KH rS r5 r8 r9 rH H10 hsz
  obtain ⟨E, hE⟩ : ∃ q, decide (((flowV l n).length : Int) = 0) = q := ⟨_, rfl⟩
  have HE := Lib.hid hE
  rw [hE] at HO
  clear hE
  obtain ⟨AL, hAL⟩ : ∃ q, indB s (n : Int) = q := ⟨_, rfl⟩
  have HIN := Lib.hid (show (decide ((n : Int) = 0) || s.clip) = AL from hAL)
  rw [hAL] at HO
  clear hAL
  have HCL : Hid (∀ w', Seen W5 w' → w'.cell? ⟨X10, 45, none⟩ = some (.bool s.clip)) := fun w' h' => rdClip (K10.out.seen h') HF.out
  go_cut [20] (fun u wx => (∃ X20, u = .pointer (some ⟨X20, 0, none⟩) ∧ W5.heap.size ≤ X20 ∧ Blk wx X20 (knl ⟨m, p, ⟨⟨ha, hn1⟩, lo, hi⟩, false, false, AL, E⟩) 91 ∧ Seen W5 wx) : Value → World → Prop)
  case first =>
    have acc0 : Seen W5 W5.drew := (Seen.refl W5).drew
    obtain ⟨A, hA⟩ : ∃ q, decide ((n : Int) = 0) = q := ⟨_, rfl⟩
    have HA := Lib.hid hA
    rw [hA] at HIN
    clear hA HO KZ
    obtain ⟨cl, hcl⟩ : ∃ q, s.clip = q := ⟨_, rfl⟩
    rw [hcl] at HCL HIN
    clear hcl
    cases A
    · have HAL : Hid (cl = AL ∧ True) := ⟨HIN.out, trivial⟩
      clear HIN
      cases cl
      · have HAL := Lib.hid HAL.out.1
        refine wp_region_held_drew (S := fun w' => Seen W5 w') (by kernel_rfl) acc0 (fun _ => ?_)
        refine ZU 0 (some 65) (.agg #[.bool m.a.au, .int .i64 m.a.n, .bool m.b.au, .int .i64 m.b.n, .bool m.c.au, .int .i64 m.c.n, .bool m.d.au, .int .i64 m.d.n]) (fun _ hS => run_by (Instr.loadAt 89 (.pointer (some ⟨X11, 0, none⟩))) (by kernel_rfl) (rda89 (vs := [.bool m.a.au, .int .i64 m.a.n, .bool m.b.au, .int .i64 m.b.n, .bool m.c.au, .int .i64 m.c.n, .bool m.d.au, .int .i64 m.d.n]) ((K11.out.seen hS).mid 0 8) rfl)) acc0 ?_
        simp only [Z1,Z2,Z3,Z4]
        refine ZU 1 (some 66) (.agg #[.bool p.a.au, .int .i64 p.a.n, .bool p.b.au, .int .i64 p.b.n, .bool p.c.au, .int .i64 p.c.n, .bool p.d.au, .int .i64 p.d.n]) (fun _ hS => run_by (Instr.loadAt 89 (.pointer (some ⟨X13, 0, none⟩))) (by kernel_rfl) (rda89 (vs := [.bool p.a.au, .int .i64 p.a.n, .bool p.b.au, .int .i64 p.b.n, .bool p.c.au, .int .i64 p.c.n, .bool p.d.au, .int .i64 p.d.n]) ((K13.out.seen hS).mid 0 8) rfl)) acc0 ?_
        simp only [Z1,Z2,Z3,Z4]
        refine ZU 2 (some 67) (.agg #[.bool ha, .int .i64 hn1]) (fun _ hS => run_by (Instr.loadAt 58 (.pointer (some ⟨X15, 0, none⟩))) (by kernel_rfl) (rda58 (vs := [.bool ha, .int .i64 hn1]) ((K15.out.seen hS).mid 0 2) rfl)) acc0 ?_
        simp only [Z1,Z2,Z3,Z4]
        refine ZT 3 (some 68) (.int .i64 lo) acc0 ?_
        simp only [Z1,Z2,Z3,Z4]
        refine ZT 4 (some 69) (.int .i64 hi) acc0 ?_
        simp only [Z1,Z2,Z3,Z4]
        refine ZT 5 (some 70) (.int .i64 (n : Int)) acc0 ?_
        simp only [Z1,Z2,Z3,Z4]
        refine ZU 6 (some 71) (.bool false) (fun _ hS => run_by (binOp .eql 3 (.int .i64 (n : Int)) (.int .i64 0)) (by kernel_rfl) (eqn3 _ HA.out)) acc0 ?_
        simp only [Z1,Z2,Z3,Z4]
        refine ZT 7 (some 72) (.bool false) acc0 ?_
        simp only [Z1,Z2,Z3,Z4]
        refine ZT 8 (some 73) (.pointer (some ⟨X10, 45, none⟩)) acc0 ?_
        simp only [Z1,Z2,Z3,Z4]
        refine ZU 9 (some 74) (.bool false) (fun _ hS => run_by (Instr.loadAt 4 (.pointer (some ⟨X10, 45, none⟩))) (by kernel_rfl) (rd4 (HCL.out _ hS))) acc0 ?_
        simp only [Z1,Z2,Z3,Z4]
        refine ZT 10 (some 75) (.bool false) acc0 ?_
        simp only [Z1,Z2,Z3,Z4]
        refine ZT 11 (some 76) (.slice (some ⟨b, off, none⟩) N cp) acc0 ?_
        simp only [Z1,Z2,Z3,Z4]
        refine ZT 12 (some 77) (.int .i64 (n : Int)) acc0 ?_
        simp only [Z1,Z2,Z3,Z4]
        refine wpAnyH_ready (rs := [13, 17]) (by kernel_rfl) (by simp) ?_
        refine aCall 13 (some 78) 51 #[.slice (some ⟨b, off, none⟩) N cp, .int .i64 (n : Int)] (by kernel_rfl) (by kernel_rfl) (by kernel_rfl) (by kernel_rfl) ?_ ?_
        · refine (HFK.out _ (SW.out.trans acc0)).mono ?_
          rintro e wd1 ⟨vk, rfl, hri, hb⟩
          obtain ⟨ka, kc, rfl, -, -⟩ := RI.slice hri
          have acc1 : Seen W5 wd1 := Seen.next acc0 hb
          clear hb hri
          refine ⟨_, rfl, acc1, ?_⟩
          simp only [Z1,Z2,Z3,Z4]
          refine ZT 14 (some 79) (.int .i64 ((flowV l n).length : Int)) acc1 ?_
          simp only [Z1,Z2,Z3,Z4]
          refine ZU 15 (some 80) (.bool E) (fun _ hS => run_by (binOp .eql 3 (.int .i64 ((flowV l n).length : Int)) (.int .i64 0)) (by kernel_rfl) (eqn3 _ HE.out)) acc1 ?_
          simp only [Z1,Z2,Z3,Z4]
          refine ZT 16 (some 81) (knv ⟨m, p, ⟨⟨ha, hn1⟩, lo, hi⟩, false, false, false, E⟩) acc1 ?_
          simp only [Z1,Z2,Z3,Z4]
          refine hRun 17 (some 20) (.pointer (some ⟨wd1.heap.size, 0, none⟩)) (by kernel_rfl) (by kernel_rfl) (by kernel_rfl) (by kernel_rfl) (by kernel_rfl) (show Seen W5 (wd1.alloc (.cells #[.bool false, .int .i64 0, .bool false, .int .i64 0, .bool false, .int .i64 0, .bool false, .int .i64 0, .bool false, .int .i64 0, .bool false, .int .i64 0, .bool false, .int .i64 0, .bool false, .int .i64 0, .bool false, .int .i64 0, .int .i64 0, .int .i64 0, .bool false, .bool false, .bool false, .bool false] 91)) from Seen.alloc acc1 _) ?_
          obtain ⟨wm2, hm2⟩ : ∃ x, x = wd1.alloc (.cells #[.bool false, .int .i64 0, .bool false, .int .i64 0, .bool false, .int .i64 0, .bool false, .int .i64 0, .bool false, .int .i64 0, .bool false, .int .i64 0, .bool false, .int .i64 0, .bool false, .int .i64 0, .bool false, .int .i64 0, .int .i64 0, .int .i64 0, .bool false, .bool false, .bool false, .bool false] 91) := ⟨_, rfl⟩
          rw [← hm2]
          have acc2 : Seen W5 wm2 := by rw [hm2]; exact Seen.alloc acc1 _
          have kx2 : Blk wm2 wd1.heap.size (knl zKn) 91 := by rw [hm2]; exact Blk.new _ _ _
          have kxg : W5.heap.size ≤ wd1.heap.size := Below.size acc1
          clear hm2
          simp only [Z1,Z2,Z3,Z4]
          refine ZK 18 none (run_skip_by (Instr.storeAt 91 (.pointer (some ⟨wd1.heap.size, 0, none⟩)) (knv ⟨m, p, ⟨⟨ha, hn1⟩, lo, hi⟩, false, false, false, E⟩)) (by kernel_rfl) (wr91 (vs := knl ⟨m, p, ⟨⟨ha, hn1⟩, lo, hi⟩, false, false, false, E⟩) kx2 rfl (Nat.le_refl _) (knl_one _))) ((Seen.turns acc2 (turns_sets _ (wd1.heap.size) 0 (knl ⟨m, p, ⟨⟨ha, hn1⟩, lo, hi⟩, false, false, false, E⟩)) kxg)) ?_
          simp only [Act.put]
          refine wpAnyH_done (by kernel_rfl) ?_ _
          have z1 : Blk _ _ (knl ⟨m, p, ⟨⟨ha, hn1⟩, lo, hi⟩, false, false, false, E⟩) 91 := (block_sets kx2 0 (knl ⟨m, p, ⟨⟨ha, hn1⟩, lo, hi⟩, false, false, false, E⟩) (sets_all (knl zKn) (knl ⟨m, p, ⟨⟨ha, hn1⟩, lo, hi⟩, false, false, false, E⟩) rfl))
          have z2 := (Seen.turns acc2 (turns_sets _ (wd1.heap.size) 0 (knl ⟨m, p, ⟨⟨ha, hn1⟩, lo, hi⟩, false, false, false, E⟩)) kxg)
          go_wp2_with fail
          go_meet
          exact ⟨_, rfl, kxg, by rw [← HAL.out]; exact z1, z2⟩
        refine aRun 17 (some 20) (.pointer (some ⟨W5.drew.heap.size, 0, none⟩)) (by kernel_rfl) (by kernel_rfl) (by kernel_rfl) (by kernel_rfl) (show Seen W5 (W5.drew.alloc (.cells #[.bool false, .int .i64 0, .bool false, .int .i64 0, .bool false, .int .i64 0, .bool false, .int .i64 0, .bool false, .int .i64 0, .bool false, .int .i64 0, .bool false, .int .i64 0, .bool false, .int .i64 0, .bool false, .int .i64 0, .int .i64 0, .int .i64 0, .bool false, .bool false, .bool false, .bool false] 91)) from Seen.alloc acc0 _) ?_ ?_
        · obtain ⟨wm1, hm1⟩ : ∃ x, x = W5.drew.alloc (.cells #[.bool false, .int .i64 0, .bool false, .int .i64 0, .bool false, .int .i64 0, .bool false, .int .i64 0, .bool false, .int .i64 0, .bool false, .int .i64 0, .bool false, .int .i64 0, .bool false, .int .i64 0, .bool false, .int .i64 0, .int .i64 0, .int .i64 0, .bool false, .bool false, .bool false, .bool false] 91) := ⟨_, rfl⟩
          rw [← hm1]
          have acc1 : Seen W5 wm1 := by rw [hm1]; exact Seen.alloc acc0 _
          have kx1 : Blk wm1 W5.drew.heap.size (knl zKn) 91 := by rw [hm1]; exact Blk.new _ _ _
          have kxg : W5.heap.size ≤ W5.drew.heap.size := Below.size acc0
          clear hm1
          simp only [Z1,Z2,Z3,Z4]
          refine ZC 13 (some 78) 51 #[.slice (some ⟨b, off, none⟩) N cp, .int .i64 (n : Int)] ?_
          refine (HFK.out _ (SW.out.trans acc1)).mono ?_
          rintro e wd2 ⟨vk, rfl, hri, hb⟩
          obtain ⟨ka, kc, rfl, -, -⟩ := RI.slice hri
          have acc2 : Seen W5 wd2 := Seen.next acc1 hb
          have kx2 := Blk.seen kx1 hb
          clear hb hri
          refine ⟨_, rfl, acc2, ?_⟩
          simp only [Z1,Z2,Z3,Z4]
          refine ZT 14 (some 79) (.int .i64 ((flowV l n).length : Int)) acc2 ?_
          simp only [Z1,Z2,Z3,Z4]
          refine ZU 15 (some 80) (.bool E) (fun _ hS => run_by (binOp .eql 3 (.int .i64 ((flowV l n).length : Int)) (.int .i64 0)) (by kernel_rfl) (eqn3 _ HE.out)) acc2 ?_
          simp only [Z1,Z2,Z3,Z4]
          refine ZT 16 (some 81) (knv ⟨m, p, ⟨⟨ha, hn1⟩, lo, hi⟩, false, false, false, E⟩) acc2 ?_
          simp only [Z1,Z2,Z3,Z4]
          refine ZK 18 none (run_skip_by (Instr.storeAt 91 (.pointer (some ⟨W5.drew.heap.size, 0, none⟩)) (knv ⟨m, p, ⟨⟨ha, hn1⟩, lo, hi⟩, false, false, false, E⟩)) (by kernel_rfl) (wr91 (vs := knl ⟨m, p, ⟨⟨ha, hn1⟩, lo, hi⟩, false, false, false, E⟩) kx2 rfl (Nat.le_refl _) (knl_one _))) ((Seen.turns acc2 (turns_sets _ (W5.drew.heap.size) 0 (knl ⟨m, p, ⟨⟨ha, hn1⟩, lo, hi⟩, false, false, false, E⟩)) kxg)) ?_
          simp only [Act.put]
          refine wpAnyH_done (by kernel_rfl) ?_ _
          have z1 : Blk _ _ (knl ⟨m, p, ⟨⟨ha, hn1⟩, lo, hi⟩, false, false, false, E⟩) 91 := (block_sets kx2 0 (knl ⟨m, p, ⟨⟨ha, hn1⟩, lo, hi⟩, false, false, false, E⟩) (sets_all (knl zKn) (knl ⟨m, p, ⟨⟨ha, hn1⟩, lo, hi⟩, false, false, false, E⟩) rfl))
          have z2 := (Seen.turns acc2 (turns_sets _ (W5.drew.heap.size) 0 (knl ⟨m, p, ⟨⟨ha, hn1⟩, lo, hi⟩, false, false, false, E⟩)) kxg)
          go_wp2_with fail
          go_meet
          exact ⟨_, rfl, kxg, by rw [← HAL.out]; exact z1, z2⟩
        exact AllReadyH.nil
      · have HAL := Lib.hid HAL.out.1
        refine wp_region_held_drew (S := fun w' => Seen W5 w') (by kernel_rfl) acc0 (fun _ => ?_)
        refine ZU 0 (some 65) (.agg #[.bool m.a.au, .int .i64 m.a.n, .bool m.b.au, .int .i64 m.b.n, .bool m.c.au, .int .i64 m.c.n, .bool m.d.au, .int .i64 m.d.n]) (fun _ hS => run_by (Instr.loadAt 89 (.pointer (some ⟨X11, 0, none⟩))) (by kernel_rfl) (rda89 (vs := [.bool m.a.au, .int .i64 m.a.n, .bool m.b.au, .int .i64 m.b.n, .bool m.c.au, .int .i64 m.c.n, .bool m.d.au, .int .i64 m.d.n]) ((K11.out.seen hS).mid 0 8) rfl)) acc0 ?_
        simp only [Z1,Z2,Z3,Z4]
        refine ZU 1 (some 66) (.agg #[.bool p.a.au, .int .i64 p.a.n, .bool p.b.au, .int .i64 p.b.n, .bool p.c.au, .int .i64 p.c.n, .bool p.d.au, .int .i64 p.d.n]) (fun _ hS => run_by (Instr.loadAt 89 (.pointer (some ⟨X13, 0, none⟩))) (by kernel_rfl) (rda89 (vs := [.bool p.a.au, .int .i64 p.a.n, .bool p.b.au, .int .i64 p.b.n, .bool p.c.au, .int .i64 p.c.n, .bool p.d.au, .int .i64 p.d.n]) ((K13.out.seen hS).mid 0 8) rfl)) acc0 ?_
        simp only [Z1,Z2,Z3,Z4]
        refine ZU 2 (some 67) (.agg #[.bool ha, .int .i64 hn1]) (fun _ hS => run_by (Instr.loadAt 58 (.pointer (some ⟨X15, 0, none⟩))) (by kernel_rfl) (rda58 (vs := [.bool ha, .int .i64 hn1]) ((K15.out.seen hS).mid 0 2) rfl)) acc0 ?_
        simp only [Z1,Z2,Z3,Z4]
        refine ZT 3 (some 68) (.int .i64 lo) acc0 ?_
        simp only [Z1,Z2,Z3,Z4]
        refine ZT 4 (some 69) (.int .i64 hi) acc0 ?_
        simp only [Z1,Z2,Z3,Z4]
        refine ZT 5 (some 70) (.int .i64 (n : Int)) acc0 ?_
        simp only [Z1,Z2,Z3,Z4]
        refine ZU 6 (some 71) (.bool false) (fun _ hS => run_by (binOp .eql 3 (.int .i64 (n : Int)) (.int .i64 0)) (by kernel_rfl) (eqn3 _ HA.out)) acc0 ?_
        simp only [Z1,Z2,Z3,Z4]
        refine ZT 7 (some 72) (.bool false) acc0 ?_
        simp only [Z1,Z2,Z3,Z4]
        refine ZT 8 (some 73) (.pointer (some ⟨X10, 45, none⟩)) acc0 ?_
        simp only [Z1,Z2,Z3,Z4]
        refine ZU 9 (some 74) (.bool true) (fun _ hS => run_by (Instr.loadAt 4 (.pointer (some ⟨X10, 45, none⟩))) (by kernel_rfl) (rd4 (HCL.out _ hS))) acc0 ?_
        simp only [Z1,Z2,Z3,Z4]
        refine ZT 10 (some 75) (.bool true) acc0 ?_
        simp only [Z1,Z2,Z3,Z4]
        refine ZT 11 (some 76) (.slice (some ⟨b, off, none⟩) N cp) acc0 ?_
        simp only [Z1,Z2,Z3,Z4]
        refine ZT 12 (some 77) (.int .i64 (n : Int)) acc0 ?_
        simp only [Z1,Z2,Z3,Z4]
        refine wpAnyH_ready (rs := [13, 17]) (by kernel_rfl) (by simp) ?_
        refine aCall 13 (some 78) 51 #[.slice (some ⟨b, off, none⟩) N cp, .int .i64 (n : Int)] (by kernel_rfl) (by kernel_rfl) (by kernel_rfl) (by kernel_rfl) ?_ ?_
        · refine (HFK.out _ (SW.out.trans acc0)).mono ?_
          rintro e wd1 ⟨vk, rfl, hri, hb⟩
          obtain ⟨ka, kc, rfl, -, -⟩ := RI.slice hri
          have acc1 : Seen W5 wd1 := Seen.next acc0 hb
          clear hb hri
          refine ⟨_, rfl, acc1, ?_⟩
          simp only [Z1,Z2,Z3,Z4]
          refine ZT 14 (some 79) (.int .i64 ((flowV l n).length : Int)) acc1 ?_
          simp only [Z1,Z2,Z3,Z4]
          refine ZU 15 (some 80) (.bool E) (fun _ hS => run_by (binOp .eql 3 (.int .i64 ((flowV l n).length : Int)) (.int .i64 0)) (by kernel_rfl) (eqn3 _ HE.out)) acc1 ?_
          simp only [Z1,Z2,Z3,Z4]
          refine ZT 16 (some 81) (knv ⟨m, p, ⟨⟨ha, hn1⟩, lo, hi⟩, false, false, true, E⟩) acc1 ?_
          simp only [Z1,Z2,Z3,Z4]
          refine hRun 17 (some 20) (.pointer (some ⟨wd1.heap.size, 0, none⟩)) (by kernel_rfl) (by kernel_rfl) (by kernel_rfl) (by kernel_rfl) (by kernel_rfl) (show Seen W5 (wd1.alloc (.cells #[.bool false, .int .i64 0, .bool false, .int .i64 0, .bool false, .int .i64 0, .bool false, .int .i64 0, .bool false, .int .i64 0, .bool false, .int .i64 0, .bool false, .int .i64 0, .bool false, .int .i64 0, .bool false, .int .i64 0, .int .i64 0, .int .i64 0, .bool false, .bool false, .bool false, .bool false] 91)) from Seen.alloc acc1 _) ?_
          obtain ⟨wm2, hm2⟩ : ∃ x, x = wd1.alloc (.cells #[.bool false, .int .i64 0, .bool false, .int .i64 0, .bool false, .int .i64 0, .bool false, .int .i64 0, .bool false, .int .i64 0, .bool false, .int .i64 0, .bool false, .int .i64 0, .bool false, .int .i64 0, .bool false, .int .i64 0, .int .i64 0, .int .i64 0, .bool false, .bool false, .bool false, .bool false] 91) := ⟨_, rfl⟩
          rw [← hm2]
          have acc2 : Seen W5 wm2 := by rw [hm2]; exact Seen.alloc acc1 _
          have kx2 : Blk wm2 wd1.heap.size (knl zKn) 91 := by rw [hm2]; exact Blk.new _ _ _
          have kxg : W5.heap.size ≤ wd1.heap.size := Below.size acc1
          clear hm2
          simp only [Z1,Z2,Z3,Z4]
          refine ZK 18 none (run_skip_by (Instr.storeAt 91 (.pointer (some ⟨wd1.heap.size, 0, none⟩)) (knv ⟨m, p, ⟨⟨ha, hn1⟩, lo, hi⟩, false, false, true, E⟩)) (by kernel_rfl) (wr91 (vs := knl ⟨m, p, ⟨⟨ha, hn1⟩, lo, hi⟩, false, false, true, E⟩) kx2 rfl (Nat.le_refl _) (knl_one _))) ((Seen.turns acc2 (turns_sets _ (wd1.heap.size) 0 (knl ⟨m, p, ⟨⟨ha, hn1⟩, lo, hi⟩, false, false, true, E⟩)) kxg)) ?_
          simp only [Act.put]
          refine wpAnyH_done (by kernel_rfl) ?_ _
          have z1 : Blk _ _ (knl ⟨m, p, ⟨⟨ha, hn1⟩, lo, hi⟩, false, false, true, E⟩) 91 := (block_sets kx2 0 (knl ⟨m, p, ⟨⟨ha, hn1⟩, lo, hi⟩, false, false, true, E⟩) (sets_all (knl zKn) (knl ⟨m, p, ⟨⟨ha, hn1⟩, lo, hi⟩, false, false, true, E⟩) rfl))
          have z2 := (Seen.turns acc2 (turns_sets _ (wd1.heap.size) 0 (knl ⟨m, p, ⟨⟨ha, hn1⟩, lo, hi⟩, false, false, true, E⟩)) kxg)
          go_wp2_with fail
          go_meet
          exact ⟨_, rfl, kxg, by rw [← HAL.out]; exact z1, z2⟩
        refine aRun 17 (some 20) (.pointer (some ⟨W5.drew.heap.size, 0, none⟩)) (by kernel_rfl) (by kernel_rfl) (by kernel_rfl) (by kernel_rfl) (show Seen W5 (W5.drew.alloc (.cells #[.bool false, .int .i64 0, .bool false, .int .i64 0, .bool false, .int .i64 0, .bool false, .int .i64 0, .bool false, .int .i64 0, .bool false, .int .i64 0, .bool false, .int .i64 0, .bool false, .int .i64 0, .bool false, .int .i64 0, .int .i64 0, .int .i64 0, .bool false, .bool false, .bool false, .bool false] 91)) from Seen.alloc acc0 _) ?_ ?_
        · obtain ⟨wm1, hm1⟩ : ∃ x, x = W5.drew.alloc (.cells #[.bool false, .int .i64 0, .bool false, .int .i64 0, .bool false, .int .i64 0, .bool false, .int .i64 0, .bool false, .int .i64 0, .bool false, .int .i64 0, .bool false, .int .i64 0, .bool false, .int .i64 0, .bool false, .int .i64 0, .int .i64 0, .int .i64 0, .bool false, .bool false, .bool false, .bool false] 91) := ⟨_, rfl⟩
          rw [← hm1]
          have acc1 : Seen W5 wm1 := by rw [hm1]; exact Seen.alloc acc0 _
          have kx1 : Blk wm1 W5.drew.heap.size (knl zKn) 91 := by rw [hm1]; exact Blk.new _ _ _
          have kxg : W5.heap.size ≤ W5.drew.heap.size := Below.size acc0
          clear hm1
          simp only [Z1,Z2,Z3,Z4]
          refine ZC 13 (some 78) 51 #[.slice (some ⟨b, off, none⟩) N cp, .int .i64 (n : Int)] ?_
          refine (HFK.out _ (SW.out.trans acc1)).mono ?_
          rintro e wd2 ⟨vk, rfl, hri, hb⟩
          obtain ⟨ka, kc, rfl, -, -⟩ := RI.slice hri
          have acc2 : Seen W5 wd2 := Seen.next acc1 hb
          have kx2 := Blk.seen kx1 hb
          clear hb hri
          refine ⟨_, rfl, acc2, ?_⟩
          simp only [Z1,Z2,Z3,Z4]
          refine ZT 14 (some 79) (.int .i64 ((flowV l n).length : Int)) acc2 ?_
          simp only [Z1,Z2,Z3,Z4]
          refine ZU 15 (some 80) (.bool E) (fun _ hS => run_by (binOp .eql 3 (.int .i64 ((flowV l n).length : Int)) (.int .i64 0)) (by kernel_rfl) (eqn3 _ HE.out)) acc2 ?_
          simp only [Z1,Z2,Z3,Z4]
          refine ZT 16 (some 81) (knv ⟨m, p, ⟨⟨ha, hn1⟩, lo, hi⟩, false, false, true, E⟩) acc2 ?_
          simp only [Z1,Z2,Z3,Z4]
          refine ZK 18 none (run_skip_by (Instr.storeAt 91 (.pointer (some ⟨W5.drew.heap.size, 0, none⟩)) (knv ⟨m, p, ⟨⟨ha, hn1⟩, lo, hi⟩, false, false, true, E⟩)) (by kernel_rfl) (wr91 (vs := knl ⟨m, p, ⟨⟨ha, hn1⟩, lo, hi⟩, false, false, true, E⟩) kx2 rfl (Nat.le_refl _) (knl_one _))) ((Seen.turns acc2 (turns_sets _ (W5.drew.heap.size) 0 (knl ⟨m, p, ⟨⟨ha, hn1⟩, lo, hi⟩, false, false, true, E⟩)) kxg)) ?_
          simp only [Act.put]
          refine wpAnyH_done (by kernel_rfl) ?_ _
          have z1 : Blk _ _ (knl ⟨m, p, ⟨⟨ha, hn1⟩, lo, hi⟩, false, false, true, E⟩) 91 := (block_sets kx2 0 (knl ⟨m, p, ⟨⟨ha, hn1⟩, lo, hi⟩, false, false, true, E⟩) (sets_all (knl zKn) (knl ⟨m, p, ⟨⟨ha, hn1⟩, lo, hi⟩, false, false, true, E⟩) rfl))
          have z2 := (Seen.turns acc2 (turns_sets _ (W5.drew.heap.size) 0 (knl ⟨m, p, ⟨⟨ha, hn1⟩, lo, hi⟩, false, false, true, E⟩)) kxg)
          go_wp2_with fail
          go_meet
          exact ⟨_, rfl, kxg, by rw [← HAL.out]; exact z1, z2⟩
        exact AllReadyH.nil
    · have HAL : Hid (true = AL) := HIN.out
      clear HIN
      refine wp_region_held_drew (S := fun w' => Seen W5 w') (by kernel_rfl) acc0 (fun _ => ?_)
      refine ZU 0 (some 65) (.agg #[.bool m.a.au, .int .i64 m.a.n, .bool m.b.au, .int .i64 m.b.n, .bool m.c.au, .int .i64 m.c.n, .bool m.d.au, .int .i64 m.d.n]) (fun _ hS => run_by (Instr.loadAt 89 (.pointer (some ⟨X11, 0, none⟩))) (by kernel_rfl) (rda89 (vs := [.bool m.a.au, .int .i64 m.a.n, .bool m.b.au, .int .i64 m.b.n, .bool m.c.au, .int .i64 m.c.n, .bool m.d.au, .int .i64 m.d.n]) ((K11.out.seen hS).mid 0 8) rfl)) acc0 ?_
      simp only [Z1,Z2,Z3,Z4]
      refine ZU 1 (some 66) (.agg #[.bool p.a.au, .int .i64 p.a.n, .bool p.b.au, .int .i64 p.b.n, .bool p.c.au, .int .i64 p.c.n, .bool p.d.au, .int .i64 p.d.n]) (fun _ hS => run_by (Instr.loadAt 89 (.pointer (some ⟨X13, 0, none⟩))) (by kernel_rfl) (rda89 (vs := [.bool p.a.au, .int .i64 p.a.n, .bool p.b.au, .int .i64 p.b.n, .bool p.c.au, .int .i64 p.c.n, .bool p.d.au, .int .i64 p.d.n]) ((K13.out.seen hS).mid 0 8) rfl)) acc0 ?_
      simp only [Z1,Z2,Z3,Z4]
      refine ZU 2 (some 67) (.agg #[.bool ha, .int .i64 hn1]) (fun _ hS => run_by (Instr.loadAt 58 (.pointer (some ⟨X15, 0, none⟩))) (by kernel_rfl) (rda58 (vs := [.bool ha, .int .i64 hn1]) ((K15.out.seen hS).mid 0 2) rfl)) acc0 ?_
      simp only [Z1,Z2,Z3,Z4]
      refine ZT 3 (some 68) (.int .i64 lo) acc0 ?_
      simp only [Z1,Z2,Z3,Z4]
      refine ZT 4 (some 69) (.int .i64 hi) acc0 ?_
      simp only [Z1,Z2,Z3,Z4]
      refine ZT 5 (some 70) (.int .i64 (n : Int)) acc0 ?_
      simp only [Z1,Z2,Z3,Z4]
      refine ZU 6 (some 71) (.bool true) (fun _ hS => run_by (binOp .eql 3 (.int .i64 (n : Int)) (.int .i64 0)) (by kernel_rfl) (eqn3 _ HA.out)) acc0 ?_
      simp only [Z1,Z2,Z3,Z4]
      refine ZT 7 (some 72) (.bool true) acc0 ?_
      simp only [Z1,Z2,Z3,Z4]
      refine ZN 8 (some 73) acc0 ?_
      simp only [Z1,Z2,Z3,Z4]
      refine ZN 9 (some 74) acc0 ?_
      simp only [Z1,Z2,Z3,Z4]
      refine ZT 10 (some 75) (.bool true) acc0 ?_
      simp only [Z1,Z2,Z3,Z4]
      refine ZT 11 (some 76) (.slice (some ⟨b, off, none⟩) N cp) acc0 ?_
      simp only [Z1,Z2,Z3,Z4]
      refine ZT 12 (some 77) (.int .i64 (n : Int)) acc0 ?_
      simp only [Z1,Z2,Z3,Z4]
      refine wpAnyH_ready (rs := [13, 17]) (by kernel_rfl) (by simp) ?_
      refine aCall 13 (some 78) 51 #[.slice (some ⟨b, off, none⟩) N cp, .int .i64 (n : Int)] (by kernel_rfl) (by kernel_rfl) (by kernel_rfl) (by kernel_rfl) ?_ ?_
      · refine (HFK.out _ (SW.out.trans acc0)).mono ?_
        rintro e wd1 ⟨vk, rfl, hri, hb⟩
        obtain ⟨ka, kc, rfl, -, -⟩ := RI.slice hri
        have acc1 : Seen W5 wd1 := Seen.next acc0 hb
        clear hb hri
        refine ⟨_, rfl, acc1, ?_⟩
        simp only [Z1,Z2,Z3,Z4]
        refine ZT 14 (some 79) (.int .i64 ((flowV l n).length : Int)) acc1 ?_
        simp only [Z1,Z2,Z3,Z4]
        refine ZU 15 (some 80) (.bool E) (fun _ hS => run_by (binOp .eql 3 (.int .i64 ((flowV l n).length : Int)) (.int .i64 0)) (by kernel_rfl) (eqn3 _ HE.out)) acc1 ?_
        simp only [Z1,Z2,Z3,Z4]
        refine ZT 16 (some 81) (knv ⟨m, p, ⟨⟨ha, hn1⟩, lo, hi⟩, false, false, true, E⟩) acc1 ?_
        simp only [Z1,Z2,Z3,Z4]
        refine hRun 17 (some 20) (.pointer (some ⟨wd1.heap.size, 0, none⟩)) (by kernel_rfl) (by kernel_rfl) (by kernel_rfl) (by kernel_rfl) (by kernel_rfl) (show Seen W5 (wd1.alloc (.cells #[.bool false, .int .i64 0, .bool false, .int .i64 0, .bool false, .int .i64 0, .bool false, .int .i64 0, .bool false, .int .i64 0, .bool false, .int .i64 0, .bool false, .int .i64 0, .bool false, .int .i64 0, .bool false, .int .i64 0, .int .i64 0, .int .i64 0, .bool false, .bool false, .bool false, .bool false] 91)) from Seen.alloc acc1 _) ?_
        obtain ⟨wm2, hm2⟩ : ∃ x, x = wd1.alloc (.cells #[.bool false, .int .i64 0, .bool false, .int .i64 0, .bool false, .int .i64 0, .bool false, .int .i64 0, .bool false, .int .i64 0, .bool false, .int .i64 0, .bool false, .int .i64 0, .bool false, .int .i64 0, .bool false, .int .i64 0, .int .i64 0, .int .i64 0, .bool false, .bool false, .bool false, .bool false] 91) := ⟨_, rfl⟩
        rw [← hm2]
        have acc2 : Seen W5 wm2 := by rw [hm2]; exact Seen.alloc acc1 _
        have kx2 : Blk wm2 wd1.heap.size (knl zKn) 91 := by rw [hm2]; exact Blk.new _ _ _
        have kxg : W5.heap.size ≤ wd1.heap.size := Below.size acc1
        clear hm2
        simp only [Z1,Z2,Z3,Z4]
        refine ZK 18 none (run_skip_by (Instr.storeAt 91 (.pointer (some ⟨wd1.heap.size, 0, none⟩)) (knv ⟨m, p, ⟨⟨ha, hn1⟩, lo, hi⟩, false, false, true, E⟩)) (by kernel_rfl) (wr91 (vs := knl ⟨m, p, ⟨⟨ha, hn1⟩, lo, hi⟩, false, false, true, E⟩) kx2 rfl (Nat.le_refl _) (knl_one _))) ((Seen.turns acc2 (turns_sets _ (wd1.heap.size) 0 (knl ⟨m, p, ⟨⟨ha, hn1⟩, lo, hi⟩, false, false, true, E⟩)) kxg)) ?_
        simp only [Act.put]
        refine wpAnyH_done (by kernel_rfl) ?_ _
        have z1 : Blk _ _ (knl ⟨m, p, ⟨⟨ha, hn1⟩, lo, hi⟩, false, false, true, E⟩) 91 := (block_sets kx2 0 (knl ⟨m, p, ⟨⟨ha, hn1⟩, lo, hi⟩, false, false, true, E⟩) (sets_all (knl zKn) (knl ⟨m, p, ⟨⟨ha, hn1⟩, lo, hi⟩, false, false, true, E⟩) rfl))
        have z2 := (Seen.turns acc2 (turns_sets _ (wd1.heap.size) 0 (knl ⟨m, p, ⟨⟨ha, hn1⟩, lo, hi⟩, false, false, true, E⟩)) kxg)
        go_wp2_with fail
        go_meet
        exact ⟨_, rfl, kxg, by rw [← HAL.out]; exact z1, z2⟩
      refine aRun 17 (some 20) (.pointer (some ⟨W5.drew.heap.size, 0, none⟩)) (by kernel_rfl) (by kernel_rfl) (by kernel_rfl) (by kernel_rfl) (show Seen W5 (W5.drew.alloc (.cells #[.bool false, .int .i64 0, .bool false, .int .i64 0, .bool false, .int .i64 0, .bool false, .int .i64 0, .bool false, .int .i64 0, .bool false, .int .i64 0, .bool false, .int .i64 0, .bool false, .int .i64 0, .bool false, .int .i64 0, .int .i64 0, .int .i64 0, .bool false, .bool false, .bool false, .bool false] 91)) from Seen.alloc acc0 _) ?_ ?_
      · obtain ⟨wm1, hm1⟩ : ∃ x, x = W5.drew.alloc (.cells #[.bool false, .int .i64 0, .bool false, .int .i64 0, .bool false, .int .i64 0, .bool false, .int .i64 0, .bool false, .int .i64 0, .bool false, .int .i64 0, .bool false, .int .i64 0, .bool false, .int .i64 0, .bool false, .int .i64 0, .int .i64 0, .int .i64 0, .bool false, .bool false, .bool false, .bool false] 91) := ⟨_, rfl⟩
        rw [← hm1]
        have acc1 : Seen W5 wm1 := by rw [hm1]; exact Seen.alloc acc0 _
        have kx1 : Blk wm1 W5.drew.heap.size (knl zKn) 91 := by rw [hm1]; exact Blk.new _ _ _
        have kxg : W5.heap.size ≤ W5.drew.heap.size := Below.size acc0
        clear hm1
        simp only [Z1,Z2,Z3,Z4]
        refine ZC 13 (some 78) 51 #[.slice (some ⟨b, off, none⟩) N cp, .int .i64 (n : Int)] ?_
        refine (HFK.out _ (SW.out.trans acc1)).mono ?_
        rintro e wd2 ⟨vk, rfl, hri, hb⟩
        obtain ⟨ka, kc, rfl, -, -⟩ := RI.slice hri
        have acc2 : Seen W5 wd2 := Seen.next acc1 hb
        have kx2 := Blk.seen kx1 hb
        clear hb hri
        refine ⟨_, rfl, acc2, ?_⟩
        simp only [Z1,Z2,Z3,Z4]
        refine ZT 14 (some 79) (.int .i64 ((flowV l n).length : Int)) acc2 ?_
        simp only [Z1,Z2,Z3,Z4]
        refine ZU 15 (some 80) (.bool E) (fun _ hS => run_by (binOp .eql 3 (.int .i64 ((flowV l n).length : Int)) (.int .i64 0)) (by kernel_rfl) (eqn3 _ HE.out)) acc2 ?_
        simp only [Z1,Z2,Z3,Z4]
        refine ZT 16 (some 81) (knv ⟨m, p, ⟨⟨ha, hn1⟩, lo, hi⟩, false, false, true, E⟩) acc2 ?_
        simp only [Z1,Z2,Z3,Z4]
        refine ZK 18 none (run_skip_by (Instr.storeAt 91 (.pointer (some ⟨W5.drew.heap.size, 0, none⟩)) (knv ⟨m, p, ⟨⟨ha, hn1⟩, lo, hi⟩, false, false, true, E⟩)) (by kernel_rfl) (wr91 (vs := knl ⟨m, p, ⟨⟨ha, hn1⟩, lo, hi⟩, false, false, true, E⟩) kx2 rfl (Nat.le_refl _) (knl_one _))) ((Seen.turns acc2 (turns_sets _ (W5.drew.heap.size) 0 (knl ⟨m, p, ⟨⟨ha, hn1⟩, lo, hi⟩, false, false, true, E⟩)) kxg)) ?_
        simp only [Act.put]
        refine wpAnyH_done (by kernel_rfl) ?_ _
        have z1 : Blk _ _ (knl ⟨m, p, ⟨⟨ha, hn1⟩, lo, hi⟩, false, false, true, E⟩) 91 := (block_sets kx2 0 (knl ⟨m, p, ⟨⟨ha, hn1⟩, lo, hi⟩, false, false, true, E⟩) (sets_all (knl zKn) (knl ⟨m, p, ⟨⟨ha, hn1⟩, lo, hi⟩, false, false, true, E⟩) rfl))
        have z2 := (Seen.turns acc2 (turns_sets _ (W5.drew.heap.size) 0 (knl ⟨m, p, ⟨⟨ha, hn1⟩, lo, hi⟩, false, false, true, E⟩)) kxg)
        go_wp2_with fail
        go_meet
        exact ⟨_, rfl, kxg, by rw [← HAL.out]; exact z1, z2⟩
      exact AllReadyH.nil
  obtain ⟨X20, rfl, o6, k20, s20⟩ := hcut
  replace K10 := Lib.hid (K10.out.seen s20)
  replace K13 := Lib.hid (K13.out.seen s20)
  have S20 := Lib.hid s20
  have K20 := Lib.hid k20
  have hne10 : X20 ≠ X10 := by omega
  have hne13 : X20 ≠ X13 := by omega
  clear K11 K15 k20 s20 HFK HE HCL HIN
  obtain ⟨T7, hT7⟩ : ∃ q, (decide (bat s.bord 0 = 0) && decide (p.a.n = 0)) = q := ⟨_, rfl⟩
  obtain ⟨B7, hB7⟩ : ∃ q, (decide (bat s.bord 2 = 0) && decide (p.c.n = 0)) = q := ⟨_, rfl⟩
  rw [hT7, hB7] at HO
  have HT7 := Lib.hid hT7
  have HB7 := Lib.hid hB7
  clear hT7 hB7
  go_upto_region 7 with fail
  go_cut [] (fun wx => (Blk wx X20 (knl ⟨m, p, ⟨⟨ha, hn1⟩, lo, hi⟩, T7, B7, AL, E⟩) 91 ∧ Seen W5 wx) : World → Prop)
  case first =>
    have acc0 : Seen W5 wc.drew := S20.out.drew
    have q10 : Blk wc.drew X10 (stl s) 66 := K10.out
    have q13 : Blk wc.drew X13 [.bool p.a.au, .int .i64 p.a.n, .bool p.b.au, .int .i64 p.b.n, .bool p.c.au, .int .i64 p.c.n, .bool p.d.au, .int .i64 p.d.n] 89 := K13.out
    have q20 : Blk wc.drew X20 (knl ⟨m, p, ⟨⟨ha, hn1⟩, lo, hi⟩, false, false, AL, E⟩) 91 := K20.out
    have g20 := o6
    clear HO KZ K10 K13 K20 S20 SW
    obtain ⟨E0, hE0⟩ : ∃ q, decide (bat s.bord 0 = 0) = q := ⟨_, rfl⟩
    have HE0 := Lib.hid hE0
    rw [hE0] at HT7
    clear hE0
    obtain ⟨E1, hE1⟩ : ∃ q, decide (p.a.n = 0) = q := ⟨_, rfl⟩
    have HE1 := Lib.hid hE1
    rw [hE1] at HT7
    clear hE1
    obtain ⟨E2, hE2⟩ : ∃ q, decide (bat s.bord 2 = 0) = q := ⟨_, rfl⟩
    have HE2 := Lib.hid hE2
    rw [hE2] at HB7
    clear hE2
    obtain ⟨E3, hE3⟩ : ∃ q, decide (p.c.n = 0) = q := ⟨_, rfl⟩
    have HE3 := Lib.hid hE3
    rw [hE3] at HB7
    clear hE3
    cases E0
    · cases E2
      · refine wp_region_held_drew (S := fun w' => Blk w' X10 (stl s) 66 ∧ Blk w' X13 [.bool p.a.au, .int .i64 p.a.n, .bool p.b.au, .int .i64 p.b.n, .bool p.c.au, .int .i64 p.c.n, .bool p.d.au, .int .i64 p.d.n] 89) (by kernel_rfl) ⟨q10, q13⟩ (fun _ => ?_)
        refine ZT 0 (some 82) (.pointer (some ⟨X10, 38, none⟩)) ⟨q10, q13⟩ ?_
        simp only [Z1,Z2,Z3,Z4]
        refine ZT 1 (some 83) (.pointer (some ⟨X10, 38, none⟩)) ⟨q10, q13⟩ ?_
        simp only [Z1,Z2,Z3,Z4]
        refine ZU 2 (some 84) (.int .i64 (bat s.bord 0)) (fun _ hS => run_by (Instr.loadAt 2 (.pointer (some ⟨X10, 38, none⟩))) (by kernel_rfl) (rd2 (rdBord hS.1 HF.out (i := 0) (by decide) rfl))) ⟨q10, q13⟩ ?_
        simp only [Z1,Z2,Z3,Z4]
        refine ZU 3 (some 85) (.bool false) (fun _ hS => run_by (binOp .eql 2 (.int .i64 (bat s.bord 0)) (.int .i64 0)) (by kernel_rfl) (eqn2 _ HE0.out)) ⟨q10, q13⟩ ?_
        simp only [Z1,Z2,Z3,Z4]
        refine ZT 4 (some 86) (.bool false) ⟨q10, q13⟩ ?_
        simp only [Z1,Z2,Z3,Z4]
        refine ZN 5 (some 87) ⟨q10, q13⟩ ?_
        simp only [Z1,Z2,Z3,Z4]
        refine ZN 6 (some 88) ⟨q10, q13⟩ ?_
        simp only [Z1,Z2,Z3,Z4]
        refine ZN 7 (some 89) ⟨q10, q13⟩ ?_
        simp only [Z1,Z2,Z3,Z4]
        refine ZN 8 (some 90) ⟨q10, q13⟩ ?_
        simp only [Z1,Z2,Z3,Z4]
        refine ZT 9 (some 91) (.bool false) ⟨q10, q13⟩ ?_
        simp only [Z1,Z2,Z3,Z4]
        refine ZT 10 (some 92) (.pointer (some ⟨X10, 38, none⟩)) ⟨q10, q13⟩ ?_
        simp only [Z1,Z2,Z3,Z4]
        refine ZT 11 (some 93) (.pointer (some ⟨X10, 40, none⟩)) ⟨q10, q13⟩ ?_
        simp only [Z1,Z2,Z3,Z4]
        refine ZU 12 (some 94) (.int .i64 (bat s.bord 2)) (fun _ hS => run_by (Instr.loadAt 2 (.pointer (some ⟨X10, 40, none⟩))) (by kernel_rfl) (rd2 (rdBord hS.1 HF.out (i := 2) (by decide) rfl))) ⟨q10, q13⟩ ?_
        simp only [Z1,Z2,Z3,Z4]
        refine ZU 13 (some 95) (.bool false) (fun _ hS => run_by (binOp .eql 2 (.int .i64 (bat s.bord 2)) (.int .i64 0)) (by kernel_rfl) (eqn2 _ HE2.out)) ⟨q10, q13⟩ ?_
        simp only [Z1,Z2,Z3,Z4]
        refine ZT 14 (some 96) (.bool false) ⟨q10, q13⟩ ?_
        simp only [Z1,Z2,Z3,Z4]
        refine ZN 15 (some 97) ⟨q10, q13⟩ ?_
        simp only [Z1,Z2,Z3,Z4]
        refine ZN 16 (some 98) ⟨q10, q13⟩ ?_
        simp only [Z1,Z2,Z3,Z4]
        refine ZN 17 (some 99) ⟨q10, q13⟩ ?_
        simp only [Z1,Z2,Z3,Z4]
        refine ZN 18 (some 100) ⟨q10, q13⟩ ?_
        simp only [Z1,Z2,Z3,Z4]
        refine ZT 19 (some 101) (.bool false) ⟨q10, q13⟩ ?_
        simp only [Z1,Z2,Z3,Z4]
        refine ZT 20 (some 102) (.pointer (some ⟨X20, 20, none⟩)) ⟨q10, q13⟩ ?_
        simp only [Z1,Z2,Z3,Z4]
        refine ZK 21 none (run_skip_by (Instr.storeAt 4 (.pointer (some ⟨X20, 20, none⟩)) (.bool false)) (by kernel_rfl) (wr4 false q20 rfl)) (⟨(Blk.other (p := ⟨X20, 20, none⟩) q10 hne10 (.bool false)), (Blk.other (p := ⟨X20, 20, none⟩) q13 hne13 (.bool false))⟩) ?_
        simp only [Act.put]
        refine ZT 22 (some 103) (.pointer (some ⟨X20, 21, none⟩)) ⟨(Blk.other (p := ⟨X20, 20, none⟩) q10 hne10 (.bool false)), (Blk.other (p := ⟨X20, 20, none⟩) q13 hne13 (.bool false))⟩ ?_
        simp only [Z1,Z2,Z3,Z4]
        refine ZK 23 none (run_skip_by (Instr.storeAt 4 (.pointer (some ⟨X20, 21, none⟩)) (.bool false)) (by kernel_rfl) (wr4 false (Blk.set q20 20 (.bool false)) rfl)) (⟨(Blk.other (p := ⟨X20, 21, none⟩) (Blk.other (p := ⟨X20, 20, none⟩) q10 hne10 (.bool false)) hne10 (.bool false)), (Blk.other (p := ⟨X20, 21, none⟩) (Blk.other (p := ⟨X20, 20, none⟩) q13 hne13 (.bool false)) hne13 (.bool false))⟩) ?_
        simp only [Act.put]
        refine wpAnyH_done (by kernel_rfl) ?_ _
        have z1 := (Blk.set (Blk.set q20 20 (.bool false)) 21 (.bool false))
        have z2 := (seen_set (o := 21) (v := .bool false) (seen_set (o := 20) (v := .bool false) acc0 g20) g20)
        go_wp2_with fail
        go_meet
        exact ⟨by rw [← HT7.out, ← HB7.out]; rw [knl_ends] at z1; exact z1, z2⟩
      · cases E3
        · refine wp_region_held_drew (S := fun w' => Blk w' X10 (stl s) 66 ∧ Blk w' X13 [.bool p.a.au, .int .i64 p.a.n, .bool p.b.au, .int .i64 p.b.n, .bool p.c.au, .int .i64 p.c.n, .bool p.d.au, .int .i64 p.d.n] 89) (by kernel_rfl) ⟨q10, q13⟩ (fun _ => ?_)
          refine ZT 0 (some 82) (.pointer (some ⟨X10, 38, none⟩)) ⟨q10, q13⟩ ?_
          simp only [Z1,Z2,Z3,Z4]
          refine ZT 1 (some 83) (.pointer (some ⟨X10, 38, none⟩)) ⟨q10, q13⟩ ?_
          simp only [Z1,Z2,Z3,Z4]
          refine ZU 2 (some 84) (.int .i64 (bat s.bord 0)) (fun _ hS => run_by (Instr.loadAt 2 (.pointer (some ⟨X10, 38, none⟩))) (by kernel_rfl) (rd2 (rdBord hS.1 HF.out (i := 0) (by decide) rfl))) ⟨q10, q13⟩ ?_
          simp only [Z1,Z2,Z3,Z4]
          refine ZU 3 (some 85) (.bool false) (fun _ hS => run_by (binOp .eql 2 (.int .i64 (bat s.bord 0)) (.int .i64 0)) (by kernel_rfl) (eqn2 _ HE0.out)) ⟨q10, q13⟩ ?_
          simp only [Z1,Z2,Z3,Z4]
          refine ZT 4 (some 86) (.bool false) ⟨q10, q13⟩ ?_
          simp only [Z1,Z2,Z3,Z4]
          refine ZN 5 (some 87) ⟨q10, q13⟩ ?_
          simp only [Z1,Z2,Z3,Z4]
          refine ZN 6 (some 88) ⟨q10, q13⟩ ?_
          simp only [Z1,Z2,Z3,Z4]
          refine ZN 7 (some 89) ⟨q10, q13⟩ ?_
          simp only [Z1,Z2,Z3,Z4]
          refine ZN 8 (some 90) ⟨q10, q13⟩ ?_
          simp only [Z1,Z2,Z3,Z4]
          refine ZT 9 (some 91) (.bool false) ⟨q10, q13⟩ ?_
          simp only [Z1,Z2,Z3,Z4]
          refine ZT 10 (some 92) (.pointer (some ⟨X10, 38, none⟩)) ⟨q10, q13⟩ ?_
          simp only [Z1,Z2,Z3,Z4]
          refine ZT 11 (some 93) (.pointer (some ⟨X10, 40, none⟩)) ⟨q10, q13⟩ ?_
          simp only [Z1,Z2,Z3,Z4]
          refine ZU 12 (some 94) (.int .i64 (bat s.bord 2)) (fun _ hS => run_by (Instr.loadAt 2 (.pointer (some ⟨X10, 40, none⟩))) (by kernel_rfl) (rd2 (rdBord hS.1 HF.out (i := 2) (by decide) rfl))) ⟨q10, q13⟩ ?_
          simp only [Z1,Z2,Z3,Z4]
          refine ZU 13 (some 95) (.bool true) (fun _ hS => run_by (binOp .eql 2 (.int .i64 (bat s.bord 2)) (.int .i64 0)) (by kernel_rfl) (eqn2 _ HE2.out)) ⟨q10, q13⟩ ?_
          simp only [Z1,Z2,Z3,Z4]
          refine ZT 14 (some 96) (.bool true) ⟨q10, q13⟩ ?_
          simp only [Z1,Z2,Z3,Z4]
          refine ZT 15 (some 97) (.pointer (some ⟨X13, 4, none⟩)) ⟨q10, q13⟩ ?_
          simp only [Z1,Z2,Z3,Z4]
          refine ZT 16 (some 98) (.pointer (some ⟨X13, 5, none⟩)) ⟨q10, q13⟩ ?_
          simp only [Z1,Z2,Z3,Z4]
          refine ZU 17 (some 99) (.int .i64 p.c.n) (fun _ hS => run_by (Instr.loadAt 2 (.pointer (some ⟨X13, 5, none⟩))) (by kernel_rfl) (rd2 (hS.2.cell 5))) ⟨q10, q13⟩ ?_
          simp only [Z1,Z2,Z3,Z4]
          refine ZU 18 (some 100) (.bool false) (fun _ hS => run_by (binOp .eql 2 (.int .i64 p.c.n) (.int .i64 0)) (by kernel_rfl) (eqn2 _ HE3.out)) ⟨q10, q13⟩ ?_
          simp only [Z1,Z2,Z3,Z4]
          refine ZT 19 (some 101) (.bool false) ⟨q10, q13⟩ ?_
          simp only [Z1,Z2,Z3,Z4]
          refine ZT 20 (some 102) (.pointer (some ⟨X20, 20, none⟩)) ⟨q10, q13⟩ ?_
          simp only [Z1,Z2,Z3,Z4]
          refine ZK 21 none (run_skip_by (Instr.storeAt 4 (.pointer (some ⟨X20, 20, none⟩)) (.bool false)) (by kernel_rfl) (wr4 false q20 rfl)) (⟨(Blk.other (p := ⟨X20, 20, none⟩) q10 hne10 (.bool false)), (Blk.other (p := ⟨X20, 20, none⟩) q13 hne13 (.bool false))⟩) ?_
          simp only [Act.put]
          refine ZT 22 (some 103) (.pointer (some ⟨X20, 21, none⟩)) ⟨(Blk.other (p := ⟨X20, 20, none⟩) q10 hne10 (.bool false)), (Blk.other (p := ⟨X20, 20, none⟩) q13 hne13 (.bool false))⟩ ?_
          simp only [Z1,Z2,Z3,Z4]
          refine ZK 23 none (run_skip_by (Instr.storeAt 4 (.pointer (some ⟨X20, 21, none⟩)) (.bool false)) (by kernel_rfl) (wr4 false (Blk.set q20 20 (.bool false)) rfl)) (⟨(Blk.other (p := ⟨X20, 21, none⟩) (Blk.other (p := ⟨X20, 20, none⟩) q10 hne10 (.bool false)) hne10 (.bool false)), (Blk.other (p := ⟨X20, 21, none⟩) (Blk.other (p := ⟨X20, 20, none⟩) q13 hne13 (.bool false)) hne13 (.bool false))⟩) ?_
          simp only [Act.put]
          refine wpAnyH_done (by kernel_rfl) ?_ _
          have z1 := (Blk.set (Blk.set q20 20 (.bool false)) 21 (.bool false))
          have z2 := (seen_set (o := 21) (v := .bool false) (seen_set (o := 20) (v := .bool false) acc0 g20) g20)
          go_wp2_with fail
          go_meet
          exact ⟨by rw [← HT7.out, ← HB7.out]; rw [knl_ends] at z1; exact z1, z2⟩
        · refine wp_region_held_drew (S := fun w' => Blk w' X10 (stl s) 66 ∧ Blk w' X13 [.bool p.a.au, .int .i64 p.a.n, .bool p.b.au, .int .i64 p.b.n, .bool p.c.au, .int .i64 p.c.n, .bool p.d.au, .int .i64 p.d.n] 89) (by kernel_rfl) ⟨q10, q13⟩ (fun _ => ?_)
          refine ZT 0 (some 82) (.pointer (some ⟨X10, 38, none⟩)) ⟨q10, q13⟩ ?_
          simp only [Z1,Z2,Z3,Z4]
          refine ZT 1 (some 83) (.pointer (some ⟨X10, 38, none⟩)) ⟨q10, q13⟩ ?_
          simp only [Z1,Z2,Z3,Z4]
          refine ZU 2 (some 84) (.int .i64 (bat s.bord 0)) (fun _ hS => run_by (Instr.loadAt 2 (.pointer (some ⟨X10, 38, none⟩))) (by kernel_rfl) (rd2 (rdBord hS.1 HF.out (i := 0) (by decide) rfl))) ⟨q10, q13⟩ ?_
          simp only [Z1,Z2,Z3,Z4]
          refine ZU 3 (some 85) (.bool false) (fun _ hS => run_by (binOp .eql 2 (.int .i64 (bat s.bord 0)) (.int .i64 0)) (by kernel_rfl) (eqn2 _ HE0.out)) ⟨q10, q13⟩ ?_
          simp only [Z1,Z2,Z3,Z4]
          refine ZT 4 (some 86) (.bool false) ⟨q10, q13⟩ ?_
          simp only [Z1,Z2,Z3,Z4]
          refine ZN 5 (some 87) ⟨q10, q13⟩ ?_
          simp only [Z1,Z2,Z3,Z4]
          refine ZN 6 (some 88) ⟨q10, q13⟩ ?_
          simp only [Z1,Z2,Z3,Z4]
          refine ZN 7 (some 89) ⟨q10, q13⟩ ?_
          simp only [Z1,Z2,Z3,Z4]
          refine ZN 8 (some 90) ⟨q10, q13⟩ ?_
          simp only [Z1,Z2,Z3,Z4]
          refine ZT 9 (some 91) (.bool false) ⟨q10, q13⟩ ?_
          simp only [Z1,Z2,Z3,Z4]
          refine ZT 10 (some 92) (.pointer (some ⟨X10, 38, none⟩)) ⟨q10, q13⟩ ?_
          simp only [Z1,Z2,Z3,Z4]
          refine ZT 11 (some 93) (.pointer (some ⟨X10, 40, none⟩)) ⟨q10, q13⟩ ?_
          simp only [Z1,Z2,Z3,Z4]
          refine ZU 12 (some 94) (.int .i64 (bat s.bord 2)) (fun _ hS => run_by (Instr.loadAt 2 (.pointer (some ⟨X10, 40, none⟩))) (by kernel_rfl) (rd2 (rdBord hS.1 HF.out (i := 2) (by decide) rfl))) ⟨q10, q13⟩ ?_
          simp only [Z1,Z2,Z3,Z4]
          refine ZU 13 (some 95) (.bool true) (fun _ hS => run_by (binOp .eql 2 (.int .i64 (bat s.bord 2)) (.int .i64 0)) (by kernel_rfl) (eqn2 _ HE2.out)) ⟨q10, q13⟩ ?_
          simp only [Z1,Z2,Z3,Z4]
          refine ZT 14 (some 96) (.bool true) ⟨q10, q13⟩ ?_
          simp only [Z1,Z2,Z3,Z4]
          refine ZT 15 (some 97) (.pointer (some ⟨X13, 4, none⟩)) ⟨q10, q13⟩ ?_
          simp only [Z1,Z2,Z3,Z4]
          refine ZT 16 (some 98) (.pointer (some ⟨X13, 5, none⟩)) ⟨q10, q13⟩ ?_
          simp only [Z1,Z2,Z3,Z4]
          refine ZU 17 (some 99) (.int .i64 p.c.n) (fun _ hS => run_by (Instr.loadAt 2 (.pointer (some ⟨X13, 5, none⟩))) (by kernel_rfl) (rd2 (hS.2.cell 5))) ⟨q10, q13⟩ ?_
          simp only [Z1,Z2,Z3,Z4]
          refine ZU 18 (some 100) (.bool true) (fun _ hS => run_by (binOp .eql 2 (.int .i64 p.c.n) (.int .i64 0)) (by kernel_rfl) (eqn2 _ HE3.out)) ⟨q10, q13⟩ ?_
          simp only [Z1,Z2,Z3,Z4]
          refine ZT 19 (some 101) (.bool true) ⟨q10, q13⟩ ?_
          simp only [Z1,Z2,Z3,Z4]
          refine ZT 20 (some 102) (.pointer (some ⟨X20, 20, none⟩)) ⟨q10, q13⟩ ?_
          simp only [Z1,Z2,Z3,Z4]
          refine ZK 21 none (run_skip_by (Instr.storeAt 4 (.pointer (some ⟨X20, 20, none⟩)) (.bool false)) (by kernel_rfl) (wr4 false q20 rfl)) (⟨(Blk.other (p := ⟨X20, 20, none⟩) q10 hne10 (.bool false)), (Blk.other (p := ⟨X20, 20, none⟩) q13 hne13 (.bool false))⟩) ?_
          simp only [Act.put]
          refine ZT 22 (some 103) (.pointer (some ⟨X20, 21, none⟩)) ⟨(Blk.other (p := ⟨X20, 20, none⟩) q10 hne10 (.bool false)), (Blk.other (p := ⟨X20, 20, none⟩) q13 hne13 (.bool false))⟩ ?_
          simp only [Z1,Z2,Z3,Z4]
          refine ZK 23 none (run_skip_by (Instr.storeAt 4 (.pointer (some ⟨X20, 21, none⟩)) (.bool true)) (by kernel_rfl) (wr4 true (Blk.set q20 20 (.bool false)) rfl)) (⟨(Blk.other (p := ⟨X20, 21, none⟩) (Blk.other (p := ⟨X20, 20, none⟩) q10 hne10 (.bool false)) hne10 (.bool true)), (Blk.other (p := ⟨X20, 21, none⟩) (Blk.other (p := ⟨X20, 20, none⟩) q13 hne13 (.bool false)) hne13 (.bool true))⟩) ?_
          simp only [Act.put]
          refine wpAnyH_done (by kernel_rfl) ?_ _
          have z1 := (Blk.set (Blk.set q20 20 (.bool false)) 21 (.bool true))
          have z2 := (seen_set (o := 21) (v := .bool true) (seen_set (o := 20) (v := .bool false) acc0 g20) g20)
          go_wp2_with fail
          go_meet
          exact ⟨by rw [← HT7.out, ← HB7.out]; rw [knl_ends] at z1; exact z1, z2⟩
    · cases E1
      · cases E2
        · refine wp_region_held_drew (S := fun w' => Blk w' X10 (stl s) 66 ∧ Blk w' X13 [.bool p.a.au, .int .i64 p.a.n, .bool p.b.au, .int .i64 p.b.n, .bool p.c.au, .int .i64 p.c.n, .bool p.d.au, .int .i64 p.d.n] 89) (by kernel_rfl) ⟨q10, q13⟩ (fun _ => ?_)
          refine ZT 0 (some 82) (.pointer (some ⟨X10, 38, none⟩)) ⟨q10, q13⟩ ?_
          simp only [Z1,Z2,Z3,Z4]
          refine ZT 1 (some 83) (.pointer (some ⟨X10, 38, none⟩)) ⟨q10, q13⟩ ?_
          simp only [Z1,Z2,Z3,Z4]
          refine ZU 2 (some 84) (.int .i64 (bat s.bord 0)) (fun _ hS => run_by (Instr.loadAt 2 (.pointer (some ⟨X10, 38, none⟩))) (by kernel_rfl) (rd2 (rdBord hS.1 HF.out (i := 0) (by decide) rfl))) ⟨q10, q13⟩ ?_
          simp only [Z1,Z2,Z3,Z4]
          refine ZU 3 (some 85) (.bool true) (fun _ hS => run_by (binOp .eql 2 (.int .i64 (bat s.bord 0)) (.int .i64 0)) (by kernel_rfl) (eqn2 _ HE0.out)) ⟨q10, q13⟩ ?_
          simp only [Z1,Z2,Z3,Z4]
          refine ZT 4 (some 86) (.bool true) ⟨q10, q13⟩ ?_
          simp only [Z1,Z2,Z3,Z4]
          refine ZT 5 (some 87) (.pointer (some ⟨X13, 0, none⟩)) ⟨q10, q13⟩ ?_
          simp only [Z1,Z2,Z3,Z4]
          refine ZT 6 (some 88) (.pointer (some ⟨X13, 1, none⟩)) ⟨q10, q13⟩ ?_
          simp only [Z1,Z2,Z3,Z4]
          refine ZU 7 (some 89) (.int .i64 p.a.n) (fun _ hS => run_by (Instr.loadAt 2 (.pointer (some ⟨X13, 1, none⟩))) (by kernel_rfl) (rd2 (hS.2.cell 1))) ⟨q10, q13⟩ ?_
          simp only [Z1,Z2,Z3,Z4]
          refine ZU 8 (some 90) (.bool false) (fun _ hS => run_by (binOp .eql 2 (.int .i64 p.a.n) (.int .i64 0)) (by kernel_rfl) (eqn2 _ HE1.out)) ⟨q10, q13⟩ ?_
          simp only [Z1,Z2,Z3,Z4]
          refine ZT 9 (some 91) (.bool false) ⟨q10, q13⟩ ?_
          simp only [Z1,Z2,Z3,Z4]
          refine ZT 10 (some 92) (.pointer (some ⟨X10, 38, none⟩)) ⟨q10, q13⟩ ?_
          simp only [Z1,Z2,Z3,Z4]
          refine ZT 11 (some 93) (.pointer (some ⟨X10, 40, none⟩)) ⟨q10, q13⟩ ?_
          simp only [Z1,Z2,Z3,Z4]
          refine ZU 12 (some 94) (.int .i64 (bat s.bord 2)) (fun _ hS => run_by (Instr.loadAt 2 (.pointer (some ⟨X10, 40, none⟩))) (by kernel_rfl) (rd2 (rdBord hS.1 HF.out (i := 2) (by decide) rfl))) ⟨q10, q13⟩ ?_
          simp only [Z1,Z2,Z3,Z4]
          refine ZU 13 (some 95) (.bool false) (fun _ hS => run_by (binOp .eql 2 (.int .i64 (bat s.bord 2)) (.int .i64 0)) (by kernel_rfl) (eqn2 _ HE2.out)) ⟨q10, q13⟩ ?_
          simp only [Z1,Z2,Z3,Z4]
          refine ZT 14 (some 96) (.bool false) ⟨q10, q13⟩ ?_
          simp only [Z1,Z2,Z3,Z4]
          refine ZN 15 (some 97) ⟨q10, q13⟩ ?_
          simp only [Z1,Z2,Z3,Z4]
          refine ZN 16 (some 98) ⟨q10, q13⟩ ?_
          simp only [Z1,Z2,Z3,Z4]
          refine ZN 17 (some 99) ⟨q10, q13⟩ ?_
          simp only [Z1,Z2,Z3,Z4]
          refine ZN 18 (some 100) ⟨q10, q13⟩ ?_
          simp only [Z1,Z2,Z3,Z4]
          refine ZT 19 (some 101) (.bool false) ⟨q10, q13⟩ ?_
          simp only [Z1,Z2,Z3,Z4]
          refine ZT 20 (some 102) (.pointer (some ⟨X20, 20, none⟩)) ⟨q10, q13⟩ ?_
          simp only [Z1,Z2,Z3,Z4]
          refine ZK 21 none (run_skip_by (Instr.storeAt 4 (.pointer (some ⟨X20, 20, none⟩)) (.bool false)) (by kernel_rfl) (wr4 false q20 rfl)) (⟨(Blk.other (p := ⟨X20, 20, none⟩) q10 hne10 (.bool false)), (Blk.other (p := ⟨X20, 20, none⟩) q13 hne13 (.bool false))⟩) ?_
          simp only [Act.put]
          refine ZT 22 (some 103) (.pointer (some ⟨X20, 21, none⟩)) ⟨(Blk.other (p := ⟨X20, 20, none⟩) q10 hne10 (.bool false)), (Blk.other (p := ⟨X20, 20, none⟩) q13 hne13 (.bool false))⟩ ?_
          simp only [Z1,Z2,Z3,Z4]
          refine ZK 23 none (run_skip_by (Instr.storeAt 4 (.pointer (some ⟨X20, 21, none⟩)) (.bool false)) (by kernel_rfl) (wr4 false (Blk.set q20 20 (.bool false)) rfl)) (⟨(Blk.other (p := ⟨X20, 21, none⟩) (Blk.other (p := ⟨X20, 20, none⟩) q10 hne10 (.bool false)) hne10 (.bool false)), (Blk.other (p := ⟨X20, 21, none⟩) (Blk.other (p := ⟨X20, 20, none⟩) q13 hne13 (.bool false)) hne13 (.bool false))⟩) ?_
          simp only [Act.put]
          refine wpAnyH_done (by kernel_rfl) ?_ _
          have z1 := (Blk.set (Blk.set q20 20 (.bool false)) 21 (.bool false))
          have z2 := (seen_set (o := 21) (v := .bool false) (seen_set (o := 20) (v := .bool false) acc0 g20) g20)
          go_wp2_with fail
          go_meet
          exact ⟨by rw [← HT7.out, ← HB7.out]; rw [knl_ends] at z1; exact z1, z2⟩
        · cases E3
          · refine wp_region_held_drew (S := fun w' => Blk w' X10 (stl s) 66 ∧ Blk w' X13 [.bool p.a.au, .int .i64 p.a.n, .bool p.b.au, .int .i64 p.b.n, .bool p.c.au, .int .i64 p.c.n, .bool p.d.au, .int .i64 p.d.n] 89) (by kernel_rfl) ⟨q10, q13⟩ (fun _ => ?_)
            refine ZT 0 (some 82) (.pointer (some ⟨X10, 38, none⟩)) ⟨q10, q13⟩ ?_
            simp only [Z1,Z2,Z3,Z4]
            refine ZT 1 (some 83) (.pointer (some ⟨X10, 38, none⟩)) ⟨q10, q13⟩ ?_
            simp only [Z1,Z2,Z3,Z4]
            refine ZU 2 (some 84) (.int .i64 (bat s.bord 0)) (fun _ hS => run_by (Instr.loadAt 2 (.pointer (some ⟨X10, 38, none⟩))) (by kernel_rfl) (rd2 (rdBord hS.1 HF.out (i := 0) (by decide) rfl))) ⟨q10, q13⟩ ?_
            simp only [Z1,Z2,Z3,Z4]
            refine ZU 3 (some 85) (.bool true) (fun _ hS => run_by (binOp .eql 2 (.int .i64 (bat s.bord 0)) (.int .i64 0)) (by kernel_rfl) (eqn2 _ HE0.out)) ⟨q10, q13⟩ ?_
            simp only [Z1,Z2,Z3,Z4]
            refine ZT 4 (some 86) (.bool true) ⟨q10, q13⟩ ?_
            simp only [Z1,Z2,Z3,Z4]
            refine ZT 5 (some 87) (.pointer (some ⟨X13, 0, none⟩)) ⟨q10, q13⟩ ?_
            simp only [Z1,Z2,Z3,Z4]
            refine ZT 6 (some 88) (.pointer (some ⟨X13, 1, none⟩)) ⟨q10, q13⟩ ?_
            simp only [Z1,Z2,Z3,Z4]
            refine ZU 7 (some 89) (.int .i64 p.a.n) (fun _ hS => run_by (Instr.loadAt 2 (.pointer (some ⟨X13, 1, none⟩))) (by kernel_rfl) (rd2 (hS.2.cell 1))) ⟨q10, q13⟩ ?_
            simp only [Z1,Z2,Z3,Z4]
            refine ZU 8 (some 90) (.bool false) (fun _ hS => run_by (binOp .eql 2 (.int .i64 p.a.n) (.int .i64 0)) (by kernel_rfl) (eqn2 _ HE1.out)) ⟨q10, q13⟩ ?_
            simp only [Z1,Z2,Z3,Z4]
            refine ZT 9 (some 91) (.bool false) ⟨q10, q13⟩ ?_
            simp only [Z1,Z2,Z3,Z4]
            refine ZT 10 (some 92) (.pointer (some ⟨X10, 38, none⟩)) ⟨q10, q13⟩ ?_
            simp only [Z1,Z2,Z3,Z4]
            refine ZT 11 (some 93) (.pointer (some ⟨X10, 40, none⟩)) ⟨q10, q13⟩ ?_
            simp only [Z1,Z2,Z3,Z4]
            refine ZU 12 (some 94) (.int .i64 (bat s.bord 2)) (fun _ hS => run_by (Instr.loadAt 2 (.pointer (some ⟨X10, 40, none⟩))) (by kernel_rfl) (rd2 (rdBord hS.1 HF.out (i := 2) (by decide) rfl))) ⟨q10, q13⟩ ?_
            simp only [Z1,Z2,Z3,Z4]
            refine ZU 13 (some 95) (.bool true) (fun _ hS => run_by (binOp .eql 2 (.int .i64 (bat s.bord 2)) (.int .i64 0)) (by kernel_rfl) (eqn2 _ HE2.out)) ⟨q10, q13⟩ ?_
            simp only [Z1,Z2,Z3,Z4]
            refine ZT 14 (some 96) (.bool true) ⟨q10, q13⟩ ?_
            simp only [Z1,Z2,Z3,Z4]
            refine ZT 15 (some 97) (.pointer (some ⟨X13, 4, none⟩)) ⟨q10, q13⟩ ?_
            simp only [Z1,Z2,Z3,Z4]
            refine ZT 16 (some 98) (.pointer (some ⟨X13, 5, none⟩)) ⟨q10, q13⟩ ?_
            simp only [Z1,Z2,Z3,Z4]
            refine ZU 17 (some 99) (.int .i64 p.c.n) (fun _ hS => run_by (Instr.loadAt 2 (.pointer (some ⟨X13, 5, none⟩))) (by kernel_rfl) (rd2 (hS.2.cell 5))) ⟨q10, q13⟩ ?_
            simp only [Z1,Z2,Z3,Z4]
            refine ZU 18 (some 100) (.bool false) (fun _ hS => run_by (binOp .eql 2 (.int .i64 p.c.n) (.int .i64 0)) (by kernel_rfl) (eqn2 _ HE3.out)) ⟨q10, q13⟩ ?_
            simp only [Z1,Z2,Z3,Z4]
            refine ZT 19 (some 101) (.bool false) ⟨q10, q13⟩ ?_
            simp only [Z1,Z2,Z3,Z4]
            refine ZT 20 (some 102) (.pointer (some ⟨X20, 20, none⟩)) ⟨q10, q13⟩ ?_
            simp only [Z1,Z2,Z3,Z4]
            refine ZK 21 none (run_skip_by (Instr.storeAt 4 (.pointer (some ⟨X20, 20, none⟩)) (.bool false)) (by kernel_rfl) (wr4 false q20 rfl)) (⟨(Blk.other (p := ⟨X20, 20, none⟩) q10 hne10 (.bool false)), (Blk.other (p := ⟨X20, 20, none⟩) q13 hne13 (.bool false))⟩) ?_
            simp only [Act.put]
            refine ZT 22 (some 103) (.pointer (some ⟨X20, 21, none⟩)) ⟨(Blk.other (p := ⟨X20, 20, none⟩) q10 hne10 (.bool false)), (Blk.other (p := ⟨X20, 20, none⟩) q13 hne13 (.bool false))⟩ ?_
            simp only [Z1,Z2,Z3,Z4]
            refine ZK 23 none (run_skip_by (Instr.storeAt 4 (.pointer (some ⟨X20, 21, none⟩)) (.bool false)) (by kernel_rfl) (wr4 false (Blk.set q20 20 (.bool false)) rfl)) (⟨(Blk.other (p := ⟨X20, 21, none⟩) (Blk.other (p := ⟨X20, 20, none⟩) q10 hne10 (.bool false)) hne10 (.bool false)), (Blk.other (p := ⟨X20, 21, none⟩) (Blk.other (p := ⟨X20, 20, none⟩) q13 hne13 (.bool false)) hne13 (.bool false))⟩) ?_
            simp only [Act.put]
            refine wpAnyH_done (by kernel_rfl) ?_ _
            have z1 := (Blk.set (Blk.set q20 20 (.bool false)) 21 (.bool false))
            have z2 := (seen_set (o := 21) (v := .bool false) (seen_set (o := 20) (v := .bool false) acc0 g20) g20)
            go_wp2_with fail
            go_meet
            exact ⟨by rw [← HT7.out, ← HB7.out]; rw [knl_ends] at z1; exact z1, z2⟩
          · refine wp_region_held_drew (S := fun w' => Blk w' X10 (stl s) 66 ∧ Blk w' X13 [.bool p.a.au, .int .i64 p.a.n, .bool p.b.au, .int .i64 p.b.n, .bool p.c.au, .int .i64 p.c.n, .bool p.d.au, .int .i64 p.d.n] 89) (by kernel_rfl) ⟨q10, q13⟩ (fun _ => ?_)
            refine ZT 0 (some 82) (.pointer (some ⟨X10, 38, none⟩)) ⟨q10, q13⟩ ?_
            simp only [Z1,Z2,Z3,Z4]
            refine ZT 1 (some 83) (.pointer (some ⟨X10, 38, none⟩)) ⟨q10, q13⟩ ?_
            simp only [Z1,Z2,Z3,Z4]
            refine ZU 2 (some 84) (.int .i64 (bat s.bord 0)) (fun _ hS => run_by (Instr.loadAt 2 (.pointer (some ⟨X10, 38, none⟩))) (by kernel_rfl) (rd2 (rdBord hS.1 HF.out (i := 0) (by decide) rfl))) ⟨q10, q13⟩ ?_
            simp only [Z1,Z2,Z3,Z4]
            refine ZU 3 (some 85) (.bool true) (fun _ hS => run_by (binOp .eql 2 (.int .i64 (bat s.bord 0)) (.int .i64 0)) (by kernel_rfl) (eqn2 _ HE0.out)) ⟨q10, q13⟩ ?_
            simp only [Z1,Z2,Z3,Z4]
            refine ZT 4 (some 86) (.bool true) ⟨q10, q13⟩ ?_
            simp only [Z1,Z2,Z3,Z4]
            refine ZT 5 (some 87) (.pointer (some ⟨X13, 0, none⟩)) ⟨q10, q13⟩ ?_
            simp only [Z1,Z2,Z3,Z4]
            refine ZT 6 (some 88) (.pointer (some ⟨X13, 1, none⟩)) ⟨q10, q13⟩ ?_
            simp only [Z1,Z2,Z3,Z4]
            refine ZU 7 (some 89) (.int .i64 p.a.n) (fun _ hS => run_by (Instr.loadAt 2 (.pointer (some ⟨X13, 1, none⟩))) (by kernel_rfl) (rd2 (hS.2.cell 1))) ⟨q10, q13⟩ ?_
            simp only [Z1,Z2,Z3,Z4]
            refine ZU 8 (some 90) (.bool false) (fun _ hS => run_by (binOp .eql 2 (.int .i64 p.a.n) (.int .i64 0)) (by kernel_rfl) (eqn2 _ HE1.out)) ⟨q10, q13⟩ ?_
            simp only [Z1,Z2,Z3,Z4]
            refine ZT 9 (some 91) (.bool false) ⟨q10, q13⟩ ?_
            simp only [Z1,Z2,Z3,Z4]
            refine ZT 10 (some 92) (.pointer (some ⟨X10, 38, none⟩)) ⟨q10, q13⟩ ?_
            simp only [Z1,Z2,Z3,Z4]
            refine ZT 11 (some 93) (.pointer (some ⟨X10, 40, none⟩)) ⟨q10, q13⟩ ?_
            simp only [Z1,Z2,Z3,Z4]
            refine ZU 12 (some 94) (.int .i64 (bat s.bord 2)) (fun _ hS => run_by (Instr.loadAt 2 (.pointer (some ⟨X10, 40, none⟩))) (by kernel_rfl) (rd2 (rdBord hS.1 HF.out (i := 2) (by decide) rfl))) ⟨q10, q13⟩ ?_
            simp only [Z1,Z2,Z3,Z4]
            refine ZU 13 (some 95) (.bool true) (fun _ hS => run_by (binOp .eql 2 (.int .i64 (bat s.bord 2)) (.int .i64 0)) (by kernel_rfl) (eqn2 _ HE2.out)) ⟨q10, q13⟩ ?_
            simp only [Z1,Z2,Z3,Z4]
            refine ZT 14 (some 96) (.bool true) ⟨q10, q13⟩ ?_
            simp only [Z1,Z2,Z3,Z4]
            refine ZT 15 (some 97) (.pointer (some ⟨X13, 4, none⟩)) ⟨q10, q13⟩ ?_
            simp only [Z1,Z2,Z3,Z4]
            refine ZT 16 (some 98) (.pointer (some ⟨X13, 5, none⟩)) ⟨q10, q13⟩ ?_
            simp only [Z1,Z2,Z3,Z4]
            refine ZU 17 (some 99) (.int .i64 p.c.n) (fun _ hS => run_by (Instr.loadAt 2 (.pointer (some ⟨X13, 5, none⟩))) (by kernel_rfl) (rd2 (hS.2.cell 5))) ⟨q10, q13⟩ ?_
            simp only [Z1,Z2,Z3,Z4]
            refine ZU 18 (some 100) (.bool true) (fun _ hS => run_by (binOp .eql 2 (.int .i64 p.c.n) (.int .i64 0)) (by kernel_rfl) (eqn2 _ HE3.out)) ⟨q10, q13⟩ ?_
            simp only [Z1,Z2,Z3,Z4]
            refine ZT 19 (some 101) (.bool true) ⟨q10, q13⟩ ?_
            simp only [Z1,Z2,Z3,Z4]
            refine ZT 20 (some 102) (.pointer (some ⟨X20, 20, none⟩)) ⟨q10, q13⟩ ?_
            simp only [Z1,Z2,Z3,Z4]
            refine ZK 21 none (run_skip_by (Instr.storeAt 4 (.pointer (some ⟨X20, 20, none⟩)) (.bool false)) (by kernel_rfl) (wr4 false q20 rfl)) (⟨(Blk.other (p := ⟨X20, 20, none⟩) q10 hne10 (.bool false)), (Blk.other (p := ⟨X20, 20, none⟩) q13 hne13 (.bool false))⟩) ?_
            simp only [Act.put]
            refine ZT 22 (some 103) (.pointer (some ⟨X20, 21, none⟩)) ⟨(Blk.other (p := ⟨X20, 20, none⟩) q10 hne10 (.bool false)), (Blk.other (p := ⟨X20, 20, none⟩) q13 hne13 (.bool false))⟩ ?_
            simp only [Z1,Z2,Z3,Z4]
            refine ZK 23 none (run_skip_by (Instr.storeAt 4 (.pointer (some ⟨X20, 21, none⟩)) (.bool true)) (by kernel_rfl) (wr4 true (Blk.set q20 20 (.bool false)) rfl)) (⟨(Blk.other (p := ⟨X20, 21, none⟩) (Blk.other (p := ⟨X20, 20, none⟩) q10 hne10 (.bool false)) hne10 (.bool true)), (Blk.other (p := ⟨X20, 21, none⟩) (Blk.other (p := ⟨X20, 20, none⟩) q13 hne13 (.bool false)) hne13 (.bool true))⟩) ?_
            simp only [Act.put]
            refine wpAnyH_done (by kernel_rfl) ?_ _
            have z1 := (Blk.set (Blk.set q20 20 (.bool false)) 21 (.bool true))
            have z2 := (seen_set (o := 21) (v := .bool true) (seen_set (o := 20) (v := .bool false) acc0 g20) g20)
            go_wp2_with fail
            go_meet
            exact ⟨by rw [← HT7.out, ← HB7.out]; rw [knl_ends] at z1; exact z1, z2⟩
      · cases E2
        · refine wp_region_held_drew (S := fun w' => Blk w' X10 (stl s) 66 ∧ Blk w' X13 [.bool p.a.au, .int .i64 p.a.n, .bool p.b.au, .int .i64 p.b.n, .bool p.c.au, .int .i64 p.c.n, .bool p.d.au, .int .i64 p.d.n] 89) (by kernel_rfl) ⟨q10, q13⟩ (fun _ => ?_)
          refine ZT 0 (some 82) (.pointer (some ⟨X10, 38, none⟩)) ⟨q10, q13⟩ ?_
          simp only [Z1,Z2,Z3,Z4]
          refine ZT 1 (some 83) (.pointer (some ⟨X10, 38, none⟩)) ⟨q10, q13⟩ ?_
          simp only [Z1,Z2,Z3,Z4]
          refine ZU 2 (some 84) (.int .i64 (bat s.bord 0)) (fun _ hS => run_by (Instr.loadAt 2 (.pointer (some ⟨X10, 38, none⟩))) (by kernel_rfl) (rd2 (rdBord hS.1 HF.out (i := 0) (by decide) rfl))) ⟨q10, q13⟩ ?_
          simp only [Z1,Z2,Z3,Z4]
          refine ZU 3 (some 85) (.bool true) (fun _ hS => run_by (binOp .eql 2 (.int .i64 (bat s.bord 0)) (.int .i64 0)) (by kernel_rfl) (eqn2 _ HE0.out)) ⟨q10, q13⟩ ?_
          simp only [Z1,Z2,Z3,Z4]
          refine ZT 4 (some 86) (.bool true) ⟨q10, q13⟩ ?_
          simp only [Z1,Z2,Z3,Z4]
          refine ZT 5 (some 87) (.pointer (some ⟨X13, 0, none⟩)) ⟨q10, q13⟩ ?_
          simp only [Z1,Z2,Z3,Z4]
          refine ZT 6 (some 88) (.pointer (some ⟨X13, 1, none⟩)) ⟨q10, q13⟩ ?_
          simp only [Z1,Z2,Z3,Z4]
          refine ZU 7 (some 89) (.int .i64 p.a.n) (fun _ hS => run_by (Instr.loadAt 2 (.pointer (some ⟨X13, 1, none⟩))) (by kernel_rfl) (rd2 (hS.2.cell 1))) ⟨q10, q13⟩ ?_
          simp only [Z1,Z2,Z3,Z4]
          refine ZU 8 (some 90) (.bool true) (fun _ hS => run_by (binOp .eql 2 (.int .i64 p.a.n) (.int .i64 0)) (by kernel_rfl) (eqn2 _ HE1.out)) ⟨q10, q13⟩ ?_
          simp only [Z1,Z2,Z3,Z4]
          refine ZT 9 (some 91) (.bool true) ⟨q10, q13⟩ ?_
          simp only [Z1,Z2,Z3,Z4]
          refine ZT 10 (some 92) (.pointer (some ⟨X10, 38, none⟩)) ⟨q10, q13⟩ ?_
          simp only [Z1,Z2,Z3,Z4]
          refine ZT 11 (some 93) (.pointer (some ⟨X10, 40, none⟩)) ⟨q10, q13⟩ ?_
          simp only [Z1,Z2,Z3,Z4]
          refine ZU 12 (some 94) (.int .i64 (bat s.bord 2)) (fun _ hS => run_by (Instr.loadAt 2 (.pointer (some ⟨X10, 40, none⟩))) (by kernel_rfl) (rd2 (rdBord hS.1 HF.out (i := 2) (by decide) rfl))) ⟨q10, q13⟩ ?_
          simp only [Z1,Z2,Z3,Z4]
          refine ZU 13 (some 95) (.bool false) (fun _ hS => run_by (binOp .eql 2 (.int .i64 (bat s.bord 2)) (.int .i64 0)) (by kernel_rfl) (eqn2 _ HE2.out)) ⟨q10, q13⟩ ?_
          simp only [Z1,Z2,Z3,Z4]
          refine ZT 14 (some 96) (.bool false) ⟨q10, q13⟩ ?_
          simp only [Z1,Z2,Z3,Z4]
          refine ZN 15 (some 97) ⟨q10, q13⟩ ?_
          simp only [Z1,Z2,Z3,Z4]
          refine ZN 16 (some 98) ⟨q10, q13⟩ ?_
          simp only [Z1,Z2,Z3,Z4]
          refine ZN 17 (some 99) ⟨q10, q13⟩ ?_
          simp only [Z1,Z2,Z3,Z4]
          refine ZN 18 (some 100) ⟨q10, q13⟩ ?_
          simp only [Z1,Z2,Z3,Z4]
          refine ZT 19 (some 101) (.bool false) ⟨q10, q13⟩ ?_
          simp only [Z1,Z2,Z3,Z4]
          refine ZT 20 (some 102) (.pointer (some ⟨X20, 20, none⟩)) ⟨q10, q13⟩ ?_
          simp only [Z1,Z2,Z3,Z4]
          refine ZK 21 none (run_skip_by (Instr.storeAt 4 (.pointer (some ⟨X20, 20, none⟩)) (.bool true)) (by kernel_rfl) (wr4 true q20 rfl)) (⟨(Blk.other (p := ⟨X20, 20, none⟩) q10 hne10 (.bool true)), (Blk.other (p := ⟨X20, 20, none⟩) q13 hne13 (.bool true))⟩) ?_
          simp only [Act.put]
          refine ZT 22 (some 103) (.pointer (some ⟨X20, 21, none⟩)) ⟨(Blk.other (p := ⟨X20, 20, none⟩) q10 hne10 (.bool true)), (Blk.other (p := ⟨X20, 20, none⟩) q13 hne13 (.bool true))⟩ ?_
          simp only [Z1,Z2,Z3,Z4]
          refine ZK 23 none (run_skip_by (Instr.storeAt 4 (.pointer (some ⟨X20, 21, none⟩)) (.bool false)) (by kernel_rfl) (wr4 false (Blk.set q20 20 (.bool true)) rfl)) (⟨(Blk.other (p := ⟨X20, 21, none⟩) (Blk.other (p := ⟨X20, 20, none⟩) q10 hne10 (.bool true)) hne10 (.bool false)), (Blk.other (p := ⟨X20, 21, none⟩) (Blk.other (p := ⟨X20, 20, none⟩) q13 hne13 (.bool true)) hne13 (.bool false))⟩) ?_
          simp only [Act.put]
          refine wpAnyH_done (by kernel_rfl) ?_ _
          have z1 := (Blk.set (Blk.set q20 20 (.bool true)) 21 (.bool false))
          have z2 := (seen_set (o := 21) (v := .bool false) (seen_set (o := 20) (v := .bool true) acc0 g20) g20)
          go_wp2_with fail
          go_meet
          exact ⟨by rw [← HT7.out, ← HB7.out]; rw [knl_ends] at z1; exact z1, z2⟩
        · cases E3
          · refine wp_region_held_drew (S := fun w' => Blk w' X10 (stl s) 66 ∧ Blk w' X13 [.bool p.a.au, .int .i64 p.a.n, .bool p.b.au, .int .i64 p.b.n, .bool p.c.au, .int .i64 p.c.n, .bool p.d.au, .int .i64 p.d.n] 89) (by kernel_rfl) ⟨q10, q13⟩ (fun _ => ?_)
            refine ZT 0 (some 82) (.pointer (some ⟨X10, 38, none⟩)) ⟨q10, q13⟩ ?_
            simp only [Z1,Z2,Z3,Z4]
            refine ZT 1 (some 83) (.pointer (some ⟨X10, 38, none⟩)) ⟨q10, q13⟩ ?_
            simp only [Z1,Z2,Z3,Z4]
            refine ZU 2 (some 84) (.int .i64 (bat s.bord 0)) (fun _ hS => run_by (Instr.loadAt 2 (.pointer (some ⟨X10, 38, none⟩))) (by kernel_rfl) (rd2 (rdBord hS.1 HF.out (i := 0) (by decide) rfl))) ⟨q10, q13⟩ ?_
            simp only [Z1,Z2,Z3,Z4]
            refine ZU 3 (some 85) (.bool true) (fun _ hS => run_by (binOp .eql 2 (.int .i64 (bat s.bord 0)) (.int .i64 0)) (by kernel_rfl) (eqn2 _ HE0.out)) ⟨q10, q13⟩ ?_
            simp only [Z1,Z2,Z3,Z4]
            refine ZT 4 (some 86) (.bool true) ⟨q10, q13⟩ ?_
            simp only [Z1,Z2,Z3,Z4]
            refine ZT 5 (some 87) (.pointer (some ⟨X13, 0, none⟩)) ⟨q10, q13⟩ ?_
            simp only [Z1,Z2,Z3,Z4]
            refine ZT 6 (some 88) (.pointer (some ⟨X13, 1, none⟩)) ⟨q10, q13⟩ ?_
            simp only [Z1,Z2,Z3,Z4]
            refine ZU 7 (some 89) (.int .i64 p.a.n) (fun _ hS => run_by (Instr.loadAt 2 (.pointer (some ⟨X13, 1, none⟩))) (by kernel_rfl) (rd2 (hS.2.cell 1))) ⟨q10, q13⟩ ?_
            simp only [Z1,Z2,Z3,Z4]
            refine ZU 8 (some 90) (.bool true) (fun _ hS => run_by (binOp .eql 2 (.int .i64 p.a.n) (.int .i64 0)) (by kernel_rfl) (eqn2 _ HE1.out)) ⟨q10, q13⟩ ?_
            simp only [Z1,Z2,Z3,Z4]
            refine ZT 9 (some 91) (.bool true) ⟨q10, q13⟩ ?_
            simp only [Z1,Z2,Z3,Z4]
            refine ZT 10 (some 92) (.pointer (some ⟨X10, 38, none⟩)) ⟨q10, q13⟩ ?_
            simp only [Z1,Z2,Z3,Z4]
            refine ZT 11 (some 93) (.pointer (some ⟨X10, 40, none⟩)) ⟨q10, q13⟩ ?_
            simp only [Z1,Z2,Z3,Z4]
            refine ZU 12 (some 94) (.int .i64 (bat s.bord 2)) (fun _ hS => run_by (Instr.loadAt 2 (.pointer (some ⟨X10, 40, none⟩))) (by kernel_rfl) (rd2 (rdBord hS.1 HF.out (i := 2) (by decide) rfl))) ⟨q10, q13⟩ ?_
            simp only [Z1,Z2,Z3,Z4]
            refine ZU 13 (some 95) (.bool true) (fun _ hS => run_by (binOp .eql 2 (.int .i64 (bat s.bord 2)) (.int .i64 0)) (by kernel_rfl) (eqn2 _ HE2.out)) ⟨q10, q13⟩ ?_
            simp only [Z1,Z2,Z3,Z4]
            refine ZT 14 (some 96) (.bool true) ⟨q10, q13⟩ ?_
            simp only [Z1,Z2,Z3,Z4]
            refine ZT 15 (some 97) (.pointer (some ⟨X13, 4, none⟩)) ⟨q10, q13⟩ ?_
            simp only [Z1,Z2,Z3,Z4]
            refine ZT 16 (some 98) (.pointer (some ⟨X13, 5, none⟩)) ⟨q10, q13⟩ ?_
            simp only [Z1,Z2,Z3,Z4]
            refine ZU 17 (some 99) (.int .i64 p.c.n) (fun _ hS => run_by (Instr.loadAt 2 (.pointer (some ⟨X13, 5, none⟩))) (by kernel_rfl) (rd2 (hS.2.cell 5))) ⟨q10, q13⟩ ?_
            simp only [Z1,Z2,Z3,Z4]
            refine ZU 18 (some 100) (.bool false) (fun _ hS => run_by (binOp .eql 2 (.int .i64 p.c.n) (.int .i64 0)) (by kernel_rfl) (eqn2 _ HE3.out)) ⟨q10, q13⟩ ?_
            simp only [Z1,Z2,Z3,Z4]
            refine ZT 19 (some 101) (.bool false) ⟨q10, q13⟩ ?_
            simp only [Z1,Z2,Z3,Z4]
            refine ZT 20 (some 102) (.pointer (some ⟨X20, 20, none⟩)) ⟨q10, q13⟩ ?_
            simp only [Z1,Z2,Z3,Z4]
            refine ZK 21 none (run_skip_by (Instr.storeAt 4 (.pointer (some ⟨X20, 20, none⟩)) (.bool true)) (by kernel_rfl) (wr4 true q20 rfl)) (⟨(Blk.other (p := ⟨X20, 20, none⟩) q10 hne10 (.bool true)), (Blk.other (p := ⟨X20, 20, none⟩) q13 hne13 (.bool true))⟩) ?_
            simp only [Act.put]
            refine ZT 22 (some 103) (.pointer (some ⟨X20, 21, none⟩)) ⟨(Blk.other (p := ⟨X20, 20, none⟩) q10 hne10 (.bool true)), (Blk.other (p := ⟨X20, 20, none⟩) q13 hne13 (.bool true))⟩ ?_
            simp only [Z1,Z2,Z3,Z4]
            refine ZK 23 none (run_skip_by (Instr.storeAt 4 (.pointer (some ⟨X20, 21, none⟩)) (.bool false)) (by kernel_rfl) (wr4 false (Blk.set q20 20 (.bool true)) rfl)) (⟨(Blk.other (p := ⟨X20, 21, none⟩) (Blk.other (p := ⟨X20, 20, none⟩) q10 hne10 (.bool true)) hne10 (.bool false)), (Blk.other (p := ⟨X20, 21, none⟩) (Blk.other (p := ⟨X20, 20, none⟩) q13 hne13 (.bool true)) hne13 (.bool false))⟩) ?_
            simp only [Act.put]
            refine wpAnyH_done (by kernel_rfl) ?_ _
            have z1 := (Blk.set (Blk.set q20 20 (.bool true)) 21 (.bool false))
            have z2 := (seen_set (o := 21) (v := .bool false) (seen_set (o := 20) (v := .bool true) acc0 g20) g20)
            go_wp2_with fail
            go_meet
            exact ⟨by rw [← HT7.out, ← HB7.out]; rw [knl_ends] at z1; exact z1, z2⟩
          · refine wp_region_held_drew (S := fun w' => Blk w' X10 (stl s) 66 ∧ Blk w' X13 [.bool p.a.au, .int .i64 p.a.n, .bool p.b.au, .int .i64 p.b.n, .bool p.c.au, .int .i64 p.c.n, .bool p.d.au, .int .i64 p.d.n] 89) (by kernel_rfl) ⟨q10, q13⟩ (fun _ => ?_)
            refine ZT 0 (some 82) (.pointer (some ⟨X10, 38, none⟩)) ⟨q10, q13⟩ ?_
            simp only [Z1,Z2,Z3,Z4]
            refine ZT 1 (some 83) (.pointer (some ⟨X10, 38, none⟩)) ⟨q10, q13⟩ ?_
            simp only [Z1,Z2,Z3,Z4]
            refine ZU 2 (some 84) (.int .i64 (bat s.bord 0)) (fun _ hS => run_by (Instr.loadAt 2 (.pointer (some ⟨X10, 38, none⟩))) (by kernel_rfl) (rd2 (rdBord hS.1 HF.out (i := 0) (by decide) rfl))) ⟨q10, q13⟩ ?_
            simp only [Z1,Z2,Z3,Z4]
            refine ZU 3 (some 85) (.bool true) (fun _ hS => run_by (binOp .eql 2 (.int .i64 (bat s.bord 0)) (.int .i64 0)) (by kernel_rfl) (eqn2 _ HE0.out)) ⟨q10, q13⟩ ?_
            simp only [Z1,Z2,Z3,Z4]
            refine ZT 4 (some 86) (.bool true) ⟨q10, q13⟩ ?_
            simp only [Z1,Z2,Z3,Z4]
            refine ZT 5 (some 87) (.pointer (some ⟨X13, 0, none⟩)) ⟨q10, q13⟩ ?_
            simp only [Z1,Z2,Z3,Z4]
            refine ZT 6 (some 88) (.pointer (some ⟨X13, 1, none⟩)) ⟨q10, q13⟩ ?_
            simp only [Z1,Z2,Z3,Z4]
            refine ZU 7 (some 89) (.int .i64 p.a.n) (fun _ hS => run_by (Instr.loadAt 2 (.pointer (some ⟨X13, 1, none⟩))) (by kernel_rfl) (rd2 (hS.2.cell 1))) ⟨q10, q13⟩ ?_
            simp only [Z1,Z2,Z3,Z4]
            refine ZU 8 (some 90) (.bool true) (fun _ hS => run_by (binOp .eql 2 (.int .i64 p.a.n) (.int .i64 0)) (by kernel_rfl) (eqn2 _ HE1.out)) ⟨q10, q13⟩ ?_
            simp only [Z1,Z2,Z3,Z4]
            refine ZT 9 (some 91) (.bool true) ⟨q10, q13⟩ ?_
            simp only [Z1,Z2,Z3,Z4]
            refine ZT 10 (some 92) (.pointer (some ⟨X10, 38, none⟩)) ⟨q10, q13⟩ ?_
            simp only [Z1,Z2,Z3,Z4]
            refine ZT 11 (some 93) (.pointer (some ⟨X10, 40, none⟩)) ⟨q10, q13⟩ ?_
            simp only [Z1,Z2,Z3,Z4]
            refine ZU 12 (some 94) (.int .i64 (bat s.bord 2)) (fun _ hS => run_by (Instr.loadAt 2 (.pointer (some ⟨X10, 40, none⟩))) (by kernel_rfl) (rd2 (rdBord hS.1 HF.out (i := 2) (by decide) rfl))) ⟨q10, q13⟩ ?_
            simp only [Z1,Z2,Z3,Z4]
            refine ZU 13 (some 95) (.bool true) (fun _ hS => run_by (binOp .eql 2 (.int .i64 (bat s.bord 2)) (.int .i64 0)) (by kernel_rfl) (eqn2 _ HE2.out)) ⟨q10, q13⟩ ?_
            simp only [Z1,Z2,Z3,Z4]
            refine ZT 14 (some 96) (.bool true) ⟨q10, q13⟩ ?_
            simp only [Z1,Z2,Z3,Z4]
            refine ZT 15 (some 97) (.pointer (some ⟨X13, 4, none⟩)) ⟨q10, q13⟩ ?_
            simp only [Z1,Z2,Z3,Z4]
            refine ZT 16 (some 98) (.pointer (some ⟨X13, 5, none⟩)) ⟨q10, q13⟩ ?_
            simp only [Z1,Z2,Z3,Z4]
            refine ZU 17 (some 99) (.int .i64 p.c.n) (fun _ hS => run_by (Instr.loadAt 2 (.pointer (some ⟨X13, 5, none⟩))) (by kernel_rfl) (rd2 (hS.2.cell 5))) ⟨q10, q13⟩ ?_
            simp only [Z1,Z2,Z3,Z4]
            refine ZU 18 (some 100) (.bool true) (fun _ hS => run_by (binOp .eql 2 (.int .i64 p.c.n) (.int .i64 0)) (by kernel_rfl) (eqn2 _ HE3.out)) ⟨q10, q13⟩ ?_
            simp only [Z1,Z2,Z3,Z4]
            refine ZT 19 (some 101) (.bool true) ⟨q10, q13⟩ ?_
            simp only [Z1,Z2,Z3,Z4]
            refine ZT 20 (some 102) (.pointer (some ⟨X20, 20, none⟩)) ⟨q10, q13⟩ ?_
            simp only [Z1,Z2,Z3,Z4]
            refine ZK 21 none (run_skip_by (Instr.storeAt 4 (.pointer (some ⟨X20, 20, none⟩)) (.bool true)) (by kernel_rfl) (wr4 true q20 rfl)) (⟨(Blk.other (p := ⟨X20, 20, none⟩) q10 hne10 (.bool true)), (Blk.other (p := ⟨X20, 20, none⟩) q13 hne13 (.bool true))⟩) ?_
            simp only [Act.put]
            refine ZT 22 (some 103) (.pointer (some ⟨X20, 21, none⟩)) ⟨(Blk.other (p := ⟨X20, 20, none⟩) q10 hne10 (.bool true)), (Blk.other (p := ⟨X20, 20, none⟩) q13 hne13 (.bool true))⟩ ?_
            simp only [Z1,Z2,Z3,Z4]
            refine ZK 23 none (run_skip_by (Instr.storeAt 4 (.pointer (some ⟨X20, 21, none⟩)) (.bool true)) (by kernel_rfl) (wr4 true (Blk.set q20 20 (.bool true)) rfl)) (⟨(Blk.other (p := ⟨X20, 21, none⟩) (Blk.other (p := ⟨X20, 20, none⟩) q10 hne10 (.bool true)) hne10 (.bool true)), (Blk.other (p := ⟨X20, 21, none⟩) (Blk.other (p := ⟨X20, 20, none⟩) q13 hne13 (.bool true)) hne13 (.bool true))⟩) ?_
            simp only [Act.put]
            refine wpAnyH_done (by kernel_rfl) ?_ _
            have z1 := (Blk.set (Blk.set q20 20 (.bool true)) 21 (.bool true))
            have z2 := (seen_set (o := 21) (v := .bool true) (seen_set (o := 20) (v := .bool true) acc0 g20) g20)
            go_wp2_with fail
            go_meet
            exact ⟨by rw [← HT7.out, ← HB7.out]; rw [knl_ends] at z1; exact z1, z2⟩
  obtain ⟨k20, s20⟩ := hcut
  replace KZ := Lib.hid (KZ.out.seen s20)
  clear HT7 HB7 K10 K13 K20 S20
  go_upto_region 8 with fail
  rename_i hKR
  obtain ⟨KK, hKK⟩ : ∃ q, q = knv ⟨m, p, ⟨⟨ha, hn1⟩, lo, hi⟩, T7, B7, AL, E⟩ := ⟨_, rfl⟩
  have HKK := Lib.hid hKK
  clear hKK
  cases g0
  · go_wp2_with (first
      | (have gg := k20; clear gg; refine wpList_loadK rfl (.tmp 20) rfl X20 ⟨m, p, ⟨⟨ha, hn1⟩, lo, hi⟩, T7, B7, AL, E⟩ rfl k20.range ?_; clear k20; rw [← HKK.out])
      | (have gg := KZ.out; clear gg; refine wpList_storeK rfl (.tmp 8) (.tmp 104) rfl (W.heap.size + 1) zKn ⟨m, p, ⟨⟨ha, hn1⟩, lo, hi⟩, T7, B7, AL, E⟩ rfl ?_ KZ.out ?_; (focus (exact HKK.out)); clear KZ; intro Wz bz tz
         refine wpl_run rfl (some 9) rfl (.bool false) Wz (by kernel_rfl) ?_
         refine wpList_nil ?_
         refine hKR _ _ (wp_ret ?_)
         show bodyPost Tryz.prog Tryz.f23 _ Exit.ret _ _
         refine bodyPost_ret (results_two rfl rfl rfl (run_loadK bz)) rfl ?_
         exact ⟨by rw [HO.out.1, HO.out.2]; rfl, (SW.out.trans s20).turns tz (by omega)⟩))
  · cases g1
    · go_wp2_with (first
        | (have gg := k20; clear gg; refine wpList_loadK rfl (.tmp 20) rfl X20 ⟨m, p, ⟨⟨ha, hn1⟩, lo, hi⟩, T7, B7, AL, E⟩ rfl k20.range ?_; clear k20; rw [← HKK.out])
        | (have gg := KZ.out; clear gg; refine wpList_storeK rfl (.tmp 8) (.tmp 104) rfl (W.heap.size + 1) zKn ⟨m, p, ⟨⟨ha, hn1⟩, lo, hi⟩, T7, B7, AL, E⟩ rfl ?_ KZ.out ?_; (focus (exact HKK.out)); clear KZ; intro Wz bz tz
           refine wpl_run rfl (some 9) rfl (.bool false) Wz (by kernel_rfl) ?_
           refine wpList_nil ?_
           refine hKR _ _ (wp_ret ?_)
           show bodyPost Tryz.prog Tryz.f23 _ Exit.ret _ _
           refine bodyPost_ret (results_two rfl rfl rfl (run_loadK bz)) rfl ?_
           exact ⟨by rw [HO.out.1, HO.out.2]; rfl, (SW.out.trans s20).turns tz (by omega)⟩))
    · cases g2
      · go_wp2_with (first
          | (have gg := k20; clear gg; refine wpList_loadK rfl (.tmp 20) rfl X20 ⟨m, p, ⟨⟨ha, hn1⟩, lo, hi⟩, T7, B7, AL, E⟩ rfl k20.range ?_; clear k20; rw [← HKK.out])
          | (have gg := KZ.out; clear gg; refine wpList_storeK rfl (.tmp 8) (.tmp 104) rfl (W.heap.size + 1) zKn ⟨m, p, ⟨⟨ha, hn1⟩, lo, hi⟩, T7, B7, AL, E⟩ rfl ?_ KZ.out ?_; (focus (exact HKK.out)); clear KZ; intro Wz bz tz
             refine wpl_run rfl (some 9) rfl (.bool false) Wz (by kernel_rfl) ?_
             refine wpList_nil ?_
             refine hKR _ _ (wp_ret ?_)
             show bodyPost Tryz.prog Tryz.f23 _ Exit.ret _ _
             refine bodyPost_ret (results_two rfl rfl rfl (run_loadK bz)) rfl ?_
             exact ⟨by rw [HO.out.1, HO.out.2]; rfl, (SW.out.trans s20).turns tz (by omega)⟩))
      · cases g3
        · go_wp2_with (first
            | (have gg := k20; clear gg; refine wpList_loadK rfl (.tmp 20) rfl X20 ⟨m, p, ⟨⟨ha, hn1⟩, lo, hi⟩, T7, B7, AL, E⟩ rfl k20.range ?_; clear k20; rw [← HKK.out])
            | (have gg := KZ.out; clear gg; refine wpList_storeK rfl (.tmp 8) (.tmp 104) rfl (W.heap.size + 1) zKn ⟨m, p, ⟨⟨ha, hn1⟩, lo, hi⟩, T7, B7, AL, E⟩ rfl ?_ KZ.out ?_; (focus (exact HKK.out)); clear KZ; intro Wz bz tz
               refine wpl_run rfl (some 9) rfl (.bool false) Wz (by kernel_rfl) ?_
               refine wpList_nil ?_
               refine hKR _ _ (wp_ret ?_)
               show bodyPost Tryz.prog Tryz.f23 _ Exit.ret _ _
               refine bodyPost_ret (results_two rfl rfl rfl (run_loadK bz)) rfl ?_
               exact ⟨by rw [HO.out.1, HO.out.2]; rfl, (SW.out.trans s20).turns tz (by omega)⟩))
        · go_wp2_with (first
            | (have gg := k20; clear gg; refine wpList_loadK rfl (.tmp 20) rfl X20 ⟨m, p, ⟨⟨ha, hn1⟩, lo, hi⟩, T7, B7, AL, E⟩ rfl k20.range ?_; clear k20; rw [← HKK.out])
            | (have gg := KZ.out; clear gg; refine wpList_storeK rfl (.tmp 8) (.tmp 104) rfl (W.heap.size + 1) zKn ⟨m, p, ⟨⟨ha, hn1⟩, lo, hi⟩, T7, B7, AL, E⟩ rfl ?_ KZ.out ?_; (focus (exact HKK.out)); clear KZ; intro Wz bz tz
               refine wpl_run rfl (some 9) rfl (.bool true) Wz (by kernel_rfl) ?_
               refine wpList_nil ?_
               refine hKR _ _ (wp_ret ?_)
               show bodyPost Tryz.prog Tryz.f23 _ Exit.ret _ _
               refine bodyPost_ret (results_two rfl rfl rfl (run_loadK bz)) rfl ?_
               exact ⟨by rw [HO.out.1, HO.out.2]; rfl, (SW.out.trans s20).turns tz (by omega)⟩))
end Go.Proofs.YtngeaigkafamiaaGreat

