/- Texts of the proof, merged: FBox. -/
import Derived.Test.YtngeaigkafamiaaGreatM30
namespace Go.Proofs.YtngeaigkafamiaaGreat
open Go.ChangeShapes Go.WideShapes Go.ChangeAt Go.RowKit
set_option maxRecDepth 100000
theorem stl_rtl {s : Sty} (h : Full s) : (stl s)[42]? = some (.bool s.rtl) := (stl_tail h (j := 0)).trans rfl
theorem stl_clip {s : Sty} (h : Full s) : (stl s)[45]? = some (.bool s.clip) := (stl_tail h (j := 3)).trans rfl
set_option maxHeartbeats 8000000 in
theorem box_any {l : List Nd} {w0 : World} {D : Nat} {kv : Value} {k : Nat} (hf : FormedT l) (hl : l.length ≤ 1000) (hKV : KV w0 kv l) (hD : w0.heap.size ≤ D) (hB : BoxOK l w0 D kv k) : BoxOK l w0 D kv (k + 1) := by
  intro n c W v ps hn hk hls hps
  have hDW := hls.blk.lt
  have HL := Lib.hid hls
  have HPS := Lib.hid hps
  have HFT := Lib.hid hf
  have HB := Lib.hid hB
  have hk' : l.length - (n + 1) ≤ k := by omega
  obtain ⟨z, hz⟩ : ∃ z : Int, z = (n : Int) := ⟨_, rfl⟩
  rw [← hz]
  have HST : ∀ w, Seen w0 w → Calls Tryz.prog 41 #[kv, .int .i64 z] w fun e w' => e = .returned (sv (styAt l n)) ∧ Seen w w' := fun w h => by
    have := style_kin kv l z w (hKV.seen h)
    rwa [show styAt l z = styAt l n by rw [hz]] at this
  have HFK : Hid (∀ w, Seen w0 w → Calls Tryz.prog 46 #[kv, .int .i64 z] w (RowI w (flowV l n))) := fun w h => by
    have := flow_kin kv l z w (hKV.seen h)
    rwa [show flowV l z = flowV l n by rw [hz]] at this
  have HZ := Lib.hid hz
  clear hz
  have HBO := Lib.hid (show boxO l (k + 1) n c = (if frB (styAt l n) c && htsB (styAt l n) c.h then
      match contO (boxO l k) (flowV l n) (ctIn (styAt l n) (frF (styAt l n) c) (htsF (styAt l n) c.h)) (endE (frF (styAt l n) c) (htsF (styAt l n) c.h) (indB (styAt l n) n)) with
      | none => none
      | some a =>
        if chB (doneF (frF (styAt l n) c) (htsF (styAt l n) c.h) a.hi) then
          some ⟨{ doneF (frF (styAt l n) c) (htsF (styAt l n) c.h) a.hi with ch := chO (doneF (frF (styAt l n) c) (htsF (styAt l n) c.h) a.hi) a.p (endE (frF (styAt l n) c) (htsF (styAt l n) c.h) (indB (styAt l n) n)) (htsF (styAt l n) c.h) }, a.p, a.hi, a.l⟩
        else none
    else none) from rfl)
  have hfs := styAt_full l n
  obtain ⟨s, hs⟩ : ∃ s, styAt l n = s := ⟨_, rfl⟩
  rw [hs] at HST HBO hfs
  have HF := Lib.hid hfs
  clear hs hls hps hf hB hk hfs
  obtain ⟨cw, ⟨cau, cn⟩, crtl⟩ := c
  obtain ⟨W3, hW3⟩ : ∃ W3, W3 = ((W.alloc (.cells #[.int .i64 cw, .bool cau, .int .i64 cn, .bool crtl] 82)).alloc (.cells #[.int .i64 0, .int .i64 0, .int .i64 0, .int .i64 0, .int .i64 0, .int .i64 0, .int .i64 0, .int .i64 0, .int .i64 0, .int .i64 0, .int .i64 0, .int .i64 0, .int .i64 0, .int .i64 0, .int .i64 0, .int .i64 0, .bool false, .int .i64 0, .int .i64 0, .int .i64 0, .int .i64 0, .int .i64 0, .int .i64 0, .bool false, .int .i64 0] 37)).alloc (.cells #[.slice none 0 0, .slice none 0 0, .int .i64 0, .int .i64 0, .int .i64 0, .int .i64 0, .int .i64 0, .bool false, .int .i64 0] 43) := ⟨_, rfl⟩
  have k0 : Blk W3 W.heap.size [.int .i64 cw, .bool cau, .int .i64 cn, .bool crtl] 82 := by rw [hW3]; exact ((Blk.new W _ _).alloc _).alloc _
  have k1 : Blk W3 (W.heap.size + 1) (frl zFr) 37 := by rw [hW3]; simpa using (blk_zero (W.alloc (.cells #[.int .i64 cw, .bool cau, .int .i64 cn, .bool crtl] 82))).alloc (.cells #[.slice none 0 0, .slice none 0 0, .int .i64 0, .int .i64 0, .int .i64 0, .int .i64 0, .int .i64 0, .bool false, .int .i64 0] 43)
  have k2 : Blk W3 (W.heap.size + 1 + 1) zlay 43 := by rw [hW3]; simpa using blk_zlay ((W.alloc (.cells #[.int .i64 cw, .bool cau, .int .i64 cn, .bool crtl] 82)).alloc (.cells #[.int .i64 0, .int .i64 0, .int .i64 0, .int .i64 0, .int .i64 0, .int .i64 0, .int .i64 0, .int .i64 0, .int .i64 0, .int .i64 0, .int .i64 0, .int .i64 0, .int .i64 0, .int .i64 0, .int .i64 0, .int .i64 0, .bool false, .int .i64 0, .int .i64 0, .int .i64 0, .int .i64 0, .int .i64 0, .int .i64 0, .bool false, .int .i64 0] 37))
  have s3 : Hid (Seen W W3) := by rw [hW3]; exact (((Seen.refl W).alloc _).alloc _).alloc _
  have rc := k0.rules4
  have K0 := Lib.hid k0
  have K1 := Lib.hid k1
  have K2 := Lib.hid k2
  clear k0 k1 k2
  have d0 : W3.cell? ⟨D, 0, none⟩ = some kv := s3.out.cell (HL.out.blk.cell 0)
  have FA := Lib.hid (fun w => frameOf_any s HF.out ⟨cw, ⟨cau, cn⟩, crtl⟩ w)
  have HA := Lib.hid (fun w => heightsOf_any s HF.out ⟨cau, cn⟩ w)
  obtain ⟨fok, hfok⟩ : ∃ x, frB s ⟨cw, ⟨cau, cn⟩, crtl⟩ = x := ⟨_, rfl⟩
  obtain ⟨hok, hhok⟩ : ∃ x, htsB s ⟨cau, cn⟩ = x := ⟨_, rfl⟩
  obtain ⟨F, hF⟩ : ∃ x, frF s ⟨cw, ⟨cau, cn⟩, crtl⟩ = x := ⟨_, rfl⟩
  obtain ⟨h, hh⟩ : ∃ x, htsF s ⟨cau, cn⟩ = x := ⟨_, rfl⟩
  simp only [hfok, hhok, hF, hh] at HBO FA HA
  clear hfok hhok hF hh
  obtain ⟨⟨hau, hnn⟩, hlo, hhi⟩ := h
  go_enter Tryz.func20, Tryz.ntmps20
  go_upto_region 1 with fail
  rw [← hW3]
  clear hW3
  go_upto_region 2 with (first
    | (go_at_call 41; refine (HST _ (HL.out.seen.trans s3.out)).mono ?_; clear HST; rintro e4 w4 ⟨rfl, hb⟩; have s4 := Lib.hid (show Seen W3 w4 from hb); clear hb d0)
    | (rw [zero_lit]; refine wpList_storeS rfl (.tmp 9) (.tmp 21) rfl w4.heap.size zeroS s rfl rfl HF.out zero_full (hs_new w4 zeroS) ?_
       intro W5 b5 t5
       have s5 := Lib.hid (s4.out.trans (Seen.fresh (Seen.refl w4) t5))
       have KS := Lib.hid b5
       clear b5 t5))
  have c0 := rc W5 s5.out
  go_upto_region 3 with (first
    | (refine wpList_loadS rfl (.tmp 9) rfl w4.heap.size s rfl HF.out KS.out ?_)
    | (go_at_call 42; refine (FA.out _).mono ?_; clear FA; rintro e6 w6 ⟨rfl, hb⟩; have s6 := Lib.hid (show Seen W5 w6 from hb); clear hb)
    | (refine wpList_storeF rfl (.tmp 10) (.tmp 26) rfl w6.heap.size zFr F rfl rfl (blk_zero w6) ?_
       intro W7 b7 t7
       have s7 := Lib.hid (s6.out.trans (Seen.fresh (Seen.refl w6) t7))
       have KF := Lib.hid b7
       clear b7 t7))
  have c7 := rc W7 (s5.out.trans s7.out)
  have KS7 := Lib.hid (Hs.seen KS.out s7.out)
  have o2 : w4.heap.size < w6.heap.size := Nat.lt_of_lt_of_le (Hs.lt KS.out) s6.out.size
  have o1 : W.heap.size + 1 + 1 < w4.heap.size := Nat.lt_of_lt_of_le K2.out.lt s4.out.size
  clear c0 KS
  go_upto_region 4 with (first
    | (refine wpList_loadS rfl (.tmp 9) rfl w4.heap.size s rfl HF.out KS7.out ?_)
    | (go_at_call 43; refine (HA.out _).mono ?_; clear HA; rintro e8 w8 ⟨rfl, hb⟩; have s8 := Lib.hid (show Seen W7 w8 from hb); clear hb c7))
  have o3 : w6.heap.size < w8.heap.size := Nat.lt_of_lt_of_le KF.out.lt s8.out.size
  obtain ⟨W9, hW9⟩ : ∃ x, x = w8.alloc (.cells #[.bool hau, .int .i64 hnn, .int .i64 hlo, .int .i64 hhi] 127) := ⟨_, rfl⟩
  have kh : Blk W9 w8.heap.size [.bool hau, .int .i64 hnn, .int .i64 hlo, .int .i64 hhi] 127 := by rw [hW9]; exact Blk.new _ _ _
  have s9 : Hid (Seen W7 W9) := by rw [hW9]; exact s8.out.alloc _
  rw [← hW9]
  clear hW9 rc
  have KH := Lib.hid kh
  have s93 := Lib.hid ((s5.out.trans s7.out).trans s9.out)
  have KS9 := Lib.hid (Hs.seen KS7.out s9.out)
  have KF9 := Lib.hid (Blk.seen KF.out s9.out)
  have S9 := Lib.hid (s3.out.trans s93.out)
  have LS9 := HL.out.seen' S9.out
  have K19 := Blk.seen K1.out s93.out
  have K29 := Blk.seen K2.out s93.out
  clear kh KS7 KF
  have o4 : w8.heap.size < W9.heap.size := KH.out.lt
  obtain ⟨X9, hX9⟩ : ∃ x, w4.heap.size = x := ⟨_, rfl⟩
  obtain ⟨X10, hX10⟩ : ∃ x, w6.heap.size = x := ⟨_, rfl⟩
  obtain ⟨X12, hX12⟩ : ∃ x, w8.heap.size = x := ⟨_, rfl⟩
  rw [hX9] at o1 o2 KS9 ⊢
  rw [hX10] at o2 o3 KF9 ⊢
  rw [hX12] at o3 o4 KH ⊢
  clear hX9 hX10 hX12 s4 s5 s6 s7 s8 s9
  cases fok
  · have HNO : boxO l (k + 1) n ⟨cw, ⟨cau, cn⟩, crtl⟩ = none := by rw [HBO.out]; rfl
    have K1F := K19
    have K2F := K29
    have LSF := LS9
    have MVF : Moves (own D v) (own D v) W W9 := own_seen S9.out
    go_wp2_with (first
      | (refine wpList_buildF0 rfl rfl ?_)
      | (refine wpList_storeF rfl (.tmp 6) (.tmp 41) rfl (W.heap.size + 1) zFr zFr rfl rfl K1F ?_; intro Wa ba ta; have K2a := Blk.turns K2F ta (by omega))
      | (refine wpList_storeL rfl (.tmp 7) (.tmp 42) rfl (W.heap.size + 1 + 1) zlay (.slice none 0 0) (.slice none 0 0) rfl rfl zPi 0 rfl rfl rfl K2a ?_; intro Wb bb tb; have bc := ba.turns tb (by omega)))
    refine bodyPost_ret (results_three rfl rfl rfl rfl (run_loadF bc) (run_loadLay bb)) rfl ?_
    have l1 := LSF.turns K1F (by decide) (by decide) (by omega) ta
    have l2 := l1.turns K2a (by decide) (by decide) (by omega) tb
    exact ⟨zFr, none, 0, 0, zPi, 0, false, v, ps, rfl, l2, (MVF.newer (ta.below MVF.size (by omega))).newer (tb.below (Nat.le_trans MVF.size ta.size) (by omega)), .inl ⟨HNO, rfl⟩⟩
  · cases hok
    · have HNO : boxO l (k + 1) n ⟨cw, ⟨cau, cn⟩, crtl⟩ = none := by rw [HBO.out]; rfl
      have K1F := K19
      have K2F := K29
      have LSF := LS9
      have MVF : Moves (own D v) (own D v) W W9 := own_seen S9.out
      go_wp2_with (first
        | (refine wpList_buildF0 rfl rfl ?_)
        | (refine wpList_storeF rfl (.tmp 6) (.tmp 41) rfl (W.heap.size + 1) zFr zFr rfl rfl K1F ?_; intro Wa ba ta; have K2a := Blk.turns K2F ta (by omega))
        | (refine wpList_storeL rfl (.tmp 7) (.tmp 42) rfl (W.heap.size + 1 + 1) zlay (.slice none 0 0) (.slice none 0 0) rfl rfl zPi 0 rfl rfl rfl K2a ?_; intro Wb bb tb; have bc := ba.turns tb (by omega)))
      refine bodyPost_ret (results_three rfl rfl rfl rfl (run_loadF bc) (run_loadLay bb)) rfl ?_
      have l1 := LSF.turns K1F (by decide) (by decide) (by omega) ta
      have l2 := l1.turns K2a (by decide) (by decide) (by omega) tb
      exact ⟨zFr, none, 0, 0, zPi, 0, false, v, ps, rfl, l2, (MVF.newer (ta.below MVF.size (by omega))).newer (tb.below (Nat.le_trans MVF.size ta.size) (by omega)), .inl ⟨HNO, rfl⟩⟩
    · obtain ⟨⟨etop, ebot, eflat⟩, hee⟩ : ∃ x, endE F ⟨⟨hau, hnn⟩, hlo, hhi⟩ (indB s n) = x := ⟨_, rfl⟩
      obtain ⟨⟨iau, inn⟩, hii⟩ : ∃ x, innS ⟨⟨hau, hnn⟩, hlo, hhi⟩ = x := ⟨_, rfl⟩
      have EA := fun w => endsOf_any F ⟨⟨hau, hnn⟩, hlo, hhi⟩ (indB s n) w
      have INA := Lib.hid (fun w => inner_any ⟨⟨hau, hnn⟩, hlo, hhi⟩ w)
      have hct : Hid (ctIn s F ⟨⟨hau, hnn⟩, hlo, hhi⟩ = ⟨F.w, ⟨iau, inn⟩, s.rtl⟩) := by unfold Hid ctIn; rw [hii]
      rw [hee] at EA
      simp only [hct.out, hee] at HBO
      rw [hii] at INA
      have HEE := Lib.hid hee
      clear hee hii
      have hX9c : W9.cell? ⟨X9, 45, none⟩ = some (.bool s.clip) := (Hs.at KS9.out 45).trans (stl_clip HF.out)
      have kh0 := KH.out.rules4 W9 (Seen.refl W9)
      go_upto_region 6 with fail
      go_cut [14] (fun u wx => (∃ X14, u = .pointer (some ⟨X14, 0, none⟩) ∧ X12 < X14 ∧ Blk wx X14 [.bool etop, .bool ebot, .bool eflat] 131 ∧ Seen W9 wx) : Value → World → Prop)
      case first =>
        clear HBO HL HPS HFT HB INA hct HEE K0 K1 K2 s3 s93 S9 LS9 K19 K29 KS9 KH HF hl hn o1 o2 o3
        by_cases hz0 : z = 0
        · subst hz0
          rw [show indB s n = true by unfold indB; rw [decide_eq_true HZ.out.symm, Bool.true_or]] at EA
          clear HZ
          go_wp2_with (first
            | (refine wpList_loadF rfl (.tmp 10) rfl X10 0 F rfl KF9.out.range ?_)
            | (go_at_call 44; (try simp only [beq_self_eq_true, Bool.true_or]); refine (EA _).mono ?_; clear EA; rintro e w10 ⟨rfl, hb⟩; have HBB := Lib.hid (show Seen W9 w10 from hb); clear hb))
          go_meet
          exact ⟨_, rfl, Nat.lt_of_lt_of_le o4 HBB.out.size, Blk.new _ [.bool etop, .bool ebot, .bool eflat] 131, HBB.out.alloc _⟩
        · have hzb : (z == 0) = false := by simpa using hz0
          rw [show indB s n = s.clip by unfold indB; rw [decide_eq_false (by rw [← HZ.out]; exact hz0), Bool.false_or]] at EA
          clear HZ
          go_wp2_with (first
            | (refine wpList_loadF rfl (.tmp 10) rfl X10 0 F rfl KF9.out.range ?_)
            | (go_at_call 44; (try simp only [hzb, Bool.false_or]); refine (EA _).mono ?_; clear EA; rintro e w10 ⟨rfl, hb⟩; have HBB := Lib.hid (show Seen W9 w10 from hb); clear hb))
          go_meet
          exact ⟨_, rfl, Nat.lt_of_lt_of_le o4 HBB.out.size, Blk.new _ [.bool etop, .bool ebot, .bool eflat] 131, HBB.out.alloc _⟩
      obtain ⟨X14, rfl, o5, ke, s10⟩ := hcut
      have CO := Lib.hid (fun (W' : World) (hl' : LS w0 D kv W' v ps) (kb : Nat) (ka : Option Addr) (kc : Nat) (hkd : RI W' kb (.slice ka (flowV l n).length kc) (flowV l n)) => cont_any HFT.out HB.out hD (flowV l n) (n + 1) (endN l n) (flow_chain HFT.out hn) (Nat.le_trans (flowV_length l n) hl) hk' ⟨F.w, ⟨iau, inn⟩, s.rtl⟩ ⟨etop, ebot, eflat⟩ W' v ps hl' HPS.out kb ka kc hkd)
      have BWC := Lib.hid (show BW D kv X9 s X10 F X12 ⟨⟨hau, hnn⟩, hlo, hhi⟩ X14 ⟨etop, ebot, eflat⟩ (W.heap.size + 1) wc from ⟨s10.cell (LS9.blk.cell 0), Hs.seen KS9.out s10, KF9.out.seen s10, KH.out.seen s10, ke, K19.seen s10, K29.seen s10⟩)
      have LSC := Lib.hid (LS9.seen' s10)
      have MVC : Hid (Moves (own D v) (own D v) W wc) := own_seen (S9.out.trans s10)
      have o6 := ke.lt
      clear EA hX9c kh0 ke s10 HB HFT LS9 K19 K29 KS9 KF9 KH
      go_upto_region 7 with fail
      go_cut [15, 13] (fun u q wx => (∃ X ra rm rc rP rhi ok v' ps', u = .pointer (some ⟨X, 0, none⟩) ∧ q = .bool ok ∧ BQ l w0 D kv k (flowV l n) ⟨F.w, ⟨iau, inn⟩, s.rtl⟩ ⟨etop, ebot, eflat⟩ W v ps X9 s X10 F X12 ⟨⟨hau, hnn⟩, hlo, hhi⟩ X14 (W.heap.size + 1) X ra rm rc rP rhi ok v' ps' wx) : Value → Value → World → Prop)
      case first =>
        have bs0 : BW D kv X9 s X10 F X12 ⟨⟨hau, hnn⟩, hlo, hhi⟩ X14 ⟨etop, ebot, eflat⟩ (W.heap.size + 1) wc.drew := BW.seen BWC.out (Seen.refl wc).drew
        have ls0 := LS.seen' LSC.out (Seen.refl wc).drew
        have mv0 := Moves.newer MVC.out (Below.mono (Seen.refl wc).drew (Moves.size MVC.out))
        refine wp_region_held_drew (S := fun w' => BW D kv X9 s X10 F X12 ⟨⟨hau, hnn⟩, hlo, hhi⟩ X14 ⟨etop, ebot, eflat⟩ (W.heap.size + 1) w') (by kernel_rfl) bs0 (fun _ => ?_)
        refine ZT 0 (some 53) (.pointer (some ⟨D, 0, none⟩)) bs0 ?_
        simp only [Z1,Z2,Z3,Z4]
        refine ZT 1 (some 54) (.pointer (some ⟨D, 0, none⟩)) bs0 ?_
        simp only [Z1,Z2,Z3,Z4]
        refine ZT 2 (some 55) (.pointer (some ⟨D, 0, none⟩)) bs0 ?_
        simp only [Z1,Z2,Z3,Z4]
        refine ZT 3 (some 56) (.pointer (some ⟨D, 0, none⟩)) bs0 ?_
        simp only [Z1,Z2,Z3,Z4]
        refine ZU 4 (some 57) (kv) (fun _ hS => run_by (Instr.loadAt 27 (.pointer (some ⟨D, 0, none⟩))) (by kernel_rfl) (ldc27 hS.kd)) bs0 ?_
        simp only [Z1,Z2,Z3,Z4]
        refine ZT 5 (some 58) (.int .i64 z) bs0 ?_
        simp only [Z1,Z2,Z3,Z4]
        refine ZT 7 (some 60) (.pointer (some ⟨X10, 2, none⟩)) bs0 ?_
        simp only [Z1,Z2,Z3,Z4]
        refine ZU 8 (some 61) (.int .i64 F.w) (fun _ hS => run_by (Instr.loadAt 2 (.pointer (some ⟨X10, 2, none⟩))) (by kernel_rfl) (ldc2 (hS.kf.cell 2))) bs0 ?_
        simp only [Z1,Z2,Z3,Z4]
        refine ZU 9 (some 62) (.agg #[.bool hau, .int .i64 hnn, .int .i64 hlo, .int .i64 hhi]) (fun _ hS => run_by (Instr.loadAt 127 (.pointer (some ⟨X12, 0, none⟩))) (by kernel_rfl) (lda103 (vs := [.bool hau, .int .i64 hnn, .int .i64 hlo, .int .i64 hhi]) (hS.kh.mid 0 4) rfl)) bs0 ?_
        simp only [Z1,Z2,Z3,Z4]
        refine ZT 11 (some 64) (.pointer (some ⟨X9, 42, none⟩)) bs0 ?_
        simp only [Z1,Z2,Z3,Z4]
        refine ZU 12 (some 65) (.bool s.rtl) (fun _ hS => run_by (Instr.loadAt 4 (.pointer (some ⟨X9, 42, none⟩))) (by kernel_rfl) (ldc4 ((hS.ks.cell 42).trans (stl_rtl HF.out)))) bs0 ?_
        simp only [Z1,Z2,Z3,Z4]
        refine ZU 14 (some 67) (.agg #[.bool etop, .bool ebot, .bool eflat]) (fun _ hS => run_by (Instr.loadAt 131 (.pointer (some ⟨X14, 0, none⟩))) (by kernel_rfl) (lda94 (vs := [.bool etop, .bool ebot, .bool eflat]) (hS.ke.mid 0 3) rfl)) bs0 ?_
        simp only [Z1,Z2,Z3,Z4]
        refine wpAnyH_ready (rs := [6, 19]) (by kernel_rfl) (by simp) ?_
        refine aCall 6 (some 59) 46 #[kv, .int .i64 z] (by kernel_rfl) (by kernel_rfl) (by kernel_rfl) (by kernel_rfl) ?_ ?_
        · refine (HFK.out _ (LS.seen ls0)).mono ?_
          rintro e wd1 ⟨vk, rfl, hri, hb⟩
          obtain ⟨ka, kc, rfl, -, -⟩ := RI.slice hri
          have kds1 : RI wd1 wc.drew.heap.size (.slice ka (flowV l n).length kc) (flowV l n) := hri
          have bs1 : BW D kv X9 s X10 F X12 ⟨⟨hau, hnn⟩, hlo, hhi⟩ X14 ⟨etop, ebot, eflat⟩ (W.heap.size + 1) wd1 := BW.seen bs0 hb
          have ls1 := LS.seen' ls0 hb
          have mv1 := Moves.newer mv0 (Below.mono hb (Moves.size mv0))
          clear hb hri
          refine ⟨_, rfl, bs1, ?_⟩
          simp only [Z1,Z2,Z3,Z4]
          refine wpAnyH_ready (rs := [10, 19]) (by kernel_rfl) (by simp) ?_
          refine aCall 10 (some 63) 47 #[.agg #[.bool hau, .int .i64 hnn, .int .i64 hlo, .int .i64 hhi]] (by kernel_rfl) (by kernel_rfl) (by kernel_rfl) (by kernel_rfl) ?_ ?_
          · refine (INA.out _).mono ?_
            rintro e wd2 ⟨rfl, hb⟩
            have bs2 : BW D kv X9 s X10 F X12 ⟨⟨hau, hnn⟩, hlo, hhi⟩ X14 ⟨etop, ebot, eflat⟩ (W.heap.size + 1) wd2 := BW.seen bs1 hb
            have ls2 := LS.seen' ls1 hb
            have mv2 := Moves.newer mv1 (Below.mono hb (Moves.size mv1))
            have kds2 := RI.seen kds1 hb
            clear hb
            refine ⟨_, rfl, bs2, ?_⟩
            simp only [Z1,Z2,Z3,Z4]
            refine ZT 13 (some 66) (.agg #[.int .i64 F.w, .bool iau, .int .i64 inn, .bool s.rtl]) bs2 ?_
            simp only [Z1,Z2,Z3,Z4]
            refine wpAnyH_ready (rs := [15, 19]) (by kernel_rfl) (by simp) ?_
            refine aCall 15 (some 68) 45 #[.pointer (some ⟨D, 0, none⟩), .slice ka (flowV l n).length kc, .agg #[.int .i64 F.w, .bool iau, .int .i64 inn, .bool s.rtl], .agg #[.bool etop, .bool ebot, .bool eflat]] (by kernel_rfl) (by kernel_rfl) (by kernel_rfl) (by kernel_rfl) ?_ ?_
            · refine (CO.out _ ls2 _ _ _ kds2).mono ?_
              rintro e wd3 ⟨ra, rm, rc, rP, rhi, ok, v', ps', rfl, ls3, mm3, han⟩
              have bs3 : BW D kv X9 s X10 F X12 ⟨⟨hau, hnn⟩, hlo, hhi⟩ X14 ⟨etop, ebot, eflat⟩ (W.heap.size + 1) wd3 := BW.moves bs2 ls2 ls3 mm3
              have mv3 := Moves.trans mv2 mm3
              have aq3 : AQ l k (flowV l n) ⟨F.w, ⟨iau, inn⟩, s.rtl⟩ ⟨etop, ebot, eflat⟩ W.heap.size ps ra rm rc rP rhi ok ps' wd3 := AQ.more han (Moves.size mv2)
              refine ⟨_, rfl, bs3, ?_⟩
              simp only [Z1,Z2,Z3,Z4]
              refine ZT 16 (some 52) (.tuple #[layv (.slice none 0 0) (.slice ra rm rc) rP rhi, .bool ok]) bs3 ?_
              simp only [Z1,Z2,Z3,Z4]
              refine ZT 17 (some 69) (layv (.slice none 0 0) (.slice ra rm rc) rP rhi) bs3 ?_
              simp only [Z1,Z2,Z3,Z4]
              refine ZT 18 (some 70) (.bool ok) bs3 ?_
              simp only [Z1,Z2,Z3,Z4]
              refine hRun 19 (some 15) (.pointer (some ⟨wd3.heap.size, 0, none⟩)) (by kernel_rfl) (by kernel_rfl) (by kernel_rfl) (by kernel_rfl) (by kernel_rfl) (show BW D kv X9 s X10 F X12 ⟨⟨hau, hnn⟩, hlo, hhi⟩ X14 ⟨etop, ebot, eflat⟩ (W.heap.size + 1) (wd3.alloc (.cells #[.slice none 0 0, .slice none 0 0, .int .i64 0, .int .i64 0, .int .i64 0, .int .i64 0, .int .i64 0, .bool false, .int .i64 0] 43)) from BW.seen bs3 ((Seen.refl _).alloc _)) ?_
              obtain ⟨wm4, hm4⟩ : ∃ x, x = wd3.alloc (.cells #[.slice none 0 0, .slice none 0 0, .int .i64 0, .int .i64 0, .int .i64 0, .int .i64 0, .int .i64 0, .bool false, .int .i64 0] 43) := ⟨_, rfl⟩
              rw [← hm4]
              have sm4 : Seen wd3 wm4 := by rw [hm4]; exact (Seen.refl _).alloc _
              have kx4 : Blk wm4 wd3.heap.size zlay 43 := by rw [hm4]; exact blk_zlay _
              have ltx : X14 < wd3.heap.size := Blk.lt (BW.ke bs3)
              have szx : W.heap.size + 1 + 1 < wd3.heap.size := Blk.lt (BW.k2 bs3)
              have ltd : D < wd3.heap.size := Blk.lt (LS.blk ls3)
              have lt9 : X9 < wd3.heap.size := Blk.lt (BW.ks bs3)
              have lt10 : X10 < wd3.heap.size := Blk.lt (BW.kf bs3)
              have lt12 : X12 < wd3.heap.size := Blk.lt (BW.kh bs3)
              have bs4 : BW D kv X9 s X10 F X12 ⟨⟨hau, hnn⟩, hlo, hhi⟩ X14 ⟨etop, ebot, eflat⟩ (W.heap.size + 1) wm4 := BW.seen bs3 sm4
              have ls4 := LS.seen' ls3 sm4
              have mv4 := Moves.newer mv3 (Below.mono sm4 (Moves.size mv3))
              have aq4 := AQ.seen aq3 sm4
              clear hm4
              simp only [Z1,Z2,Z3,Z4]
              refine ZK 20 none (run_skip_by (Instr.storeAt 43 (.pointer (some ⟨wd3.heap.size, 0, none⟩)) (layv (.slice none 0 0) (.slice ra rm rc) rP rhi)) (by kernel_rfl) (stLay (.slice none 0 0) (.slice ra rm rc) rfl (oneS _ _ _) rP rhi kx4 rfl)) ((BW.turns bs4 (turns_sets _ (wd3.heap.size) 0 (layl (.slice none 0 0) (.slice ra rm rc) rP rhi)) (by omega) (by omega) (by omega) (by omega) (by omega) (by omega) (by omega))) ?_
              simp only [Act.put]
              refine ZT 21 (some 13) (.bool ok) (BW.turns bs4 (turns_sets _ (wd3.heap.size) 0 (layl (.slice none 0 0) (.slice ra rm rc) rP rhi)) (by omega) (by omega) (by omega) (by omega) (by omega) (by omega) (by omega)) ?_
              simp only [Z1,Z2,Z3,Z4]
              refine wpAnyH_done (by kernel_rfl) ?_ _
              have z1 := (LS.turns ls4 kx4 (by decide) (by decide) (by omega) (turns_sets _ (wd3.heap.size) 0 (layl (.slice none 0 0) (.slice ra rm rc) rP rhi)))
              have z2 := (Moves.newer mv4 (Turns.below (turns_sets _ (wd3.heap.size) 0 (layl (.slice none 0 0) (.slice ra rm rc) rP rhi)) (Moves.size mv4) (by omega)))
              have z3 : BW D kv X9 s X10 F X12 ⟨⟨hau, hnn⟩, hlo, hhi⟩ X14 ⟨etop, ebot, eflat⟩ (W.heap.size + 1) _ := (BW.turns bs4 (turns_sets _ (wd3.heap.size) 0 (layl (.slice none 0 0) (.slice ra rm rc) rP rhi)) (by omega) (by omega) (by omega) (by omega) (by omega) (by omega) (by omega))
              have z4 := (blkLay (.slice none 0 0) (.slice ra rm rc) rP rhi kx4 rfl)
              have z5 := (AQ.turns aq4 kx4 (by decide) (turns_sets _ (wd3.heap.size) 0 (layl (.slice none 0 0) (.slice ra rm rc) rP rhi)))
              go_wp2_with fail
              go_meet
              exact ⟨_, ra, rm, rc, rP, rhi, ok, v', ps', rfl, rfl, z1, z2, z3, z4, ltx, z5⟩
            refine aRun 19 (some 15) (.pointer (some ⟨wd2.heap.size, 0, none⟩)) (by kernel_rfl) (by kernel_rfl) (by kernel_rfl) (by kernel_rfl) (show BW D kv X9 s X10 F X12 ⟨⟨hau, hnn⟩, hlo, hhi⟩ X14 ⟨etop, ebot, eflat⟩ (W.heap.size + 1) (wd2.alloc (.cells #[.slice none 0 0, .slice none 0 0, .int .i64 0, .int .i64 0, .int .i64 0, .int .i64 0, .int .i64 0, .bool false, .int .i64 0] 43)) from BW.seen bs2 ((Seen.refl _).alloc _)) ?_ ?_
            · obtain ⟨wm3, hm3⟩ : ∃ x, x = wd2.alloc (.cells #[.slice none 0 0, .slice none 0 0, .int .i64 0, .int .i64 0, .int .i64 0, .int .i64 0, .int .i64 0, .bool false, .int .i64 0] 43) := ⟨_, rfl⟩
              rw [← hm3]
              have sm3 : Seen wd2 wm3 := by rw [hm3]; exact (Seen.refl _).alloc _
              have kx3 : Blk wm3 wd2.heap.size zlay 43 := by rw [hm3]; exact blk_zlay _
              have ltx : X14 < wd2.heap.size := Blk.lt (BW.ke bs2)
              have szx : W.heap.size + 1 + 1 < wd2.heap.size := Blk.lt (BW.k2 bs2)
              have ltd : D < wd2.heap.size := Blk.lt (LS.blk ls2)
              have lt9 : X9 < wd2.heap.size := Blk.lt (BW.ks bs2)
              have lt10 : X10 < wd2.heap.size := Blk.lt (BW.kf bs2)
              have lt12 : X12 < wd2.heap.size := Blk.lt (BW.kh bs2)
              have bs3 : BW D kv X9 s X10 F X12 ⟨⟨hau, hnn⟩, hlo, hhi⟩ X14 ⟨etop, ebot, eflat⟩ (W.heap.size + 1) wm3 := BW.seen bs2 sm3
              have ls3 := LS.seen' ls2 sm3
              have mv3 := Moves.newer mv2 (Below.mono sm3 (Moves.size mv2))
              have kds3 := RI.seen kds2 sm3
              clear hm3
              simp only [Z1,Z2,Z3,Z4]
              refine ZC 15 (some 68) 45 #[.pointer (some ⟨D, 0, none⟩), .slice ka (flowV l n).length kc, .agg #[.int .i64 F.w, .bool iau, .int .i64 inn, .bool s.rtl], .agg #[.bool etop, .bool ebot, .bool eflat]] ?_
              refine (CO.out _ ls3 _ _ _ kds3).mono ?_
              rintro e wd4 ⟨ra, rm, rc, rP, rhi, ok, v', ps', rfl, ls4, mm4, han⟩
              have bs4 : BW D kv X9 s X10 F X12 ⟨⟨hau, hnn⟩, hlo, hhi⟩ X14 ⟨etop, ebot, eflat⟩ (W.heap.size + 1) wd4 := BW.moves bs3 ls3 ls4 mm4
              have mv4 := Moves.trans mv3 mm4
              have aq4 : AQ l k (flowV l n) ⟨F.w, ⟨iau, inn⟩, s.rtl⟩ ⟨etop, ebot, eflat⟩ W.heap.size ps ra rm rc rP rhi ok ps' wd4 := AQ.more han (Moves.size mv3)
              have kx4 := Blk.moves kx3 ls3 (by decide) (by decide) mm4
              refine ⟨_, rfl, bs4, ?_⟩
              simp only [Z1,Z2,Z3,Z4]
              refine ZT 16 (some 52) (.tuple #[layv (.slice none 0 0) (.slice ra rm rc) rP rhi, .bool ok]) bs4 ?_
              simp only [Z1,Z2,Z3,Z4]
              refine ZT 17 (some 69) (layv (.slice none 0 0) (.slice ra rm rc) rP rhi) bs4 ?_
              simp only [Z1,Z2,Z3,Z4]
              refine ZT 18 (some 70) (.bool ok) bs4 ?_
              simp only [Z1,Z2,Z3,Z4]
              refine ZK 20 none (run_skip_by (Instr.storeAt 43 (.pointer (some ⟨wd2.heap.size, 0, none⟩)) (layv (.slice none 0 0) (.slice ra rm rc) rP rhi)) (by kernel_rfl) (stLay (.slice none 0 0) (.slice ra rm rc) rfl (oneS _ _ _) rP rhi kx4 rfl)) ((BW.turns bs4 (turns_sets _ (wd2.heap.size) 0 (layl (.slice none 0 0) (.slice ra rm rc) rP rhi)) (by omega) (by omega) (by omega) (by omega) (by omega) (by omega) (by omega))) ?_
              simp only [Act.put]
              refine ZT 21 (some 13) (.bool ok) (BW.turns bs4 (turns_sets _ (wd2.heap.size) 0 (layl (.slice none 0 0) (.slice ra rm rc) rP rhi)) (by omega) (by omega) (by omega) (by omega) (by omega) (by omega) (by omega)) ?_
              simp only [Z1,Z2,Z3,Z4]
              refine wpAnyH_done (by kernel_rfl) ?_ _
              have z1 := (LS.turns ls4 kx4 (by decide) (by decide) (by omega) (turns_sets _ (wd2.heap.size) 0 (layl (.slice none 0 0) (.slice ra rm rc) rP rhi)))
              have z2 := (Moves.newer mv4 (Turns.below (turns_sets _ (wd2.heap.size) 0 (layl (.slice none 0 0) (.slice ra rm rc) rP rhi)) (Moves.size mv4) (by omega)))
              have z3 : BW D kv X9 s X10 F X12 ⟨⟨hau, hnn⟩, hlo, hhi⟩ X14 ⟨etop, ebot, eflat⟩ (W.heap.size + 1) _ := (BW.turns bs4 (turns_sets _ (wd2.heap.size) 0 (layl (.slice none 0 0) (.slice ra rm rc) rP rhi)) (by omega) (by omega) (by omega) (by omega) (by omega) (by omega) (by omega))
              have z4 := (blkLay (.slice none 0 0) (.slice ra rm rc) rP rhi kx4 rfl)
              have z5 := (AQ.turns aq4 kx4 (by decide) (turns_sets _ (wd2.heap.size) 0 (layl (.slice none 0 0) (.slice ra rm rc) rP rhi)))
              go_wp2_with fail
              go_meet
              exact ⟨_, ra, rm, rc, rP, rhi, ok, v', ps', rfl, rfl, z1, z2, z3, z4, ltx, z5⟩
            exact AllReadyH.nil
          refine aRun 19 (some 15) (.pointer (some ⟨wd1.heap.size, 0, none⟩)) (by kernel_rfl) (by kernel_rfl) (by kernel_rfl) (by kernel_rfl) (show BW D kv X9 s X10 F X12 ⟨⟨hau, hnn⟩, hlo, hhi⟩ X14 ⟨etop, ebot, eflat⟩ (W.heap.size + 1) (wd1.alloc (.cells #[.slice none 0 0, .slice none 0 0, .int .i64 0, .int .i64 0, .int .i64 0, .int .i64 0, .int .i64 0, .bool false, .int .i64 0] 43)) from BW.seen bs1 ((Seen.refl _).alloc _)) ?_ ?_
          · obtain ⟨wm2, hm2⟩ : ∃ x, x = wd1.alloc (.cells #[.slice none 0 0, .slice none 0 0, .int .i64 0, .int .i64 0, .int .i64 0, .int .i64 0, .int .i64 0, .bool false, .int .i64 0] 43) := ⟨_, rfl⟩
            rw [← hm2]
            have sm2 : Seen wd1 wm2 := by rw [hm2]; exact (Seen.refl _).alloc _
            have kx2 : Blk wm2 wd1.heap.size zlay 43 := by rw [hm2]; exact blk_zlay _
            have ltx : X14 < wd1.heap.size := Blk.lt (BW.ke bs1)
            have szx : W.heap.size + 1 + 1 < wd1.heap.size := Blk.lt (BW.k2 bs1)
            have ltd : D < wd1.heap.size := Blk.lt (LS.blk ls1)
            have lt9 : X9 < wd1.heap.size := Blk.lt (BW.ks bs1)
            have lt10 : X10 < wd1.heap.size := Blk.lt (BW.kf bs1)
            have lt12 : X12 < wd1.heap.size := Blk.lt (BW.kh bs1)
            have bs2 : BW D kv X9 s X10 F X12 ⟨⟨hau, hnn⟩, hlo, hhi⟩ X14 ⟨etop, ebot, eflat⟩ (W.heap.size + 1) wm2 := BW.seen bs1 sm2
            have ls2 := LS.seen' ls1 sm2
            have mv2 := Moves.newer mv1 (Below.mono sm2 (Moves.size mv1))
            have kds2 := RI.seen kds1 sm2
            clear hm2
            simp only [Z1,Z2,Z3,Z4]
            refine ZC 10 (some 63) 47 #[.agg #[.bool hau, .int .i64 hnn, .int .i64 hlo, .int .i64 hhi]] ?_
            refine (INA.out _).mono ?_
            rintro e wd3 ⟨rfl, hb⟩
            have bs3 : BW D kv X9 s X10 F X12 ⟨⟨hau, hnn⟩, hlo, hhi⟩ X14 ⟨etop, ebot, eflat⟩ (W.heap.size + 1) wd3 := BW.seen bs2 hb
            have ls3 := LS.seen' ls2 hb
            have mv3 := Moves.newer mv2 (Below.mono hb (Moves.size mv2))
            have kds3 := RI.seen kds2 hb
            have kx3 := Blk.seen kx2 hb
            clear hb
            refine ⟨_, rfl, bs3, ?_⟩
            simp only [Z1,Z2,Z3,Z4]
            refine ZT 13 (some 66) (.agg #[.int .i64 F.w, .bool iau, .int .i64 inn, .bool s.rtl]) bs3 ?_
            simp only [Z1,Z2,Z3,Z4]
            refine ZC 15 (some 68) 45 #[.pointer (some ⟨D, 0, none⟩), .slice ka (flowV l n).length kc, .agg #[.int .i64 F.w, .bool iau, .int .i64 inn, .bool s.rtl], .agg #[.bool etop, .bool ebot, .bool eflat]] ?_
            refine (CO.out _ ls3 _ _ _ kds3).mono ?_
            rintro e wd4 ⟨ra, rm, rc, rP, rhi, ok, v', ps', rfl, ls4, mm4, han⟩
            have bs4 : BW D kv X9 s X10 F X12 ⟨⟨hau, hnn⟩, hlo, hhi⟩ X14 ⟨etop, ebot, eflat⟩ (W.heap.size + 1) wd4 := BW.moves bs3 ls3 ls4 mm4
            have mv4 := Moves.trans mv3 mm4
            have aq4 : AQ l k (flowV l n) ⟨F.w, ⟨iau, inn⟩, s.rtl⟩ ⟨etop, ebot, eflat⟩ W.heap.size ps ra rm rc rP rhi ok ps' wd4 := AQ.more han (Moves.size mv3)
            have kx4 := Blk.moves kx3 ls3 (by decide) (by decide) mm4
            refine ⟨_, rfl, bs4, ?_⟩
            simp only [Z1,Z2,Z3,Z4]
            refine ZT 16 (some 52) (.tuple #[layv (.slice none 0 0) (.slice ra rm rc) rP rhi, .bool ok]) bs4 ?_
            simp only [Z1,Z2,Z3,Z4]
            refine ZT 17 (some 69) (layv (.slice none 0 0) (.slice ra rm rc) rP rhi) bs4 ?_
            simp only [Z1,Z2,Z3,Z4]
            refine ZT 18 (some 70) (.bool ok) bs4 ?_
            simp only [Z1,Z2,Z3,Z4]
            refine ZK 20 none (run_skip_by (Instr.storeAt 43 (.pointer (some ⟨wd1.heap.size, 0, none⟩)) (layv (.slice none 0 0) (.slice ra rm rc) rP rhi)) (by kernel_rfl) (stLay (.slice none 0 0) (.slice ra rm rc) rfl (oneS _ _ _) rP rhi kx4 rfl)) ((BW.turns bs4 (turns_sets _ (wd1.heap.size) 0 (layl (.slice none 0 0) (.slice ra rm rc) rP rhi)) (by omega) (by omega) (by omega) (by omega) (by omega) (by omega) (by omega))) ?_
            simp only [Act.put]
            refine ZT 21 (some 13) (.bool ok) (BW.turns bs4 (turns_sets _ (wd1.heap.size) 0 (layl (.slice none 0 0) (.slice ra rm rc) rP rhi)) (by omega) (by omega) (by omega) (by omega) (by omega) (by omega) (by omega)) ?_
            simp only [Z1,Z2,Z3,Z4]
            refine wpAnyH_done (by kernel_rfl) ?_ _
            have z1 := (LS.turns ls4 kx4 (by decide) (by decide) (by omega) (turns_sets _ (wd1.heap.size) 0 (layl (.slice none 0 0) (.slice ra rm rc) rP rhi)))
            have z2 := (Moves.newer mv4 (Turns.below (turns_sets _ (wd1.heap.size) 0 (layl (.slice none 0 0) (.slice ra rm rc) rP rhi)) (Moves.size mv4) (by omega)))
            have z3 : BW D kv X9 s X10 F X12 ⟨⟨hau, hnn⟩, hlo, hhi⟩ X14 ⟨etop, ebot, eflat⟩ (W.heap.size + 1) _ := (BW.turns bs4 (turns_sets _ (wd1.heap.size) 0 (layl (.slice none 0 0) (.slice ra rm rc) rP rhi)) (by omega) (by omega) (by omega) (by omega) (by omega) (by omega) (by omega))
            have z4 := (blkLay (.slice none 0 0) (.slice ra rm rc) rP rhi kx4 rfl)
            have z5 := (AQ.turns aq4 kx4 (by decide) (turns_sets _ (wd1.heap.size) 0 (layl (.slice none 0 0) (.slice ra rm rc) rP rhi)))
            go_wp2_with fail
            go_meet
            exact ⟨_, ra, rm, rc, rP, rhi, ok, v', ps', rfl, rfl, z1, z2, z3, z4, ltx, z5⟩
          exact AllReadyH.nil
        refine aRun 19 (some 15) (.pointer (some ⟨wc.drew.heap.size, 0, none⟩)) (by kernel_rfl) (by kernel_rfl) (by kernel_rfl) (by kernel_rfl) (show BW D kv X9 s X10 F X12 ⟨⟨hau, hnn⟩, hlo, hhi⟩ X14 ⟨etop, ebot, eflat⟩ (W.heap.size + 1) (wc.drew.alloc (.cells #[.slice none 0 0, .slice none 0 0, .int .i64 0, .int .i64 0, .int .i64 0, .int .i64 0, .int .i64 0, .bool false, .int .i64 0] 43)) from BW.seen bs0 ((Seen.refl _).alloc _)) ?_ ?_
        · obtain ⟨wm1, hm1⟩ : ∃ x, x = wc.drew.alloc (.cells #[.slice none 0 0, .slice none 0 0, .int .i64 0, .int .i64 0, .int .i64 0, .int .i64 0, .int .i64 0, .bool false, .int .i64 0] 43) := ⟨_, rfl⟩
          rw [← hm1]
          have sm1 : Seen wc.drew wm1 := by rw [hm1]; exact (Seen.refl _).alloc _
          have kx1 : Blk wm1 wc.drew.heap.size zlay 43 := by rw [hm1]; exact blk_zlay _
          have ltx : X14 < wc.drew.heap.size := Blk.lt (BW.ke bs0)
          have szx : W.heap.size + 1 + 1 < wc.drew.heap.size := Blk.lt (BW.k2 bs0)
          have ltd : D < wc.drew.heap.size := Blk.lt (LS.blk ls0)
          have lt9 : X9 < wc.drew.heap.size := Blk.lt (BW.ks bs0)
          have lt10 : X10 < wc.drew.heap.size := Blk.lt (BW.kf bs0)
          have lt12 : X12 < wc.drew.heap.size := Blk.lt (BW.kh bs0)
          have bs1 : BW D kv X9 s X10 F X12 ⟨⟨hau, hnn⟩, hlo, hhi⟩ X14 ⟨etop, ebot, eflat⟩ (W.heap.size + 1) wm1 := BW.seen bs0 sm1
          have ls1 := LS.seen' ls0 sm1
          have mv1 := Moves.newer mv0 (Below.mono sm1 (Moves.size mv0))
          clear hm1
          simp only [Z1,Z2,Z3,Z4]
          refine ZC 6 (some 59) 46 #[kv, .int .i64 z] ?_
          refine (HFK.out _ (LS.seen ls1)).mono ?_
          rintro e wd2 ⟨vk, rfl, hri, hb⟩
          obtain ⟨ka, kc, rfl, -, -⟩ := RI.slice hri
          have kds2 : RI wd2 wm1.heap.size (.slice ka (flowV l n).length kc) (flowV l n) := hri
          have bs2 : BW D kv X9 s X10 F X12 ⟨⟨hau, hnn⟩, hlo, hhi⟩ X14 ⟨etop, ebot, eflat⟩ (W.heap.size + 1) wd2 := BW.seen bs1 hb
          have ls2 := LS.seen' ls1 hb
          have mv2 := Moves.newer mv1 (Below.mono hb (Moves.size mv1))
          have kx2 := Blk.seen kx1 hb
          clear hb hri
          refine ⟨_, rfl, bs2, ?_⟩
          simp only [Z1,Z2,Z3,Z4]
          refine ZC 10 (some 63) 47 #[.agg #[.bool hau, .int .i64 hnn, .int .i64 hlo, .int .i64 hhi]] ?_
          refine (INA.out _).mono ?_
          rintro e wd3 ⟨rfl, hb⟩
          have bs3 : BW D kv X9 s X10 F X12 ⟨⟨hau, hnn⟩, hlo, hhi⟩ X14 ⟨etop, ebot, eflat⟩ (W.heap.size + 1) wd3 := BW.seen bs2 hb
          have ls3 := LS.seen' ls2 hb
          have mv3 := Moves.newer mv2 (Below.mono hb (Moves.size mv2))
          have kds3 := RI.seen kds2 hb
          have kx3 := Blk.seen kx2 hb
          clear hb
          refine ⟨_, rfl, bs3, ?_⟩
          simp only [Z1,Z2,Z3,Z4]
          refine ZT 13 (some 66) (.agg #[.int .i64 F.w, .bool iau, .int .i64 inn, .bool s.rtl]) bs3 ?_
          simp only [Z1,Z2,Z3,Z4]
          refine ZC 15 (some 68) 45 #[.pointer (some ⟨D, 0, none⟩), .slice ka (flowV l n).length kc, .agg #[.int .i64 F.w, .bool iau, .int .i64 inn, .bool s.rtl], .agg #[.bool etop, .bool ebot, .bool eflat]] ?_
          refine (CO.out _ ls3 _ _ _ kds3).mono ?_
          rintro e wd4 ⟨ra, rm, rc, rP, rhi, ok, v', ps', rfl, ls4, mm4, han⟩
          have bs4 : BW D kv X9 s X10 F X12 ⟨⟨hau, hnn⟩, hlo, hhi⟩ X14 ⟨etop, ebot, eflat⟩ (W.heap.size + 1) wd4 := BW.moves bs3 ls3 ls4 mm4
          have mv4 := Moves.trans mv3 mm4
          have aq4 : AQ l k (flowV l n) ⟨F.w, ⟨iau, inn⟩, s.rtl⟩ ⟨etop, ebot, eflat⟩ W.heap.size ps ra rm rc rP rhi ok ps' wd4 := AQ.more han (Moves.size mv3)
          have kx4 := Blk.moves kx3 ls3 (by decide) (by decide) mm4
          refine ⟨_, rfl, bs4, ?_⟩
          simp only [Z1,Z2,Z3,Z4]
          refine ZT 16 (some 52) (.tuple #[layv (.slice none 0 0) (.slice ra rm rc) rP rhi, .bool ok]) bs4 ?_
          simp only [Z1,Z2,Z3,Z4]
          refine ZT 17 (some 69) (layv (.slice none 0 0) (.slice ra rm rc) rP rhi) bs4 ?_
          simp only [Z1,Z2,Z3,Z4]
          refine ZT 18 (some 70) (.bool ok) bs4 ?_
          simp only [Z1,Z2,Z3,Z4]
          refine ZK 20 none (run_skip_by (Instr.storeAt 43 (.pointer (some ⟨wc.drew.heap.size, 0, none⟩)) (layv (.slice none 0 0) (.slice ra rm rc) rP rhi)) (by kernel_rfl) (stLay (.slice none 0 0) (.slice ra rm rc) rfl (oneS _ _ _) rP rhi kx4 rfl)) ((BW.turns bs4 (turns_sets _ (wc.drew.heap.size) 0 (layl (.slice none 0 0) (.slice ra rm rc) rP rhi)) (by omega) (by omega) (by omega) (by omega) (by omega) (by omega) (by omega))) ?_
          simp only [Act.put]
          refine ZT 21 (some 13) (.bool ok) (BW.turns bs4 (turns_sets _ (wc.drew.heap.size) 0 (layl (.slice none 0 0) (.slice ra rm rc) rP rhi)) (by omega) (by omega) (by omega) (by omega) (by omega) (by omega) (by omega)) ?_
          simp only [Z1,Z2,Z3,Z4]
          refine wpAnyH_done (by kernel_rfl) ?_ _
          have z1 := (LS.turns ls4 kx4 (by decide) (by decide) (by omega) (turns_sets _ (wc.drew.heap.size) 0 (layl (.slice none 0 0) (.slice ra rm rc) rP rhi)))
          have z2 := (Moves.newer mv4 (Turns.below (turns_sets _ (wc.drew.heap.size) 0 (layl (.slice none 0 0) (.slice ra rm rc) rP rhi)) (Moves.size mv4) (by omega)))
          have z3 : BW D kv X9 s X10 F X12 ⟨⟨hau, hnn⟩, hlo, hhi⟩ X14 ⟨etop, ebot, eflat⟩ (W.heap.size + 1) _ := (BW.turns bs4 (turns_sets _ (wc.drew.heap.size) 0 (layl (.slice none 0 0) (.slice ra rm rc) rP rhi)) (by omega) (by omega) (by omega) (by omega) (by omega) (by omega) (by omega))
          have z4 := (blkLay (.slice none 0 0) (.slice ra rm rc) rP rhi kx4 rfl)
          have z5 := (AQ.turns aq4 kx4 (by decide) (turns_sets _ (wc.drew.heap.size) 0 (layl (.slice none 0 0) (.slice ra rm rc) rP rhi)))
          go_wp2_with fail
          go_meet
          exact ⟨_, ra, rm, rc, rP, rhi, ok, v', ps', rfl, rfl, z1, z2, z3, z4, ltx, z5⟩
        exact AllReadyH.nil
      clear INA CO BWC LSC MVC HFK
      obtain ⟨X, ra, rm, rc, rP, rhi, ok, v', ps', rfl, rfl, hbq⟩ := hcut
      obtain ⟨ls7, mv7, bw7, kx7, ltx, aq7⟩ := hbq
      have hne0 : X10 ≠ X := by omega
      have hne1 : X10 ≠ X12 := by omega
      have hne2 : X10 ≠ X14 := by omega
      have hne3 : X10 ≠ W.heap.size + 1 := by omega
      have hne4 : X10 ≠ W.heap.size + 1 + 1 := by omega
      cases ok
      · have hnn : contO (boxO l k) (flowV l n) ⟨F.w, ⟨iau, inn⟩, s.rtl⟩ ⟨etop, ebot, eflat⟩ = none := by
          rcases aq7 with ⟨h, _⟩ | ⟨_, _, h, _⟩
          · exact h
          · cases h
        have HNO : boxO l (k + 1) n ⟨cw, ⟨cau, cn⟩, crtl⟩ = none := by rw [HBO.out, hnn]; rfl
        have K1F := bw7.k1
        have K2F := bw7.k2
        have LSF := ls7
        have MVF := mv7
        clear aq7 bw7 kx7 ls7 mv7 HBO hnn
        go_wp2_with (first
          | (refine wpList_buildF0 rfl rfl ?_)
          | (refine wpList_storeF rfl (.tmp 6) (.tmp 73) rfl (W.heap.size + 1) zFr zFr rfl rfl K1F ?_; intro Wa ba ta; have K2a := Blk.turns K2F ta (by omega))
          | (refine wpList_storeL rfl (.tmp 7) (.tmp 74) rfl (W.heap.size + 1 + 1) zlay (.slice none 0 0) (.slice none 0 0) rfl rfl zPi 0 rfl rfl rfl K2a ?_; intro Wb bb tb; have bc := ba.turns tb (by omega)))
        refine bodyPost_ret (results_three rfl rfl rfl rfl (run_loadF bc) (run_loadLay bb)) rfl ?_
        have l1 := LSF.turns K1F (by decide) (by decide) (by omega) ta
        have l2 := l1.turns K2a (by decide) (by decide) (by omega) tb
        exact ⟨zFr, none, 0, 0, zPi, 0, false, v', ps', rfl, l2, (MVF.newer (ta.below MVF.size (by omega))).newer (tb.below (Nat.le_trans MVF.size ta.size) (by omega)), .inl ⟨HNO, rfl⟩⟩
      · have hyes : ∃ b, contO (boxO l k) (flowV l n) ⟨F.w, ⟨iau, inn⟩, s.rtl⟩ ⟨etop, ebot, eflat⟩ = some b ∧ rP = b.p ∧ rhi = b.hi ∧ ps' = ps ++ b.l ∧ rm = b.p.y.length ∧ RP wc W.heap.size (.slice ra rm rc) b.p.y := by
          rcases aq7 with ⟨_, h⟩ | ⟨b, h1, _, h2, h3, h4, h5, h6⟩
          · cases h
          · exact ⟨b, h1, h2, h3, h4, h5, h6⟩
        obtain ⟨b, hb, rfl, rfl, hps', rfl, hrp⟩ := hyes
        obtain ⟨ou, hou⟩ : ∃ x, outN ⟨⟨hau, hnn⟩, hlo, hhi⟩ b.hi = x := ⟨_, rfl⟩
        have OUA := Lib.hid (fun w => outer_any ⟨⟨hau, hnn⟩, hlo, hhi⟩ b.hi w)
        have hdf : doneF F ⟨⟨hau, hnn⟩, hlo, hhi⟩ b.hi = { F with h := ou, kn := !hau } := by unfold doneF; rw [hou]
        rw [hou] at OUA
        obtain ⟨F2, hF2⟩ : ∃ x : Fr, { F with h := ou, kn := !hau } = x := ⟨_, rfl⟩
        obtain ⟨CH, hCH⟩ : ∃ x, chO F2 b.p ⟨etop, ebot, eflat⟩ ⟨⟨hau, hnn⟩, hlo, hhi⟩ = x := ⟨_, rfl⟩
        obtain ⟨cb, hcb⟩ : ∃ x, chB F2 = x := ⟨_, rfl⟩
        obtain ⟨F3, hF3⟩ : ∃ x : Fr, { F2 with ch := CH } = x := ⟨_, rfl⟩
        have HNE : Hid (boxO l (k + 1) n ⟨cw, ⟨cau, cn⟩, crtl⟩ = if cb then some ⟨F3, b.p, b.hi, b.l⟩ else none) := by
          unfold Hid
          rw [HBO.out, hb]
          simp only [Bool.and_self, if_true]
          rw [hdf, hF2, hCH, hcb, hF3]
        have CA := Lib.hid (fun w => childOf_any F2 ra rc b.p ⟨etop, ebot, eflat⟩ ⟨⟨hau, hnn⟩, hlo, hhi⟩ w)
        rw [hCH, hcb] at CA
        have e2 := frl_done F ou (!hau)
        rw [hF2] at e2
        have e3 := frl_ch F2 CH
        rw [hF3] at e3
        clear HBO hb hdf hou hF2 hCH hcb hF3 aq7
        have q12 := Blk.drew bw7.kh
        have qx := Blk.drew kx7
        have q10 := Blk.drew bw7.kf
        go_upto_region 10 with fail
        refine wp_region_held_drew (S := fun w' => Blk w' X12 [.bool hau, .int .i64 hnn, .int .i64 hlo, .int .i64 hhi] 127 ∧ Blk w' X (layl (.slice none 0 0) (.slice ra b.p.y.length rc) b.p b.hi) 43) (by kernel_rfl) ⟨q12, qx⟩ (fun _ => ?_)
        refine ZU 0 (some 75) (.agg #[.bool hau, .int .i64 hnn, .int .i64 hlo, .int .i64 hhi]) (fun _ hS => run_by (Instr.loadAt 127 (.pointer (some ⟨X12, 0, none⟩))) (by kernel_rfl) (lda103 (vs := [.bool hau, .int .i64 hnn, .int .i64 hlo, .int .i64 hhi]) (hS.1.mid 0 4) rfl)) ⟨q12, qx⟩ ?_
        simp only [Z1,Z2,Z3,Z4]
        refine ZT 1 (some 76) (.pointer (some ⟨X, 8, none⟩)) ⟨q12, qx⟩ ?_
        simp only [Z1,Z2,Z3,Z4]
        refine ZU 2 (some 77) (.int .i64 b.hi) (fun _ hS => run_by (Instr.loadAt 2 (.pointer (some ⟨X, 8, none⟩))) (by kernel_rfl) (ldc2 (hS.2.cell 8))) ⟨q12, qx⟩ ?_
        simp only [Z1,Z2,Z3,Z4]
        refine ZT 4 (some 79) (.pointer (some ⟨X12, 0, none⟩)) ⟨q12, qx⟩ ?_
        simp only [Z1,Z2,Z3,Z4]
        refine ZT 5 (some 80) (.pointer (some ⟨X12, 0, none⟩)) ⟨q12, qx⟩ ?_
        simp only [Z1,Z2,Z3,Z4]
        refine ZU 6 (some 81) (.bool hau) (fun _ hS => run_by (Instr.loadAt 4 (.pointer (some ⟨X12, 0, none⟩))) (by kernel_rfl) (ldc4 (hS.1.cell 0))) ⟨q12, qx⟩ ?_
        simp only [Z1,Z2,Z3,Z4]
        refine ZT 7 (some 82) (.bool (!hau)) ⟨q12, qx⟩ ?_
        simp only [Z1,Z2,Z3,Z4]
        refine ZC 3 (some 78) 48 #[.agg #[.bool hau, .int .i64 hnn, .int .i64 hlo, .int .i64 hhi], .int .i64 b.hi] ?_
        refine (OUA.out _).mono ?_
        rintro e w11 ⟨rfl, hb11⟩
        have x12 := Blk.seen q12 hb11
        have xx := Blk.seen qx hb11
        have x10 := Blk.seen q10 hb11
        refine ⟨_, rfl, ⟨x12, xx⟩, ?_⟩
        simp only [Z1,Z2,Z3,Z4]
        refine ZT 8 (some 83) (.pointer (some ⟨X10, 3, none⟩)) ⟨x12, xx⟩ ?_
        simp only [Z1,Z2,Z3,Z4]
        refine ZK 9 none (run_skip_by (Instr.storeAt 2 (.pointer (some ⟨X10, 3, none⟩)) (.int .i64 ou)) (by kernel_rfl) (st2 ou x10 rfl)) (⟨(Blk.other (p := ⟨X10, 3, none⟩) x12 hne1 (.int .i64 ou)), (Blk.other (p := ⟨X10, 3, none⟩) xx hne0 (.int .i64 ou))⟩) ?_
        simp only [Act.put]
        refine ZT 10 (some 84) (.pointer (some ⟨X10, 16, none⟩)) ⟨(Blk.other (p := ⟨X10, 3, none⟩) x12 hne1 (.int .i64 ou)), (Blk.other (p := ⟨X10, 3, none⟩) xx hne0 (.int .i64 ou))⟩ ?_
        simp only [Z1,Z2,Z3,Z4]
        refine ZK 11 none (run_skip_by (Instr.storeAt 4 (.pointer (some ⟨X10, 16, none⟩)) (.bool (!hau))) (by kernel_rfl) (st4 (!hau) (Blk.set x10 3 (.int .i64 ou)) rfl)) (⟨(Blk.other (p := ⟨X10, 16, none⟩) (Blk.other (p := ⟨X10, 3, none⟩) x12 hne1 (.int .i64 ou)) hne1 (.bool (!hau))), (Blk.other (p := ⟨X10, 16, none⟩) (Blk.other (p := ⟨X10, 3, none⟩) xx hne0 (.int .i64 ou)) hne0 (.bool (!hau)))⟩) ?_
        simp only [Act.put]
        refine wpAnyH_done (by kernel_rfl) ?_ _
        have z10 := (Blk.set (Blk.set x10 3 (.int .i64 ou)) 16 (.bool (!hau)))
        rw [e2] at z10
        have T10 : Turns X10 w11 ((w11.setCell ⟨X10, 3, none⟩ (.int .i64 ou)).setCell ⟨X10, 16, none⟩ (.bool (!hau))) := (Turns.set w11 X10 3 _).trans (Turns.set _ X10 16 _)
        obtain ⟨V, hV⟩ : ∃ V, V = (w11.setCell ⟨X10, 3, none⟩ (.int .i64 ou)).setCell ⟨X10, 16, none⟩ (.bool (!hau)) := ⟨_, rfl⟩
        rw [← hV] at z10 T10 ⊢
        clear hV
        have sdr : Seen wc wc.drew := (Seen.refl wc).drew
        have s11 : Seen wc w11 := sdr.trans hb11
        have z12 := Lib.hid (Blk.turns x12 T10 (Ne.symm hne1))
        have zx := Lib.hid (Blk.turns xx T10 (Ne.symm hne0))
        have z14 := Lib.hid (Blk.turns (bw7.ke.seen s11) T10 (Ne.symm hne2))
        have zk1 := Lib.hid (Blk.turns (bw7.k1.seen s11) T10 (Ne.symm hne3))
        have zk2 := Lib.hid (Blk.turns (bw7.k2.seen s11) T10 (Ne.symm hne4))
        have lsV := Lib.hid (LS.turns (ls7.seen' s11) x10 (by decide) (by decide) (by omega) T10)
        have mvV := Lib.hid (Moves.newer (Moves.newer mv7 (Below.mono s11 mv7.size)) (T10.below (Nat.le_trans mv7.size s11.size) (by omega)))
        have rpV := Lib.hid (rp_turns (RP.seen hrp s11) x10 (by decide) T10)
        have Z10 := Lib.hid z10
        clear q12 qx q10 x12 xx x10 hb11 z10 T10 s11 sdr ls7 mv7 bw7 kx7 hrp e2
        have r12 := z12.out.rules4 V (Seen.refl V)
        have r14 := z14.out.rules3 V (Seen.refl V)
        have y1 : V.cell? ⟨X, 1, none⟩ = some (.slice ra b.p.y.length rc) := zx.out.cell 1
        have y2 : V.cell? ⟨X, 2, none⟩ = some (.int .i64 b.p.edge) := zx.out.cell 2
        have y3 : V.cell? ⟨X, 3, none⟩ = some (.int .i64 b.p.top.p) := zx.out.cell 3
        have y4 : V.cell? ⟨X, 4, none⟩ = some (.int .i64 b.p.top.n) := zx.out.cell 4
        have y5 : V.cell? ⟨X, 5, none⟩ = some (.int .i64 b.p.cur.p) := zx.out.cell 5
        have y6 : V.cell? ⟨X, 6, none⟩ = some (.int .i64 b.p.cur.n) := zx.out.cell 6
        have y7 : V.cell? ⟨X, 7, none⟩ = some (.bool b.p.att) := zx.out.cell 7
        go_upto_region 12 with (first
          | (refine wpList_loadF rfl (.tmp 10) rfl X10 0 F2 rfl Z10.out.range ?_)
          | (go_at_call 49; refine (CA.out _).mono ?_; clear CA; rintro e w13 ⟨rfl, hb13⟩; have S13 := Lib.hid (show Seen V w13 from hb13); clear hb13)
          | (refine wpList_storeC rfl 35 (.tmp 94) (.tmp 92) rfl X10 17 (chl CH) rfl rfl sz45 (chl_one _) (Z10.out.seen S13.out) (Nat.le_refl _) e3 ?_; intro W14 b14 t14))
        rename_i hKR
        have f0 := Blk.drew (show Blk W14 X10 (frl F3) 37 from b14)
        have l0 := Blk.drew (Blk.turns (zx.out.seen S13.out) t14 (Ne.symm hne0))
        have q1 := Blk.drew (Blk.turns (zk1.out.seen S13.out) t14 (Ne.symm hne3))
        have q20 := Blk.drew (Blk.turns (zk2.out.seen S13.out) t14 (Ne.symm hne4))
        have T1 := turns_sets W14.drew (W.heap.size + 1) 0 (frl F3)
        have f1 := Blk.turns f0 T1 hne3
        have l1 := Blk.turns l0 T1 (by omega)
        have q2 := Blk.turns q20 T1 (by omega)
        have T2 := turns_sets (W14.drew.setCells (W.heap.size + 1) 0 (frl F3)) (W.heap.size + 1 + 1) 0 (layl (.slice none 0 0) (.slice ra b.p.y.length rc) b.p b.hi)
        have f2 := Blk.turns f1 T2 hne4
        have l2 := Blk.turns l1 T2 (by omega)
        have g1 := Blk.turns (blkFr F3 q1 rfl) T2 (by omega)
        have g2 := blkLay (.slice none 0 0) (.slice ra b.p.y.length rc) b.p b.hi q2 rfl
        have ls1 := LS.turns (lsV.out.seen' S13.out) (Z10.out.seen S13.out) (by decide) (by decide) (by omega) t14
        have ls2 := LS.turns (ls1.seen' (Seen.refl W14).drew) q1 (by decide) (by decide) (by omega) T1
        have ls3 := LS.turns ls2 q2 (by decide) (by decide) (by omega) T2
        have mv1 := Moves.newer (Moves.newer mvV.out (Below.mono S13.out mvV.out.size)) (t14.below (Nat.le_trans mvV.out.size S13.out.size) (by omega))
        have mv2 := Moves.newer mv1 (Below.mono (Seen.refl W14).drew mv1.size)
        have mv3 := Moves.newer (Moves.newer mv2 (T1.below mv2.size (by omega))) (T2.below (Nat.le_trans mv2.size T1.size) (by omega))
        have rp1 := rp_turns (RP.seen rpV.out S13.out) (Z10.out.seen S13.out) (by decide) t14
        have rp2 := rp_turns (RP.seen rp1 (Seen.refl W14).drew) q1 (by decide) T1
        have rp3 := rp_turns rp2 q2 (by decide) T2
        clear r12 r14 y1 y2 y3 y4 y5 y6 y7
        refine wp_region_held_drew (S := fun w' => Blk w' X10 (frl F3) 37 ∧ Blk w' X (layl (.slice none 0 0) (.slice ra b.p.y.length rc) b.p b.hi) 43) (by kernel_rfl) ⟨f0, l0⟩ (fun _ => ?_)
        refine ZU 0 (some 95) (frv F3) (fun _ hS => run_by (Instr.loadAt 37 (.pointer (some ⟨X10, 0, none⟩))) (by kernel_rfl) (lda47 (vs := frl F3) hS.1.range rfl)) ⟨f0, l0⟩ ?_
        simp only [Z1,Z2,Z3,Z4]
        refine ZU 1 (some 96) (layv (.slice none 0 0) (.slice ra b.p.y.length rc) b.p b.hi) (fun _ hS => run_by (Instr.loadAt 43 (.pointer (some ⟨X, 0, none⟩))) (by kernel_rfl) (lda53 (vs := layl (.slice none 0 0) (.slice ra b.p.y.length rc) b.p b.hi) hS.2.range rfl)) ⟨f0, l0⟩ ?_
        simp only [Z1,Z2,Z3,Z4]
        refine ZT 2 (some 97) (.bool cb) ⟨f0, l0⟩ ?_
        simp only [Z1,Z2,Z3,Z4]
        refine ZK 3 none (run_skip_by (Instr.storeAt 37 (.pointer (some ⟨(W.heap.size + 1), 0, none⟩)) (frv F3)) (by kernel_rfl) (stFr F3 q1 rfl)) (⟨f1, l1⟩) ?_
        simp only [Act.put]
        refine ZK 4 none (run_skip_by (Instr.storeAt 43 (.pointer (some ⟨(W.heap.size + 1 + 1), 0, none⟩)) (layv (.slice none 0 0) (.slice ra b.p.y.length rc) b.p b.hi)) (by kernel_rfl) (stLay (.slice none 0 0) (.slice ra b.p.y.length rc) rfl (oneS _ _ _) b.p b.hi q2 rfl)) (⟨f2, l2⟩) ?_
        simp only [Act.put]
        refine ZT 5 (some 8) (.bool cb) ⟨f2, l2⟩ ?_
        simp only [Z1,Z2,Z3,Z4]
        refine wpAnyH_done (by kernel_rfl) ?_ _
        refine hKR _ _ (wp_ret ?_)
        show bodyPost Tryz.prog Tryz.f20 _ Exit.ret _ _
        refine bodyPost_ret (results_three rfl rfl rfl rfl (run_loadF g1) (run_loadLay g2)) rfl ?_
        refine ⟨F3, ra, b.p.y.length, rc, b.p, b.hi, cb, v', ps', rfl, ls3, mv3, ?_⟩
        cases cb
        · exact .inl ⟨HNE.out, rfl⟩
        · exact .inr ⟨⟨F3, b.p, b.hi, b.l⟩, HNE.out, rfl, rfl, rfl, rfl, hps', rfl, rp3⟩
end Go.Proofs.YtngeaigkafamiaaGreat

