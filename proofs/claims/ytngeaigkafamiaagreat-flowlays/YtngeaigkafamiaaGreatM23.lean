/- Texts of the proof, merged: PRef. -/
import Derived.Test.YtngeaigkafamiaaGreatM22
namespace Go.Proofs.YtngeaigkafamiaaGreat
open Go.ChangeShapes Go.WideShapes Go.ChangeAt Go.RowKit
set_option maxRecDepth 100000
set_option linter.unusedVariables false
theorem refTop_y (p : Pi) (c : Ch) : refTop p c = ⟨p.y ++ [0], if c.thr then p.edge else c.high, joinS p.top c.top, if c.thr then p.cur else c.bot, p.att⟩ := by
  unfold refTop; split <;> rfl
def RefAns (w : World) (q : Pi) (b : Bool) (e : Ending) (w' : World) : Prop := ∃ v, e = .returned (.tuple #[piv v q, .bool b]) ∧ RP w' w.heap.size v q.y ∧ Seen w w'
set_option maxHeartbeats 8000000 in
theorem refStack_any (a : Option Addr) (n c : Nat) (l : List Ch) (o : Bool) (w : World) (h : CS w a n l) (hn : n ≤ 1000) :
    Calls Tryz.prog 56 #[.slice a n c, .bool o] w (RefAns w (stkP l o) (stkB l o)) := by
  have hlen := h.len
  have HL : Hid (l.length = n) := h.1
  have ht := topN_le l o
  obtain ⟨W, hW⟩ : ∃ W, W = w.alloc (.cells zpil.toArray 53) := ⟨_, rfl⟩
  have kW : Blk W w.heap.size zpil 53 := by rw [hW]; exact Blk.new w _ _
  have sW : Seen w W := by rw [hW]; exact (Seen.refl w).alloc _
  have hWs : Hid (w.heap.size < W.heap.size) := by rw [hW]; simp [Hid]
  have HC := Lib.hid (h.seen sW)
  have HKW := Lib.hid kW
  have HSW := Lib.hid sW
  have tp := refTop_any a n c l o W HC.out hn
  obtain ⟨m, hm⟩ : ∃ m, topN l o = m := ⟨_, rfl⟩
  have HM := Lib.hid hm
  rw [hm] at tp ht
  rw [hlen] at ht
  obtain ⟨at0, hat0⟩ : ∃ b, attB l o = b := ⟨_, rfl⟩
  have HAT := Lib.hid hat0
  clear h kW sW hm hat0
  go_enter Tryz.func56, Tryz.ntmps56
  go_upto_region 1 with fail
  rw [← hW]
  clear hW
  go_upto_region 2 with (go_at_call 82; refine tp.mono ?_; clear tp; rintro e w1 ⟨rfl, rfl⟩)
  go_cut [7] (fun v wx => (v = .pointer (some ⟨W.heap.size, 0, none⟩) ∧ wx = W.alloc (.cells #[.slice none 0 0, .int .i64 0, .int .i64 0, .int .i64 0, .int .i64 0, .int .i64 0, .bool at0] 53) : Prop))
  case first =>
    cases o
    · obtain rfl : at0 = false := by rw [← HAT.out, att_shut]
      go_wp2_with fail
      go_meet
      exact ⟨rfl, rfl⟩
    · by_cases h0 : m = 0
      · subst h0
        obtain rfl : at0 = true := by rw [← HAT.out]; unfold attB; rw [HM.out]; rfl
        go_wp2_with fail
        go_meet
        exact ⟨rfl, rfl⟩
      · obtain ⟨b, off, rfl, hats⟩ := HC.out.ats (by omega : 0 < n)
        have hat := hats (m - 1) (by omega)
        have c6 := hat.2.2.2.2.2.2.1
        obtain ⟨j, rfl⟩ : ∃ j, m = j + 1 := ⟨m - 1, by omega⟩
        have ej : (((j + 1 : Nat) : Int) - 1) = (j : Int) := by omega
        have e2 : (cat l (j + 1 - 1)).thr = at0 := by rw [← HAT.out]; unfold attB; rw [HM.out]; simp
        rw [e2] at c6
        simp only [Nat.add_sub_cancel] at c6
        have hj0 : ¬ ((j + 1 : Nat) : Int) = 0 := by omega
        clear hats hat e2
        go_wp2_with fail
        go_meet
        exact ⟨rfl, rfl⟩
  obtain ⟨rfl, rfl⟩ := hcut
  obtain ⟨W1, hW1⟩ : ∃ W1, W1 = W.alloc (.cells #[.slice none 0 0, .int .i64 0, .int .i64 0, .int .i64 0, .int .i64 0, .int .i64 0, .bool at0] 53) := ⟨_, rfl⟩
  obtain ⟨B, hB⟩ : ∃ B, W.heap.size = B := ⟨_, rfl⟩
  have P1 : PS W1 B B 53 (.slice none 0 0) ⟨[], 0, zSt, zSt, at0⟩ := ⟨by rw [hW1, ← hB]; exact Blk.new W _ _, RP.nil _ _⟩
  have B1 : Below B W W1 := by rw [hW1, ← hB]; exact (Seen.refl W).alloc _
  rw [← hW1, hB]
  have HB := Lib.hid hB
  have HP1 := Lib.hid P1
  have HB1 := Lib.hid B1
  clear hW1 hB P1 B1
  go_wp2_with fail
  go_loopw [34] (fun i wr => ∃ k : Nat, k ≤ m ∧ i = .int .i64 k ∧ (∃ v, PS wr B B 53 v (refTops ⟨[], 0, zSt, zSt, at0⟩ (l.take k))) ∧ Below B W wr) (fun i _ => m - (intOf i).toNat)
  case atStart => exact ⟨0, Nat.zero_le _, rfl, ⟨_, HP1.out⟩, HB1.out⟩
  case round =>
    clear HP1 HB1
    obtain ⟨k, hk, rfl, ⟨v, hp⟩, hbel⟩ := hrel
    have HBL := Lib.hid hbel
    have HP := Lib.hid hp
    have HCr : Hid (CS wr a n l) := HC.out.seen (by unfold Seen; rw [HB.out]; exact hbel)
    clear hbel
    by_cases hkm : k < m
    · have hkl : k < l.length := by rw [HL.out]; omega
      have HN := Lib.hid (refTops_next (l := l) ⟨[], 0, zSt, zSt, at0⟩ hkl)
      have hyl := refTops_len ⟨[], 0, zSt, zSt, at0⟩ (l.take k)
      rw [List.length_take] at hyl
      simp only [List.length_nil] at hyl
      obtain ⟨q, hq⟩ : ∃ q, refTops ⟨[], 0, zSt, zSt, at0⟩ (l.take k) = q := ⟨_, rfl⟩
      rw [hq] at HN hp HP hyl
      obtain ⟨cc, hcc⟩ : ∃ cc, cat l k = cc := ⟨_, rfl⟩
      rw [hcc] at HN
      have HLy : Hid (q.y.length ≤ 1000000) := by unfold Hid; omega
      have hlt := hp.blk.lt
      have jn := refJoin_any q.top cc.top
      obtain ⟨r, hr⟩ : ∃ r, joinS q.top cc.top = r := ⟨_, rfl⟩
      rw [refTop_y, hr] at HN
      rw [hr] at jn
      clear hq hr hyl hp
      obtain ⟨y, ed, ⟨pp, pn⟩, ⟨cp, cn⟩, att⟩ := q
      simp only at HN HLy jn
      have c0 : wr.cell? ⟨B, 0, none⟩ = some v := HP.out.blk.cell 0
      have hWr : Hid (B ≤ wr.heap.size) := by unfold Hid; omega
      go_upto_region 7 with (at_builtin; refine wpList_pushP rfl (.tmp 38) (.tmp 39) rfl B v y 0 rfl rfl HP.out.row HLy.out hWr.out ?_; intro g cap w2 hown hgrow; have st := pile_step HP.out (by decide) (Nat.le_refl _) hown hgrow; have q0 : w2.cell? ⟨B, 0, none⟩ = some v := st.1.cell 0; have q1 := st.1.free 0; have ST := Lib.hid st; clear st hown hgrow c0 HP)
      obtain ⟨v', hv'⟩ : ∃ v', Value.slice (some ⟨g, 0, none⟩) (y.length + 1) cap = v' := ⟨_, rfl⟩
      rw [hv'] at ST ⊢
      clear hv'
      obtain ⟨V, hV⟩ : ∃ V, V = w2.setCell ⟨B, 0, none⟩ v' := ⟨_, rfl⟩
      have HV := ST.out.2
      rw [← hV] at HV
      have HV2 := Lib.hid HV.1
      have BV2 : Hid (Below B W V) := HBL.out.trans HV.2
      rw [← hV]
      clear hV ST q0 q1
      have rP := HV.1.blk.rulesP
      have hVl := HV.1.blk.lt
      have hcs : CS V a n l := HC.out.seen (by unfold Seen; rw [HB.out]; exact BV2.out)
      obtain ⟨b, off, rfl, hats⟩ := hcs.ats (by omega : 0 < n)
      have hat := hats k (by omega)
      rw [hcc] at hat
      have rC : ∀ w', Seen V w' → At8 w' b (off + k * 8) cc := fun w' h => hat.seen h
      simp only [At8] at rC
      have sV := Seen.refl V
      have dV := (Seen.refl V).drew
      simp only at rP
      clear HV hcs hats hat HBL HCr
      obtain ⟨⟨tp, tn⟩, ⟨bp, bn⟩, ⟨ip, inn⟩, thr, hi⟩ := cc
      simp only at jn rC HN
      have hkn : k < n := by omega
      go_cut [] (fun wx => (PS wx B B 53 v' ⟨y ++ [0], ed, r, ⟨cp, cn⟩, att⟩ ∧ Below B W wx : Prop))
      case first =>
        go_region_with (go_at_call 58; refine (jn _).mono ?_; rintro e w2 ⟨rfl, hb2⟩; have s2 : Seen V w2 := dV.next hb2; clear hb2)
        all_goals
          go_wp2_with fail
          go_meet
          have a1 := (HV2.out.blk.seen s2).set 2 (.int .i64 r.p)
          refine ⟨⟨a1.set 3 (.int .i64 r.n), (HV2.out.row.seen s2).two (HV2.out.blk.seen s2) (by decide) _ _ _ _⟩, ?_⟩
          exact below_set (below_set (BV2.out.trans (s2.mono (by omega))) (Nat.le_refl _) _ _) (Nat.le_refl _) _ _
      obtain ⟨P2, B2⟩ := hcut
      have HP2 := Lib.hid P2
      have HB2 := Lib.hid B2
      have hcs : CS wc _ n l := HC.out.seen (by unfold Seen; rw [HB.out]; exact B2)
      obtain ⟨b', off', hbo, hats⟩ := hcs.ats (by omega : 0 < n)
      obtain ⟨rfl, rfl⟩ : b = b' ∧ off = off' := by simpa using hbo
      have hat := hats k (by omega)
      rw [hcc] at hat
      simp only [At8] at hat
      obtain ⟨-, -, a2, a3, -, -, a6, a7⟩ := hat
      obtain ⟨b0, b1, b2, b3, b4, b5, b6, bf⟩ := P2.blk.rulesP wc (Seen.refl _)
      clear rP rC sV dV HV2 BV2 P2 B2 jn hcs hats b0 b2 b3 b6 hbo
      cases thr
      · simp only [Bool.false_eq_true, if_false] at HN
        go_upto_region 9 with fail
        go_region_with fail
        all_goals
          go_wp2_with fail
          go_roundw
          case rel => exact ⟨k + 1, by omega, by go_num, ⟨v', by rw [HN.out]; exact ⟨((HP2.out.blk.set _ _).set _ _).set _ _, HP2.out.row.three HP2.out.blk (by decide) _ _ _ _ _ _⟩⟩, (below_set (below_set (below_set HB2.out (Nat.le_refl _) _ _) (Nat.le_refl _) _ _) (Nat.le_refl _) _ _).drew⟩
          case measure => simp [intOf]; omega
      · simp only [if_true] at HN
        go_wp2_with fail
        go_roundw
        case rel => exact ⟨k + 1, by omega, by go_num, ⟨v', by rw [HN.out]; exact HP2.out⟩, HB2.out⟩
        case measure => simp [intOf]; omega
    · obtain rfl : k = m := by omega
      have HQ : Hid (refQ l o = refTops ⟨[], 0, zSt, zSt, at0⟩ (l.take k)) := by unfold Hid refQ; rw [HM.out, HAT.out]
      obtain ⟨q, hq⟩ : ∃ q, refTops ⟨[], 0, zSt, zSt, at0⟩ (l.take k) = q := ⟨_, rfl⟩
      have hq' := hq
      rw [hq] at HQ HP hp
      clear hq HCr
      obtain ⟨D, hD⟩ : ∃ D, l.drop k = D := ⟨_, rfl⟩
      have HO : Hid (stkO l o = if fitsB q.edge then runL q D else none) := by
        unfold Hid; rw [stk_ref]; unfold refO; rw [HQ.out, HM.out, hD]
      have HDL : Hid (D.length = n - k) := by rw [← hD]; unfold Hid; rw [List.length_drop, HL.out]
      have HDC : Hid (∀ t, k ≤ t → cat D (t - k) = cat l t) := by
        intro t ht
        rw [← hD]
        unfold cat
        rw [List.getD_eq_getElem?_getD, List.getElem?_drop, ← List.getD_eq_getElem?_getD, show k + (t - k) = t by omega]
      have fn := refFits_any q.edge wr
      obtain ⟨-, c1, -⟩ := hp.blk.rulesP wr (Seen.refl _)
      have HYL : Hid (q.y.length ≤ n) := by
        have h1 := refTops_len ⟨[], 0, zSt, zSt, at0⟩ (l.take k)
        rw [hq', List.length_take] at h1
        simp only [List.length_nil] at h1
        unfold Hid; omega
      clear hp hD hq'
      cases hfit : fitsB q.edge
      · rw [hfit] at fn HO
        simp only [Bool.false_eq_true, if_false] at HO
        go_upto_region 12 with (go_at_call 52; refine fn.mono ?_; clear fn; rintro e w3 ⟨rfl, rfl⟩)
        have e1 := stk_none HO.out
        have HR5 : Hid (Blk wr w.heap.size zpil 53) := (HBL.out.block _ (by rw [← HB.out]; exact hWs.out)).trans HKW.out
        obtain ⟨x0, x1, x2, x3, x4, x5, x6, xf⟩ := (show Blk wr w.heap.size (pil (.slice none 0 0) zPi) 53 from HR5.out).rulesP wr (Seen.refl _)
        simp only [zPi, zSt] at x0 x1 x2 x3 x4 x5 x6
        have HS5 : Hid (Seen w wr) := HSW.out.trans (show Seen W wr by unfold Seen; rw [HB.out]; exact HBL.out)
        go_wp2_with fail
        have z := ((((((HR5.out.set 0 (.slice none 0 0)).set 1 (.int .i64 0)).set 2 (.int .i64 0)).set 3 (.int .i64 0)).set 4 (.int .i64 0)).set 5 (.int .i64 0)).set 6 (.bool false)
        have z0 := z.cell 0
        have z1 := z.cell 1
        have z2 := z.cell 2
        have z3 := z.cell 3
        have z4 := z.cell 4
        have z5 := z.cell 5
        have z6 := z.cell 6
        refine bodyPost_ret (by simp [results, Tryz.results56, go_sem, z0, z1, z2, z3, z4, z5, z6]; try rfl) rfl ?_
        rw [e1.1, e1.2]
        refine ⟨.slice none 0 0, rfl, RP.nil _ _, ?_⟩
        exact below_set (below_set (below_set (below_set (below_set (below_set (below_set HS5.out (Nat.le_refl _) _ _) (Nat.le_refl _) _ _) (Nat.le_refl _) _ _) (Nat.le_refl _) _ _) (Nat.le_refl _) _ _) (Nat.le_refl _) _ _) (Nat.le_refl _) _ _
      · rw [hfit] at fn HO
        simp only [if_true] at HO
        go_upto_region 14 with (go_at_call 52; refine fn.mono ?_; clear fn; rintro e w3 ⟨rfl, rfl⟩)
        have hkn : k ≤ n := ht
        go_loopw [9] (fun i ws => ∃ t : Nat, k ≤ t ∧ t ≤ n ∧ i = .int .i64 t ∧ (∃ v p, runL q (D.take (t - k)) = some p ∧ PS ws B B 53 v p) ∧ Below B W ws) (fun i _ => n - (intOf i).toNat)
        case atStart => exact ⟨k, Nat.le_refl _, hkn, rfl, ⟨v, q, by rw [Nat.sub_self]; rfl, HP.out⟩, HBL.out⟩
        case round =>
          clear HP HBL c1
          obtain ⟨t, hkt, htn, rfl, ⟨v2, p, hrun, hps⟩, hbel⟩ := hrel
          have HCs : Hid (CS wr a n l) := HC.out.seen (by unfold Seen; rw [HB.out]; exact hbel)
          have HBL := Lib.hid hbel
          have HP := Lib.hid hps
          have HRUN := Lib.hid hrun
          by_cases htl : t < n
          · have hcat := HDC.out t hkt
            have hjd : t - k < D.length := by rw [HDL.out]; omega
            obtain ⟨b, off, rfl, hats⟩ := HCs.out.ats (by omega : 0 < n)
            have hat := hats t htl
            obtain ⟨cc, hcc⟩ : ∃ cc, cat D (t - k) = cc := ⟨_, rfl⟩
            rw [← hcat, hcc] at hat
            have HNX : Hid (lowB p cc = true → runL q (D.take (t + 1 - k)) = some (lowP p cc)) := fun h => by rw [← hcc] at h ⊢; rw [show t + 1 - k = t - k + 1 by omega]; exact runL_next hjd HRUN.out h
            have HST : Hid (lowB p cc = false → stkO l o = none) := fun h => by rw [← hcc] at h; rw [HO.out]; exact runL_stop hjd HRUN.out h
            have HYP : Hid (p.y.length ≤ 1000000) := by
              have h1 := runL_len HRUN.out
              have h2 := HYL.out
              rw [List.length_take] at h1
              unfold Hid; omega
            obtain ⟨X, hX⟩ : ∃ X, X = (wr.alloc (.cells (chl cc).toArray 48)).alloc (.cells #[.int .i64 cc.top.p, .int .i64 cc.top.n] 46) := ⟨_, rfl⟩
            have sX : Seen wr X := by rw [hX]; exact ((Seen.refl wr).alloc _).alloc _
            have kC : Blk X wr.heap.size (chl cc) 48 := by rw [hX]; exact (Blk.new wr _ _).alloc _
            have kT : Blk X (wr.heap.size + 1) [.int .i64 cc.top.p, .int .i64 cc.top.n] 46 := by rw [hX]; simpa using Blk.new (wr.alloc (.cells (chl cc).toArray 48)) [.int .i64 cc.top.p, .int .i64 cc.top.n] 46
            have kn := ((Blk.new wr (chl cc) 48)).child
            have HPX := Lib.hid (HP.out.seen sX)
            have BX : Hid (Below B W X) := HBL.out.trans (sX.mono (by have := hps.blk.lt; omega))
            have hbw : B < wr.heap.size := hps.blk.lt
            have KC := Lib.hid kC
            have KT := Lib.hid kT
            unfold At8 at hat
            obtain ⟨y0, y1, y2, y3, y4, y5, y6, y7⟩ := hat
            clear hcat hcc hats hrun hps hbel HP HBL HCs sX kC kT
            obtain ⟨⟨tp, tn⟩, ⟨bp, bn⟩, ⟨ip, inn⟩, thr, hi⟩ := cc
            obtain ⟨y, ed, ⟨pp, pn⟩, ⟨cp, cn⟩, att⟩ := p
            simp only [chl] at hX kn
            simp only [At8, Nat.zero_add] at kn
            simp only at HYP y0 y1 y2 y3 y4 y5 y6 y7
            clear hjd
            go_upto_region 18 with fail
            rw [← hX]
            clear hX kn y0 y1 y2 y3 y4 y5 y6 y7
            have kc := KC.out.child
            simp only [At8, Nat.zero_add] at kc
            cases thr
            ·
              obtain ⟨jv, hjv⟩ : ∃ jv, joinS ⟨cp, cn⟩ ⟨tp, tn⟩ = jv := ⟨_, rfl⟩
              have j1 := refJoin_any ⟨cp, cn⟩ ⟨tp, tn⟩
              rw [hjv] at j1
              have v1 := refValue_any jv
              obtain ⟨g, hg⟩ : ∃ g, valN jv = g := ⟨_, rfl⟩
              obtain ⟨gb, hgb⟩ : ∃ gb, valB jv = gb := ⟨_, rfl⟩
              rw [hg, hgb] at v1
              have eg : gapN ⟨cp, cn⟩ ⟨⟨tp, tn⟩, ⟨bp, bn⟩, ⟨ip, inn⟩, false, hi⟩ = g ∧ gapB ⟨cp, cn⟩ ⟨⟨tp, tn⟩, ⟨bp, bn⟩, ⟨ip, inn⟩, false, hi⟩ = gb := by unfold gapN gapB byS; exact ⟨by rw [← hg, ← hjv]; rfl, by rw [← hgb, ← hjv]; rfl⟩
              obtain ⟨z, hz⟩ : ∃ z, sumN [ed, g] = z := ⟨_, rfl⟩
              obtain ⟨zb, hzb⟩ : ∃ zb, sumB [ed, g] = zb := ⟨_, rfl⟩
              have s1 : ∀ W, _ := fun W => refSum_any _ 2 2 [ed, g] _ (zs_new W ed g 2) (by decide)
              rw [hz, hzb] at s1
              have EB : Hid (posB ed ⟨cp, cn⟩ ⟨⟨tp, tn⟩, ⟨bp, bn⟩, ⟨ip, inn⟩, false, hi⟩ = (gb && zb)) := by unfold Hid posB; rw [eg.1, eg.2, hzb]
              have EP : Hid (gb = true → posN ed ⟨cp, cn⟩ ⟨⟨tp, tn⟩, ⟨bp, bn⟩, ⟨ip, inn⟩, false, hi⟩ = z) := fun h => by unfold posN; rw [eg.1, eg.2, hz, h]; rfl
              clear hjv hg hgb hz hzb eg
              have t0 := KT.out.rules2
              have KC2 := KC
              have HP2 := HPX
              have BX2 := BX
              have rP := HP2.out.blk.rulesP
              have sX := Seen.refl X
              have hxl : Hid (B ≤ X.heap.size) := by have := HP2.out.blk.lt; unfold Hid; omega
              simp only at rP
              go_upto_region 22 with (first
                | (go_at_call 58; refine (j1 _).mono ?_; clear j1; rintro e w2 ⟨rfl, hb2⟩; have s2 : Seen X w2 := sX.next hb2; clear hb2)
                | (go_at_call 57; refine (v1 _).mono ?_; clear v1; rintro e w3 ⟨rfl, hb3⟩; have s3 : Seen X w3 := s2.next hb3; clear hb3)
                | (go_at_call 24; refine (s1 w3).mono ?_; clear s1; rintro e w4 ⟨rfl, rfl⟩))
              obtain ⟨w4, hw4⟩ : ∃ w4, w4 = w3.alloc (.cells #[.int .i64 ed, .int .i64 g] 2) := ⟨_, rfl⟩
              rw [← hw4]
              have s4 : Seen X w4 := by rw [hw4]; exact s3.alloc _
              have HP4 := Lib.hid (HP2.out.seen s4)
              have KC4 := Lib.hid (KC2.out.seen s4)
              have B4 : Hid (Below B W w4) := BX2.out.trans (s4.mono hxl.out)
              have h4 : Hid (B ≤ w4.heap.size) := Nat.le_trans hxl.out s4.size
              clear hw4 s4 s3 s2 sX rP t0 HP2 KC2 BX2 hxl KT
              cases gb
              · have hf : lowB ⟨y, ed, ⟨pp, pn⟩, ⟨cp, cn⟩, att⟩ ⟨⟨tp, tn⟩, ⟨bp, bn⟩, ⟨ip, inn⟩, false, hi⟩ = false := by show (posB ed ⟨cp, cn⟩ ⟨⟨tp, tn⟩, ⟨bp, bn⟩, ⟨ip, inn⟩, false, hi⟩ && _) = false; rw [EB.out]; rfl
                have hst := Lib.hid (HST.out hf)
                clear hf HST HNX
                go_upto_region 23 with fail
                have e1 := Lib.hid (stk_none hst.out)
                have HR5 : Hid (Blk w4 w.heap.size zpil 53) := (B4.out.block _ (by rw [← HB.out]; exact hWs.out)).trans HKW.out
                obtain ⟨x0, x1, x2, x3, x4, x5, x6, xf⟩ := (show Blk w4 w.heap.size (pil (.slice none 0 0) zPi) 53 from HR5.out).rulesP w4 (Seen.refl _)
                simp only [zPi, zSt] at x0 x1 x2 x3 x4 x5 x6
                have HS5 : Hid (Seen w w4) := HSW.out.trans (show Seen W w4 by unfold Seen; rw [HB.out]; exact B4.out)
                go_wp2_with fail
                have z := ((((((HR5.out.set 0 (.slice none 0 0)).set 1 (.int .i64 0)).set 2 (.int .i64 0)).set 3 (.int .i64 0)).set 4 (.int .i64 0)).set 5 (.int .i64 0)).set 6 (.bool false)
                have z0 := z.cell 0
                have z1 := z.cell 1
                have z2 := z.cell 2
                have z3 := z.cell 3
                have z4 := z.cell 4
                have z5 := z.cell 5
                have z6 := z.cell 6
                refine bodyPost_ret (by simp [results, Tryz.results56, go_sem, z0, z1, z2, z3, z4, z5, z6]; try rfl) rfl ?_
                rw [e1.out.1, e1.out.2]
                refine ⟨.slice none 0 0, rfl, RP.nil _ _, ?_⟩
                exact below_set (below_set (below_set (below_set (below_set (below_set (below_set HS5.out (Nat.le_refl _) _ _) (Nat.le_refl _) _ _) (Nat.le_refl _) _ _) (Nat.le_refl _) _ _) (Nat.le_refl _) _ _) (Nat.le_refl _) _ _) (Nat.le_refl _) _ _
              cases zb
              · have hf : lowB ⟨y, ed, ⟨pp, pn⟩, ⟨cp, cn⟩, att⟩ ⟨⟨tp, tn⟩, ⟨bp, bn⟩, ⟨ip, inn⟩, false, hi⟩ = false := by show (posB ed ⟨cp, cn⟩ ⟨⟨tp, tn⟩, ⟨bp, bn⟩, ⟨ip, inn⟩, false, hi⟩ && _) = false; rw [EB.out]; rfl
                have hst := Lib.hid (HST.out hf)
                clear hf HST HNX
                go_upto_region 23 with fail
                have e1 := Lib.hid (stk_none hst.out)
                have HR5 : Hid (Blk w4 w.heap.size zpil 53) := (B4.out.block _ (by rw [← HB.out]; exact hWs.out)).trans HKW.out
                obtain ⟨x0, x1, x2, x3, x4, x5, x6, xf⟩ := (show Blk w4 w.heap.size (pil (.slice none 0 0) zPi) 53 from HR5.out).rulesP w4 (Seen.refl _)
                simp only [zPi, zSt] at x0 x1 x2 x3 x4 x5 x6
                have HS5 : Hid (Seen w w4) := HSW.out.trans (show Seen W w4 by unfold Seen; rw [HB.out]; exact B4.out)
                go_wp2_with fail
                have z := ((((((HR5.out.set 0 (.slice none 0 0)).set 1 (.int .i64 0)).set 2 (.int .i64 0)).set 3 (.int .i64 0)).set 4 (.int .i64 0)).set 5 (.int .i64 0)).set 6 (.bool false)
                have z0 := z.cell 0
                have z1 := z.cell 1
                have z2 := z.cell 2
                have z3 := z.cell 3
                have z4 := z.cell 4
                have z5 := z.cell 5
                have z6 := z.cell 6
                refine bodyPost_ret (by simp [results, Tryz.results56, go_sem, z0, z1, z2, z3, z4, z5, z6]; try rfl) rfl ?_
                rw [e1.out.1, e1.out.2]
                refine ⟨.slice none 0 0, rfl, RP.nil _ _, ?_⟩
                exact below_set (below_set (below_set (below_set (below_set (below_set (below_set HS5.out (Nat.le_refl _) _ _) (Nat.le_refl _) _ _) (Nat.le_refl _) _ _) (Nat.le_refl _) _ _) (Nat.le_refl _) _ _) (Nat.le_refl _) _ _) (Nat.le_refl _) _ _
              have ez := Lib.hid (EP.out rfl)
              clear EP
              have c0 : w4.cell? ⟨B, 0, none⟩ = some v2 := HP4.out.blk.cell 0
              go_upto_region 25 with (at_builtin; refine wpList_pushP rfl (.tmp 116) (.tmp 118) rfl B v2 y z rfl rfl HP4.out.row HYP.out h4.out ?_; intro g5 cap w5 hown hgrow; have st := pile_step HP4.out (by decide) (Nat.le_refl _) hown hgrow; have ko := grow_other KC4.out (by decide) HP4.out.row hgrow; have q0 : w5.cell? ⟨B, 0, none⟩ = some v2 := st.1.cell 0; have q1 := st.1.free 0; have ST := Lib.hid (And.intro st ko); clear st ko hown hgrow c0 HP4 KC4)
              obtain ⟨v', hv'⟩ : ∃ v', Value.slice (some ⟨g5, 0, none⟩) (y.length + 1) cap = v' := ⟨_, rfl⟩
              rw [hv'] at ST ⊢
              clear hv'
              obtain ⟨V, hV⟩ : ∃ V, V = w5.setCell ⟨B, 0, none⟩ v' := ⟨_, rfl⟩
              have HV := ST.out.1.2
              have KV := ST.out.2.other (p := ⟨B, 0, none⟩) (by simp; omega) v'
              rw [← hV] at HV KV
              have HV2 := Lib.hid HV.1
              have BV2 : Hid (Below B W V) := B4.out.trans HV.2
              have KV2 := Lib.hid KV
              rw [← hV]
              clear hV ST q0 q1
              have rP := HV.1.blk.rulesP
              have rC := KV.rulesC
              have sV := Seen.refl V
              have hVl := HV.1.blk.lt
              simp only [At8, Nat.zero_add] at rC
              simp only at rP
              clear HV KV
              obtain ⟨m2, hm2⟩ : ∃ m2, sumN [z, hi] = m2 := ⟨_, rfl⟩
              obtain ⟨mb, hmb⟩ : ∃ mb, sumB [z, hi] = mb := ⟨_, rfl⟩
              have sm : ∀ W, _ := fun W => refSum_any _ 2 2 [z, hi] _ (zs_new W z hi 2) (by decide)
              rw [hm2, hmb] at sm
              have hb : lowB ⟨y, ed, ⟨pp, pn⟩, ⟨cp, cn⟩, att⟩ ⟨⟨tp, tn⟩, ⟨bp, bn⟩, ⟨ip, inn⟩, false, hi⟩ = mb := by show (posB ed ⟨cp, cn⟩ ⟨⟨tp, tn⟩, ⟨bp, bn⟩, ⟨ip, inn⟩, false, hi⟩ && (false || sumB [posN ed ⟨cp, cn⟩ ⟨⟨tp, tn⟩, ⟨bp, bn⟩, ⟨ip, inn⟩, false, hi⟩, hi])) = mb; rw [EB.out, ez.out, hmb]; rfl
              have hp : lowP ⟨y, ed, ⟨pp, pn⟩, ⟨cp, cn⟩, att⟩ ⟨⟨tp, tn⟩, ⟨bp, bn⟩, ⟨ip, inn⟩, false, hi⟩ = ⟨y ++ [z], m2, ⟨pp, pn⟩, ⟨bp, bn⟩, att⟩ := by show (⟨y ++ [posN ed ⟨cp, cn⟩ ⟨⟨tp, tn⟩, ⟨bp, bn⟩, ⟨ip, inn⟩, false, hi⟩], sumN [posN ed ⟨cp, cn⟩ ⟨⟨tp, tn⟩, ⟨bp, bn⟩, ⟨ip, inn⟩, false, hi⟩, hi], ⟨pp, pn⟩, ⟨bp, bn⟩, att⟩ : Pi) = _; rw [ez.out, hm2]
              rw [hb, hp] at HNX
              rw [hb] at HST
              clear hb hp hm2 hmb EB ez
              go_upto_region 28 with (go_at_call 24; refine (sm V).mono ?_; clear sm; rintro e w6 ⟨rfl, rfl⟩)
              obtain ⟨U, hU⟩ : ∃ U, U = (V.setCell ⟨B, 1, none⟩ (.int .i64 m2)).alloc (.cells #[.int .i64 z, .int .i64 hi] 2) := ⟨_, rfl⟩
              rw [← hU]
              have P0 : PS (V.setCell ⟨B, 1, none⟩ (.int .i64 m2)) B B 53 v' ⟨y ++ [z], m2, ⟨pp, pn⟩, ⟨cp, cn⟩, att⟩ := ⟨HV2.out.blk.set 1 _, HV2.out.row.other HV2.out.blk (by decide) _ _⟩
              have s3 : Seen (V.setCell ⟨B, 1, none⟩ (.int .i64 m2)) U := by rw [hU]; exact (Seen.refl _).alloc _
              have PU := P0.seen s3
              have KU : Blk U wr.heap.size (chl ⟨⟨tp, tn⟩, ⟨bp, bn⟩, ⟨ip, inn⟩, false, hi⟩) 48 := by
                rw [hU]
                exact (KV2.out.other (by simp; omega) _).alloc _
              have BU : Below B W U := (below_set BV2.out (Nat.le_refl _) 1 (.int .i64 m2)).trans (s3.mono (by simp [World.setCell]; omega))
              have HPU := Lib.hid PU
              have HBU := Lib.hid BU
              have rP := PU.blk.rulesP U (Seen.refl _)
              have rC := KU.child
              simp only [At8, Nat.zero_add] at rC
              simp only at rP
              clear hU s3 P0 sV HV2 KV2 BV2 PU KU BU
              go_upto_region 29 with fail
              obtain ⟨U2, hU2⟩ : ∃ U2, U2 = (U.setCell ⟨B, 4, none⟩ (.int .i64 bp)).setCell ⟨B, 5, none⟩ (.int .i64 bn) := ⟨_, rfl⟩
              rw [← hU2]
              have PU2 : Hid (PS U2 B B 53 v' ⟨y ++ [z], m2, ⟨pp, pn⟩, ⟨bp, bn⟩, att⟩) := by rw [hU2]; exact ⟨(HPU.out.blk.set 4 _).set 5 _, HPU.out.row.two HPU.out.blk (by decide) _ _ _ _⟩
              have BU2 : Hid (Below B W U2) := by rw [hU2]; exact below_set (below_set HBU.out (Nat.le_refl _) _ _) (Nat.le_refl _) _ _
              clear hU2 rP rC HPU HBU
              cases mb
              · have hst := Lib.hid (HST.out rfl)
                clear HST HNX
                go_upto_region 30 with fail
                have e1 := Lib.hid (stk_none hst.out)
                have HR5 : Hid (Blk U2 w.heap.size zpil 53) := (BU2.out.block _ (by rw [← HB.out]; exact hWs.out)).trans HKW.out
                obtain ⟨x0, x1, x2, x3, x4, x5, x6, xf⟩ := (show Blk U2 w.heap.size (pil (.slice none 0 0) zPi) 53 from HR5.out).rulesP U2 (Seen.refl _)
                simp only [zPi, zSt] at x0 x1 x2 x3 x4 x5 x6
                have HS5 : Hid (Seen w U2) := HSW.out.trans (show Seen W U2 by unfold Seen; rw [HB.out]; exact BU2.out)
                go_wp2_with fail
                have z := ((((((HR5.out.set 0 (.slice none 0 0)).set 1 (.int .i64 0)).set 2 (.int .i64 0)).set 3 (.int .i64 0)).set 4 (.int .i64 0)).set 5 (.int .i64 0)).set 6 (.bool false)
                have z0 := z.cell 0
                have z1 := z.cell 1
                have z2 := z.cell 2
                have z3 := z.cell 3
                have z4 := z.cell 4
                have z5 := z.cell 5
                have z6 := z.cell 6
                refine bodyPost_ret (by simp [results, Tryz.results56, go_sem, z0, z1, z2, z3, z4, z5, z6]; try rfl) rfl ?_
                rw [e1.out.1, e1.out.2]
                refine ⟨.slice none 0 0, rfl, RP.nil _ _, ?_⟩
                exact below_set (below_set (below_set (below_set (below_set (below_set (below_set HS5.out (Nat.le_refl _) _ _) (Nat.le_refl _) _ _) (Nat.le_refl _) _ _) (Nat.le_refl _) _ _) (Nat.le_refl _) _ _) (Nat.le_refl _) _ _) (Nat.le_refl _) _ _
              · have HNZ := Lib.hid (HNX.out rfl)
                clear HST HNX
                go_wp2_with fail
                go_roundw
                case rel => exact ⟨t + 1, by omega, by omega, by go_num, ⟨v', _, HNZ.out, PU2.out⟩, BU2.out⟩
                case measure => simp [intOf]; omega
            ·
              obtain ⟨jv, hjv⟩ : ∃ jv, joinS ⟨cp, cn⟩ ⟨ip, inn⟩ = jv := ⟨_, rfl⟩
              have j1 := refJoin_any ⟨cp, cn⟩ ⟨ip, inn⟩
              rw [hjv] at j1
              have v1 := refValue_any jv
              obtain ⟨g, hg⟩ : ∃ g, valN jv = g := ⟨_, rfl⟩
              obtain ⟨gb, hgb⟩ : ∃ gb, valB jv = gb := ⟨_, rfl⟩
              rw [hg, hgb] at v1
              have eg : gapN ⟨cp, cn⟩ ⟨⟨tp, tn⟩, ⟨bp, bn⟩, ⟨ip, inn⟩, true, hi⟩ = g ∧ gapB ⟨cp, cn⟩ ⟨⟨tp, tn⟩, ⟨bp, bn⟩, ⟨ip, inn⟩, true, hi⟩ = gb := by unfold gapN gapB byS; exact ⟨by rw [← hg, ← hjv]; rfl, by rw [← hgb, ← hjv]; rfl⟩
              obtain ⟨z, hz⟩ : ∃ z, sumN [ed, g] = z := ⟨_, rfl⟩
              obtain ⟨zb, hzb⟩ : ∃ zb, sumB [ed, g] = zb := ⟨_, rfl⟩
              have s1 : ∀ W, _ := fun W => refSum_any _ 2 2 [ed, g] _ (zs_new W ed g 2) (by decide)
              rw [hz, hzb] at s1
              have EB : Hid (posB ed ⟨cp, cn⟩ ⟨⟨tp, tn⟩, ⟨bp, bn⟩, ⟨ip, inn⟩, true, hi⟩ = (gb && zb)) := by unfold Hid posB; rw [eg.1, eg.2, hzb]
              have EP : Hid (gb = true → posN ed ⟨cp, cn⟩ ⟨⟨tp, tn⟩, ⟨bp, bn⟩, ⟨ip, inn⟩, true, hi⟩ = z) := fun h => by unfold posN; rw [eg.1, eg.2, hz, h]; rfl
              clear hjv hg hgb hz hzb eg
              have t0 := KT.out.rules2
              obtain ⟨u0, u1, uf⟩ := t0 X (Seen.refl _)
              go_upto_region 20 with fail
              obtain ⟨X2, hX2⟩ : ∃ X2, X2 = (X.setCell ⟨wr.heap.size + 1, 0, none⟩ (.int .i64 ip)).setCell ⟨wr.heap.size + 1, 1, none⟩ (.int .i64 inn) := ⟨_, rfl⟩
              have KT2 : Blk X2 (wr.heap.size + 1) [.int .i64 ip, .int .i64 inn] 46 := by rw [hX2]; exact (KT.out.set 0 _).set 1 _
              have KC2 : Hid (Blk X2 wr.heap.size (chl ⟨⟨tp, tn⟩, ⟨bp, bn⟩, ⟨ip, inn⟩, true, hi⟩) 48) := by rw [hX2]; exact (KC.out.other (by simp) _).other (by simp) _
              have HP2 : Hid (PS X2 B B 53 v2 ⟨y, ed, ⟨pp, pn⟩, ⟨cp, cn⟩, att⟩) := by
                rw [hX2]
                exact ⟨(HPX.out.blk.other (by simp; omega) _).other (by simp; omega) _, HPX.out.row.two KT.out (by decide) _ _ _ _⟩
              have BX2 : Hid (Below B W X2) := by rw [hX2]; exact below_set (below_set BX.out (by omega) _ _) (by omega) _ _
              rw [← hX2]
              clear hX2 t0 u0 u1 uf kc
              have t0 := KT2.rules2
              clear KT2
              have rP := HP2.out.blk.rulesP
              have sX := Seen.refl X2
              have hxl : Hid (B ≤ X2.heap.size) := by have := HP2.out.blk.lt; unfold Hid; omega
              simp only at rP
              go_upto_region 22 with (first
                | (go_at_call 58; refine (j1 _).mono ?_; clear j1; rintro e w2 ⟨rfl, hb2⟩; have s2 : Seen X2 w2 := sX.next hb2; clear hb2)
                | (go_at_call 57; refine (v1 _).mono ?_; clear v1; rintro e w3 ⟨rfl, hb3⟩; have s3 : Seen X2 w3 := s2.next hb3; clear hb3)
                | (go_at_call 24; refine (s1 w3).mono ?_; clear s1; rintro e w4 ⟨rfl, rfl⟩))
              obtain ⟨w4, hw4⟩ : ∃ w4, w4 = w3.alloc (.cells #[.int .i64 ed, .int .i64 g] 2) := ⟨_, rfl⟩
              rw [← hw4]
              have s4 : Seen X2 w4 := by rw [hw4]; exact s3.alloc _
              have HP4 := Lib.hid (HP2.out.seen s4)
              have KC4 := Lib.hid (KC2.out.seen s4)
              have B4 : Hid (Below B W w4) := BX2.out.trans (s4.mono hxl.out)
              have h4 : Hid (B ≤ w4.heap.size) := Nat.le_trans hxl.out s4.size
              clear hw4 s4 s3 s2 sX rP t0 HP2 KC2 BX2 hxl KT
              cases gb
              · have hf : lowB ⟨y, ed, ⟨pp, pn⟩, ⟨cp, cn⟩, att⟩ ⟨⟨tp, tn⟩, ⟨bp, bn⟩, ⟨ip, inn⟩, true, hi⟩ = false := by show (posB ed ⟨cp, cn⟩ ⟨⟨tp, tn⟩, ⟨bp, bn⟩, ⟨ip, inn⟩, true, hi⟩ && _) = false; rw [EB.out]; rfl
                have hst := Lib.hid (HST.out hf)
                clear hf HST HNX
                go_upto_region 23 with fail
                have e1 := Lib.hid (stk_none hst.out)
                have HR5 : Hid (Blk w4 w.heap.size zpil 53) := (B4.out.block _ (by rw [← HB.out]; exact hWs.out)).trans HKW.out
                obtain ⟨x0, x1, x2, x3, x4, x5, x6, xf⟩ := (show Blk w4 w.heap.size (pil (.slice none 0 0) zPi) 53 from HR5.out).rulesP w4 (Seen.refl _)
                simp only [zPi, zSt] at x0 x1 x2 x3 x4 x5 x6
                have HS5 : Hid (Seen w w4) := HSW.out.trans (show Seen W w4 by unfold Seen; rw [HB.out]; exact B4.out)
                go_wp2_with fail
                have z := ((((((HR5.out.set 0 (.slice none 0 0)).set 1 (.int .i64 0)).set 2 (.int .i64 0)).set 3 (.int .i64 0)).set 4 (.int .i64 0)).set 5 (.int .i64 0)).set 6 (.bool false)
                have z0 := z.cell 0
                have z1 := z.cell 1
                have z2 := z.cell 2
                have z3 := z.cell 3
                have z4 := z.cell 4
                have z5 := z.cell 5
                have z6 := z.cell 6
                refine bodyPost_ret (by simp [results, Tryz.results56, go_sem, z0, z1, z2, z3, z4, z5, z6]; try rfl) rfl ?_
                rw [e1.out.1, e1.out.2]
                refine ⟨.slice none 0 0, rfl, RP.nil _ _, ?_⟩
                exact below_set (below_set (below_set (below_set (below_set (below_set (below_set HS5.out (Nat.le_refl _) _ _) (Nat.le_refl _) _ _) (Nat.le_refl _) _ _) (Nat.le_refl _) _ _) (Nat.le_refl _) _ _) (Nat.le_refl _) _ _) (Nat.le_refl _) _ _
              cases zb
              · have hf : lowB ⟨y, ed, ⟨pp, pn⟩, ⟨cp, cn⟩, att⟩ ⟨⟨tp, tn⟩, ⟨bp, bn⟩, ⟨ip, inn⟩, true, hi⟩ = false := by show (posB ed ⟨cp, cn⟩ ⟨⟨tp, tn⟩, ⟨bp, bn⟩, ⟨ip, inn⟩, true, hi⟩ && _) = false; rw [EB.out]; rfl
                have hst := Lib.hid (HST.out hf)
                clear hf HST HNX
                go_upto_region 23 with fail
                have e1 := Lib.hid (stk_none hst.out)
                have HR5 : Hid (Blk w4 w.heap.size zpil 53) := (B4.out.block _ (by rw [← HB.out]; exact hWs.out)).trans HKW.out
                obtain ⟨x0, x1, x2, x3, x4, x5, x6, xf⟩ := (show Blk w4 w.heap.size (pil (.slice none 0 0) zPi) 53 from HR5.out).rulesP w4 (Seen.refl _)
                simp only [zPi, zSt] at x0 x1 x2 x3 x4 x5 x6
                have HS5 : Hid (Seen w w4) := HSW.out.trans (show Seen W w4 by unfold Seen; rw [HB.out]; exact B4.out)
                go_wp2_with fail
                have z := ((((((HR5.out.set 0 (.slice none 0 0)).set 1 (.int .i64 0)).set 2 (.int .i64 0)).set 3 (.int .i64 0)).set 4 (.int .i64 0)).set 5 (.int .i64 0)).set 6 (.bool false)
                have z0 := z.cell 0
                have z1 := z.cell 1
                have z2 := z.cell 2
                have z3 := z.cell 3
                have z4 := z.cell 4
                have z5 := z.cell 5
                have z6 := z.cell 6
                refine bodyPost_ret (by simp [results, Tryz.results56, go_sem, z0, z1, z2, z3, z4, z5, z6]; try rfl) rfl ?_
                rw [e1.out.1, e1.out.2]
                refine ⟨.slice none 0 0, rfl, RP.nil _ _, ?_⟩
                exact below_set (below_set (below_set (below_set (below_set (below_set (below_set HS5.out (Nat.le_refl _) _ _) (Nat.le_refl _) _ _) (Nat.le_refl _) _ _) (Nat.le_refl _) _ _) (Nat.le_refl _) _ _) (Nat.le_refl _) _ _) (Nat.le_refl _) _ _
              have ez := Lib.hid (EP.out rfl)
              clear EP
              have c0 : w4.cell? ⟨B, 0, none⟩ = some v2 := HP4.out.blk.cell 0
              go_upto_region 25 with (at_builtin; refine wpList_pushP rfl (.tmp 116) (.tmp 118) rfl B v2 y z rfl rfl HP4.out.row HYP.out h4.out ?_; intro g5 cap w5 hown hgrow; have st := pile_step HP4.out (by decide) (Nat.le_refl _) hown hgrow; have ko := grow_other KC4.out (by decide) HP4.out.row hgrow; have q0 : w5.cell? ⟨B, 0, none⟩ = some v2 := st.1.cell 0; have q1 := st.1.free 0; have ST := Lib.hid (And.intro st ko); clear st ko hown hgrow c0 HP4 KC4)
              obtain ⟨v', hv'⟩ : ∃ v', Value.slice (some ⟨g5, 0, none⟩) (y.length + 1) cap = v' := ⟨_, rfl⟩
              rw [hv'] at ST ⊢
              clear hv'
              obtain ⟨V, hV⟩ : ∃ V, V = w5.setCell ⟨B, 0, none⟩ v' := ⟨_, rfl⟩
              have HV := ST.out.1.2
              have KV := ST.out.2.other (p := ⟨B, 0, none⟩) (by simp; omega) v'
              rw [← hV] at HV KV
              have HV2 := Lib.hid HV.1
              have BV2 : Hid (Below B W V) := B4.out.trans HV.2
              have KV2 := Lib.hid KV
              rw [← hV]
              clear hV ST q0 q1
              have rP := HV.1.blk.rulesP
              have rC := KV.rulesC
              have sV := Seen.refl V
              have hVl := HV.1.blk.lt
              simp only [At8, Nat.zero_add] at rC
              simp only at rP
              clear HV KV
              have jn := refJoin_any ⟨cp, cn⟩ ⟨tp, tn⟩
              obtain ⟨r, hr⟩ : ∃ r, joinS ⟨cp, cn⟩ ⟨tp, tn⟩ = r := ⟨_, rfl⟩
              rw [hr] at jn
              have hb : lowB ⟨y, ed, ⟨pp, pn⟩, ⟨cp, cn⟩, att⟩ ⟨⟨tp, tn⟩, ⟨bp, bn⟩, ⟨ip, inn⟩, true, hi⟩ = true := by show (posB ed ⟨cp, cn⟩ ⟨⟨tp, tn⟩, ⟨bp, bn⟩, ⟨ip, inn⟩, true, hi⟩ && (true || _)) = true; rw [EB.out]; rfl
              have hp : lowP ⟨y, ed, ⟨pp, pn⟩, ⟨cp, cn⟩, att⟩ ⟨⟨tp, tn⟩, ⟨bp, bn⟩, ⟨ip, inn⟩, true, hi⟩ = ⟨y ++ [z], ed, ⟨pp, pn⟩, r, att⟩ := by show (⟨y ++ [posN ed ⟨cp, cn⟩ ⟨⟨tp, tn⟩, ⟨bp, bn⟩, ⟨ip, inn⟩, true, hi⟩], ed, ⟨pp, pn⟩, joinS ⟨cp, cn⟩ ⟨tp, tn⟩, att⟩ : Pi) = _; rw [ez.out, hr]
              have HNZ := Lib.hid (HNX.out hb)
              rw [hp] at HNZ
              clear hb hp hr HNX HST EB ez
              go_wp2_with (go_at_call 58; refine (jn _).mono ?_; clear jn; rintro e w6 ⟨rfl, hb6⟩; have s6 : Seen V w6 := sV.next hb6; clear hb6)
              go_roundw
              case rel =>
                have a1 := (HV2.out.blk.seen s6).set 4 (.int .i64 r.p)
                refine ⟨t + 1, by omega, by omega, by go_num, ⟨v', _, HNZ.out, ⟨a1.set 5 (.int .i64 r.n), (HV2.out.row.seen s6).two (HV2.out.blk.seen s6) (by decide) _ _ _ _⟩⟩, ?_⟩
                exact below_set (below_set (BV2.out.trans (s6.mono (by omega))) (Nat.le_refl _) _ _) (Nat.le_refl _) _ _
              case measure => simp [intOf]; omega
          · obtain rfl : t = n := by omega
            have hD : D.take (t - k) = D := List.take_of_length_le (by rw [HDL.out]; exact Nat.le_refl _)
            have e1 : Hid (stkP l o = p ∧ stkB l o = true) := stk_some (by rw [HO.out, ← HRUN.out, hD])
            obtain ⟨va, vc, rfl, -⟩ := hps.slice'
            have HR5 : Hid (Blk wr w.heap.size zpil 53) := (HBL.out.block _ (by rw [← HB.out]; exact hWs.out)).trans HKW.out
            obtain ⟨x0, x1, x2, x3, x4, x5, x6, xf⟩ := (show Blk wr w.heap.size (pil (.slice none 0 0) zPi) 53 from HR5.out).rulesP wr (Seen.refl _)
            simp only [zPi, zSt] at x0 x1 x2 x3 x4 x5 x6
            obtain ⟨a0, a1, a2, a3, a4, a5, a6, af⟩ := hps.blk.rulesP wr (Seen.refl _)
            have HS : Hid (Seen w wr) := HSW.out.trans (show Seen W wr by unfold Seen; rw [HB.out]; exact HBL.out)
            have hb1 : Hid (w.heap.size < B) := by unfold Hid; rw [← HB.out]; exact hWs.out
            clear hD hps hrun hbel
            go_wp2_with fail
            have z := ((((((HR5.out.set 0 (.slice va p.y.length vc)).set 1 (.int .i64 p.edge)).set 2 (.int .i64 p.top.p)).set 3 (.int .i64 p.top.n)).set 4 (.int .i64 p.cur.p)).set 5 (.int .i64 p.cur.n)).set 6 (.bool p.att)
            have z0 := z.cell 0
            have z1 := z.cell 1
            have z2 := z.cell 2
            have z3 := z.cell 3
            have z4 := z.cell 4
            have z5 := z.cell 5
            have z6 := z.cell 6
            refine bodyPost_ret (by simp [results, Tryz.results56, go_sem, z0, z1, z2, z3, z4, z5, z6]; try rfl) rfl ?_
            rw [e1.out.1, e1.out.2]
            refine ⟨.slice va p.y.length vc, rfl, ?_, ?_⟩
            · exact row_more (((((((HP.out.row.far hb1.out _ _).far hb1.out _ _).far hb1.out _ _).far hb1.out _ _).far hb1.out _ _).far hb1.out _ _).far hb1.out _ _) (Nat.le_of_lt hb1.out)
            · exact below_set (below_set (below_set (below_set (below_set (below_set (below_set HS.out (Nat.le_refl _) _ _) (Nat.le_refl _) _ _) (Nat.le_refl _) _ _) (Nat.le_refl _) _ _) (Nat.le_refl _) _ _) (Nat.le_refl _) _ _) (Nat.le_refl _) _ _
end Go.Proofs.YtngeaigkafamiaaGreat

