/- Contract of the method that stacks the next child; no conditions beyond those written in each theorem. -/
import Derived.Test.YtmcjabbfhhdmmaaPLow
import Derived.Deep.DeepCutAuto
namespace Go.Proofs.Ytmcjabbfhhdmmaa
open Go.ChangeShapes Go.WideShapes Go.ChangeAt Go.RowKit
set_option maxRecDepth 100000
set_option linter.unusedVariables false
theorem At8.row {w : World} {B : Nat} {c : Ch} (h : At8 w B 0 c) : At8 w B 0 c := h
set_option maxHeartbeats 2000000 in
theorem add_any (base B : Nat) (v : Value) (p : Pi) (c : Ch) (w : World) (h : PS w base B 35 v p) (hb : base ≤ B) (hl : p.y.length ≤ 100000) :
    Calls Try.prog 11 #[.pointer (some ⟨B, 0, none⟩), chv c] w fun e w' => e = .returned (.bool (addB p c)) ∧ (addB p c = true → ∃ v', PS w' base B 35 v' (addP p c)) ∧ Below base w w' := by
  have hlt := h.blk.lt
  obtain ⟨W, hW⟩ : ∃ W, W = w.alloc (.cells (chl c).toArray 32) := ⟨_, rfl⟩
  have sW : Seen w W := by rw [hW]; exact (Seen.refl w).alloc _
  have kW : Blk W w.heap.size (chl c) 32 := by rw [hW]; exact Blk.new w _ _
  have bW : Hid (Below base w W) := (by rw [hW]; exact (Below.refl base w).alloc (by omega) _ : Below base w W)
  have HP := Lib.hid (h.seen sW)
  have HK := Lib.hid kW
  have rP := HP.out.blk.rulesP
  have rC := HK.out.rulesC
  simp only [At8, Nat.zero_add] at rC
  have hWs : Hid (base ≤ W.heap.size) := by rw [hW]; unfold Hid; simp; omega
  have HL : Hid (p.y.length ≤ 1000000) := Nat.le_trans hl (by decide)
  have hne : w.heap.size ≠ B := by omega
  have at1 := addAtTop_any base B v p c W HP.out hb hl
  have lo1 := below_any base B v p c W HP.out
  have jn := join_any p.cur c.top
  have sr := Seen.refl W
  have EA : Hid (addB p c = (if p.att then topB c else lowB p c) ∧ addP p c = (if p.att then topP p c else lowP p c)) := ⟨rfl, rfl⟩
  clear h kW sW hl
  generalize addB p c = ab at EA ⊢
  generalize addP p c = ap at EA ⊢
  have EL : Hid (lowB p c = (posB p.edge p.cur c && (c.thr || sumB [posN p.edge p.cur c, c.high])) ∧ lowP p c = (if c.thr then ⟨p.y ++ [posN p.edge p.cur c], p.edge, p.top, joinS p.cur c.top, p.att⟩ else ⟨p.y ++ [posN p.edge p.cur c], sumN [posN p.edge p.cur c, c.high], p.top, c.bot, p.att⟩)) := ⟨rfl, rfl⟩
  generalize lowB p c = lb at EA EL
  generalize lowP p c = lp at EA EL
  generalize posB p.edge p.cur c = pb at EL lo1
  generalize posN p.edge p.cur c = z at EL lo1
  generalize topB c = tb at EA at1
  generalize topP p c = tp' at EA at1
  obtain ⟨⟨tp, tn⟩, ⟨bp, bn⟩, ⟨ip, inn⟩, thr, hi⟩ := c
  obtain ⟨y, ed, ⟨pp, pn⟩, ⟨cp, cn⟩, att⟩ := p
  simp only [chl] at hW
  simp only at HL jn EA EL at1 lo1 rP rC
  obtain ⟨r, hr⟩ : ∃ r, joinS ⟨cp, cn⟩ ⟨tp, tn⟩ = r := ⟨_, rfl⟩
  rw [hr] at jn EL
  clear hr
  go_enter Try.func11, Try.ntmps11
  go_upto_region 1 with fail
  rw [← hW]
  clear hW
  cases att
  · obtain ⟨rfl, rfl⟩ : ab = lb ∧ ap = lp := EA.out
    clear EA at1
    go_upto_region 4 with (go_at_call 18; refine lo1.mono ?_; clear lo1; rintro e w1 ⟨rfl, hs1⟩; have S1 := Lib.hid hs1; clear hs1)
    have HP1 := Lib.hid (HP.out.seen S1.out)
    have HK1 := Lib.hid (HK.out.seen S1.out)
    have bW1 : Hid (Below base w w1) := bW.out.trans (S1.out.mono hWs.out)
    have hW1 : Hid (base ≤ w1.heap.size) := Nat.le_trans hWs.out S1.out.size
    clear rP rC sr HP HK bW hWs S1
    cases pb
    · obtain rfl : ab = false := EL.out.1
      clear EL
      go_wp2_with fail
      go_ret
      exact ⟨rfl, nofun, bW1.out⟩
    · have c0 : w1.cell? ⟨B, 0, none⟩ = some v := HP1.out.blk.cell 0
      go_upto_region 7 with (at_builtin; refine wpList_pushI rfl (.tmp 26) (.tmp 28) rfl base v y z rfl rfl HP1.out.row HL.out hW1.out ?_; intro g cap w2 hown hgrow; have st := pile_step HP1.out (by decide) hb hown hgrow; have ko := grow_other HK1.out (by decide) HP1.out.row hgrow; have q0 : w2.cell? ⟨B, 0, none⟩ = some v := st.1.cell 0; have q1 := st.1.free 0; have ST := Lib.hid (And.intro st ko); clear st ko hown hgrow c0 HP1 HK1)
      obtain ⟨v', hv'⟩ : ∃ v', Value.slice (some ⟨g, 0, none⟩) (y.length + 1) cap = v' := ⟨_, rfl⟩
      rw [hv'] at ST ⊢
      clear hv'
      obtain ⟨V, hV⟩ : ∃ V, V = w2.setCell ⟨B, 0, none⟩ v' := ⟨_, rfl⟩
      have HV := ST.out.1.2
      have KV := ST.out.2.other (p := ⟨B, 0, none⟩) (by simp; omega) v'
      rw [← hV] at HV KV
      have HV2 := Lib.hid HV.1
      have BV2 : Hid (Below base w V) := bW1.out.trans HV.2
      have KV2 := Lib.hid KV
      rw [← hV]
      clear hV ST q0 q1
      have rP := HV.1.blk.rulesP
      have rC := KV.rulesC
      have sV := Seen.refl V
      have dV := (Seen.refl V).drew
      have hVl := HV.1.blk.lt
      simp only [At8, Nat.zero_add] at rC
      simp only at rP
      clear HV KV bW1
      cases thr
      · simp only [Bool.false_or, Bool.true_and, Bool.false_eq_true, if_false] at EL
        obtain ⟨m, hm⟩ : ∃ m, sumN [z, hi] = m := ⟨_, rfl⟩
        obtain ⟨mb, hmb⟩ : ∃ mb, sumB [z, hi] = mb := ⟨_, rfl⟩
        have sm : ∀ W, _ := fun W => sum_any _ 2 2 [z, hi] _ (zs_new W z hi 2) (by decide)
        rw [hm, hmb] at EL
        rw [hm, hmb] at sm
        clear hm hmb
        obtain ⟨rfl, rfl⟩ : ab = mb ∧ ap = _ := EL.out
        clear EL
        go_upto_region 11 with (go_at_call 20; refine (sm V).mono ?_; rintro e w3 ⟨rfl, rfl⟩)
        obtain ⟨U, hU⟩ : ∃ U, U = (V.setCell ⟨B, 1, none⟩ (.int .i64 m)).alloc (.cells #[.int .i64 z, .int .i64 hi] 2) := ⟨_, rfl⟩
        rw [← hU]
        have P0 : PS (V.setCell ⟨B, 1, none⟩ (.int .i64 m)) base B 35 v' ⟨y ++ [z], m, ⟨pp, pn⟩, ⟨cp, cn⟩, false⟩ := ⟨HV2.out.blk.set 1 _, HV2.out.row.other HV2.out.blk (by decide) _ _⟩
        have s3 : Seen (V.setCell ⟨B, 1, none⟩ (.int .i64 m)) U := by rw [hU]; exact (Seen.refl _).alloc _
        have PU : PS U base B 35 v' ⟨y ++ [z], m, ⟨pp, pn⟩, ⟨cp, cn⟩, false⟩ := P0.seen s3
        have KU : Blk U w.heap.size (chl ⟨⟨tp, tn⟩, ⟨bp, bn⟩, ⟨ip, inn⟩, false, hi⟩) 32 := by
          rw [hU]
          exact (KV2.out.other (by simp; omega) _).alloc _
        have BU : Below base w U := (below_set BV2.out hb 1 (.int .i64 m)).trans (s3.mono (by simp [World.setCell]; omega))
        have HPU := Lib.hid PU
        have HBU := Lib.hid BU
        have rP := PU.blk.rulesP U (Seen.refl _)
        have rC := KU.child
        simp only [At8, Nat.zero_add] at rC
        simp only at rP
        clear hU s3 P0 sV dV HV2 KV2 BV2 sm PU KU BU
        go_wp2_with fail
        go_ret
        exact ⟨rfl, fun _ => ⟨v', ⟨(HPU.out.blk.set 4 _).set 5 _, HPU.out.row.two HPU.out.blk (by decide) _ _ _ _⟩⟩, below_set (below_set HBU.out hb _ _) hb _ _⟩
      · simp only [Bool.true_or, Bool.true_and, if_true] at EL
        go_upto_region 8 with fail
        go_cut [] (fun wx => (PS wx base B 35 v' ⟨y ++ [z], ed, ⟨pp, pn⟩, r, false⟩ ∧ Below base w wx : Prop))
        case first =>
          go_region_with (go_at_call 19; refine (jn _).mono ?_; rintro e w2 ⟨rfl, hb2⟩; have s2 : Seen V w2 := dV.next hb2; clear hb2)
          all_goals
            go_wp2_with fail
            go_meet
            have a1 := (HV2.out.blk.seen s2).set 4 (.int .i64 r.p)
            refine ⟨⟨a1.set 5 (.int .i64 r.n), (HV2.out.row.seen s2).two (HV2.out.blk.seen s2) (by decide) _ _ _ _⟩, ?_⟩
            exact below_set (below_set (BV2.out.trans (s2.mono (by omega))) hb _ _) hb _ _
        obtain ⟨P2, B2⟩ := hcut
        have HP2 := Lib.hid P2
        have HB2 := Lib.hid B2
        clear rP rC sV dV HV2 KV2 P2 B2 jn
        go_wp2_with fail
        go_ret
        exact ⟨ret_bool EL.out.1.symm, fun _ => ⟨v', by rw [EL.out.2]; exact HP2.out⟩, HB2.out⟩
  · obtain ⟨rfl, rfl⟩ : ab = tb ∧ ap = tp' := EA.out
    clear EA EL lo1
    go_wp2_with (go_at_call 17; refine at1.mono ?_; clear at1; rintro e w1 ⟨rfl, hx, hbl⟩; have H1 := Lib.hid (And.intro hx hbl); clear hx hbl)
    go_ret
    exact ⟨rfl, fun _ => H1.out.1, bW.out.trans H1.out.2⟩
end Go.Proofs.Ytmcjabbfhhdmmaa
