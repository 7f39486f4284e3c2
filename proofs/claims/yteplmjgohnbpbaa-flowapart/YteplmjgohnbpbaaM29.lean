/- Texts of the proof, merged: PLow, PAdd, PStack. -/
import Derived.Test.YteplmjgohnbpbaaM28
import Derived.Deep.DeepCutAuto
import Derived.OwnWalk
/- Contracts of the three methods of a pile: a child at the top, a child below, a child; no conditions beyond those written in each theorem. -/
namespace Go.Proofs.Yteplmjgohnbpbaa
open Go.ChangeShapes Go.WideShapes Go.ChangeAt Go.RowKit
set_option maxRecDepth 100000
set_option linter.unusedVariables false
set_option maxHeartbeats 2000000 in
theorem below_any (base B : Nat) (v : Value) (p : Pi) (c : Ch) (w : World) (h : PS w base B 51 v p) :
    Calls Try.prog 89 #[.pointer (some ⟨B, 0, none⟩), chv c] w fun e w' => e = .returned (.tuple #[.int .i64 (posN p.edge p.cur c), .bool (posB p.edge p.cur c)]) ∧ Seen w w' := by
  have hlt := h.blk.lt
  obtain ⟨W, hW⟩ : ∃ W, W = (w.alloc (.cells (chl c).toArray 45)).alloc (.cells #[.int .i64 c.top.p, .int .i64 c.top.n] 43) := ⟨_, rfl⟩
  have sW : Seen w W := by rw [hW]; exact ((Seen.refl w).alloc _).alloc _
  have kC : Blk W w.heap.size (chl c) 45 := by rw [hW]; exact (Blk.new w _ _).alloc _
  have c0 := (Blk.new w (chl c) 45).alloc (.cells #[.int .i64 0, .int .i64 0] 43) |>.child
  have kT : Blk W (w.heap.size + 1) [.int .i64 c.top.p, .int .i64 c.top.n] 43 := by rw [hW]; simpa using Blk.new (w.alloc (.cells (chl c).toArray 45)) [.int .i64 c.top.p, .int .i64 c.top.n] 43
  have kP : Blk W B (pil v p) 51 := h.blk.seen sW
  obtain ⟨g, hg⟩ : ∃ g, gapN p.cur c = g := ⟨_, rfl⟩
  obtain ⟨gb, hgb⟩ : ∃ gb, gapB p.cur c = gb := ⟨_, rfl⟩
  obtain ⟨j, hj⟩ : ∃ j, joinS p.cur (byS c) = j := ⟨_, rfl⟩
  have jn := join_any p.cur (byS c)
  have vn := value_any j
  rw [hj] at jn
  have ev : valN j = g ∧ valB j = gb := by rw [← hj, ← hg, ← hgb]; exact ⟨rfl, rfl⟩
  rw [ev.1, ev.2] at vn
  have EG : Hid (posN p.edge p.cur c = (if gb then sumN [p.edge, g] else 0) ∧ posB p.edge p.cur c = (gb && sumB [p.edge, g]) ∧ True) := by
    unfold Hid posN posB; rw [hg, hgb]; exact ⟨rfl, rfl, trivial⟩
  have HS := Lib.hid sW
  have KC := Lib.hid kC
  have KT := Lib.hid kT
  have KP := Lib.hid kP
  clear h ev hg hgb hj kT kP kC
  obtain ⟨⟨tp, tn⟩, ⟨bp, bn⟩, ⟨ip, inn⟩, thr, hi⟩ := c
  obtain ⟨y, ed, ⟨pp, pn⟩, ⟨cp, cn⟩, att⟩ := p
  simp only [chl] at hW
  go_enter Try.func89, Try.ntmps89
  go_upto_region 2 with fail
  rw [← hW]
  clear hW c0
  have rC := KC.out.child
  simp only [At8, Nat.zero_add] at rC
  cases thr
  · have EU : Hid (byS ⟨⟨tp, tn⟩, ⟨bp, bn⟩, ⟨ip, inn⟩, false, hi⟩ = ⟨tp, tn⟩) := rfl
    rw [EU.out] at jn
    have t0 := KT.out.cell 0
    have t1 := KT.out.cell 1
    have tf := KT.out.free
    simp only [List.getElem?_cons_zero, List.getElem?_cons_succ] at t0 t1
    go_upto_region 4 with fail
    clear t0 t1 tf rC
    have KT2 := KT.out
    have KP2 := KP.out
    have SV := HS
    have rT := KT2.rules2
    have rP := KP2.rulesP
    have sV := Seen.refl W
    clear KT2 KP2
    simp only at jn vn rP
    refine wp_region_quiet (C := Seen W) (by kernel_rfl) (by kernel_rfl) (Seen.drew sV) ?_
    simp only []
    repeat (first
      | go_big_quiet_skip
      | (go_big_quiet_want
         apply Exists.intro
         refine ⟨fun w1 h1 => ?_, ?_⟩
         focus
           go_simp
           first | done | rfl | (go_at_call 69; with_reducible exact quiet_call h1 (jn _)) | (go_at_call 75; with_reducible exact quiet_call h1 (vn _))
         (try simp only [Act.put, List.setIfInBounds_toArray, List.set_cons_zero, List.set_cons_succ])
         go_big_quiet_on))
    refine wpQuiet_nil ?_
    intro w2 h2
    clear rT
    obtain ⟨-, e1, -⟩ := rP w2 h2
    have HS2 := Lib.hid (SV.out.trans h2)
    clear rP sV h2 jn vn
    cases gb
    · simp only [Bool.false_eq_true, if_false, Bool.false_and] at EG
      go_wp2_with fail
      go_ret2
      exact ⟨by rw [EG.out.1, EG.out.2.1]; rfl, HS2.out⟩
    · simp only [if_true, Bool.true_and] at EG
      go_wp2_with (go_at_call 87; refine (sum_any _ _ _ [ed, g] _ (zs_new w2 ed g 2) (by decide)).mono ?_; rintro e w' ⟨rfl, rfl⟩)
      go_ret2
      exact ⟨by rw [EG.out.1, EG.out.2.1]; rfl, HS2.out.alloc _⟩
  · have EU : Hid (byS ⟨⟨tp, tn⟩, ⟨bp, bn⟩, ⟨ip, inn⟩, true, hi⟩ = ⟨ip, inn⟩) := rfl
    rw [EU.out] at jn
    have t0 := KT.out.cell 0
    have t1 := KT.out.cell 1
    have tf := KT.out.free
    simp only [List.getElem?_cons_zero, List.getElem?_cons_succ] at t0 t1
    go_upto_region 4 with fail
    clear t0 t1 tf rC
    obtain ⟨V, hV⟩ : ∃ V, V = (W.setCell ⟨w.heap.size + 1, 0, none⟩ (.int .i64 ip)).setCell ⟨w.heap.size + 1, 1, none⟩ (.int .i64 inn) := ⟨_, rfl⟩
    rw [← hV]
    have KT2 : Blk V (w.heap.size + 1) [.int .i64 ip, .int .i64 inn] 43 := by rw [hV]; exact (KT.out.set 0 _).set 1 _
    have KP2 := (KP.out.other (p := ⟨w.heap.size + 1, 0, none⟩) (by simp; omega) (.int .i64 ip)).other (p := ⟨w.heap.size + 1, 1, none⟩) (by simp; omega) (.int .i64 inn)
    rw [← hV] at KP2
    have SV : Hid (Seen w V) := by rw [hV]; exact ((HS.out).setCell (by simp) _).setCell (by simp) _
    clear hV
    have rT := KT2.rules2
    have rP := KP2.rulesP
    have sV := Seen.refl V
    clear KT2 KP2
    simp only at jn vn rP
    refine wp_region_quiet (C := Seen V) (by kernel_rfl) (by kernel_rfl) (Seen.drew sV) ?_
    simp only []
    repeat (first
      | go_big_quiet_skip
      | (go_big_quiet_want
         apply Exists.intro
         refine ⟨fun w1 h1 => ?_, ?_⟩
         focus
           go_simp
           first | done | rfl | (go_at_call 69; with_reducible exact quiet_call h1 (jn _)) | (go_at_call 75; with_reducible exact quiet_call h1 (vn _))
         (try simp only [Act.put, List.setIfInBounds_toArray, List.set_cons_zero, List.set_cons_succ])
         go_big_quiet_on))
    refine wpQuiet_nil ?_
    intro w2 h2
    clear rT
    obtain ⟨-, e1, -⟩ := rP w2 h2
    have HS2 := Lib.hid (SV.out.trans h2)
    clear rP sV h2 jn vn
    cases gb
    · simp only [Bool.false_eq_true, if_false, Bool.false_and] at EG
      go_wp2_with fail
      go_ret2
      exact ⟨by rw [EG.out.1, EG.out.2.1]; rfl, HS2.out⟩
    · simp only [if_true, Bool.true_and] at EG
      go_wp2_with (go_at_call 87; refine (sum_any _ _ _ [ed, g] _ (zs_new w2 ed g 2) (by decide)).mono ?_; rintro e w' ⟨rfl, rfl⟩)
      go_ret2
      exact ⟨by rw [EG.out.1, EG.out.2.1]; rfl, HS2.out.alloc _⟩
end Go.Proofs.Yteplmjgohnbpbaa

/- Contract of the method that stacks the next child; no conditions beyond those written in each theorem. -/
namespace Go.Proofs.Yteplmjgohnbpbaa
open Go.ChangeShapes Go.WideShapes Go.ChangeAt Go.RowKit
set_option maxRecDepth 100000
set_option linter.unusedVariables false
theorem At8.row {w : World} {B : Nat} {c : Ch} (h : At8 w B 0 c) : At8 w B 0 c := h
set_option maxHeartbeats 2000000 in
theorem add_any (base B : Nat) (v : Value) (p : Pi) (c : Ch) (w : World) (h : PS w base B 51 v p) (hb : base ≤ B) (hl : p.y.length ≤ 100000) :
    Calls Try.prog 74 #[.pointer (some ⟨B, 0, none⟩), chv c] w fun e w' => e = .returned (.bool (addB p c)) ∧ (addB p c = true → ∃ v', PS w' base B 51 v' (addP p c)) ∧ Below base w w' := by
  have hlt := h.blk.lt
  obtain ⟨W, hW⟩ : ∃ W, W = w.alloc (.cells (chl c).toArray 45) := ⟨_, rfl⟩
  have sW : Seen w W := by rw [hW]; exact (Seen.refl w).alloc _
  have kW : Blk W w.heap.size (chl c) 45 := by rw [hW]; exact Blk.new w _ _
  have bW : Hid (Below base w W) := (by rw [hW]; exact (Below.refl base w).alloc (by omega) _ : Below base w W)
  have HP := Lib.hid (h.seen sW)
  have HK := Lib.hid kW
  have rP := HP.out.blk.rulesP
  have rC := HK.out.rulesC
  simp only [At8, Nat.zero_add] at rC
  have hWs : Hid (base ≤ W.heap.size) := by rw [hW]; unfold Hid; simp; omega
  have HL : Hid (p.y.length ≤ 1000000) := Nat.le_trans hl (by decide)
  have hne : w.heap.size ≠ B := by omega
  have at1 := addAtTop_any base B v p c W HP.out hb hl
  have lo1 := below_any base B v p c W HP.out
  have jn := join_any p.cur c.top
  have sr := Seen.refl W
  have EA : Hid (addB p c = (if p.att then topB c else lowB p c) ∧ addP p c = (if p.att then topP p c else lowP p c)) := ⟨rfl, rfl⟩
  clear h kW sW hl
  generalize addB p c = ab at EA ⊢
  generalize addP p c = ap at EA ⊢
  have EL : Hid (lowB p c = (posB p.edge p.cur c && (c.thr || sumB [posN p.edge p.cur c, c.high])) ∧ lowP p c = (if c.thr then ⟨p.y ++ [posN p.edge p.cur c], p.edge, p.top, joinS p.cur c.top, p.att⟩ else ⟨p.y ++ [posN p.edge p.cur c], sumN [posN p.edge p.cur c, c.high], p.top, c.bot, p.att⟩)) := ⟨rfl, rfl⟩
  generalize lowB p c = lb at EA EL
  generalize lowP p c = lp at EA EL
  generalize posB p.edge p.cur c = pb at EL lo1
  generalize posN p.edge p.cur c = z at EL lo1
  generalize topB c = tb at EA at1
  generalize topP p c = tp' at EA at1
  obtain ⟨⟨tp, tn⟩, ⟨bp, bn⟩, ⟨ip, inn⟩, thr, hi⟩ := c
  obtain ⟨y, ed, ⟨pp, pn⟩, ⟨cp, cn⟩, att⟩ := p
  simp only [chl] at hW
  simp only at HL jn EA EL at1 lo1 rP rC
  obtain ⟨r, hr⟩ : ∃ r, joinS ⟨cp, cn⟩ ⟨tp, tn⟩ = r := ⟨_, rfl⟩
  rw [hr] at jn EL
  clear hr
  go_enter Try.func74, Try.ntmps74
  go_upto_region 1 with fail
  rw [← hW]
  clear hW
  cases att
  · obtain ⟨rfl, rfl⟩ : ab = lb ∧ ap = lp := EA.out
    clear EA at1
    go_upto_region 4 with (go_at_call 89; refine lo1.mono ?_; clear lo1; rintro e w1 ⟨rfl, hs1⟩; have S1 := Lib.hid hs1; clear hs1)
    have HP1 := Lib.hid (HP.out.seen S1.out)
    have HK1 := Lib.hid (HK.out.seen S1.out)
    have bW1 : Hid (Below base w w1) := bW.out.trans (S1.out.mono hWs.out)
    have hW1 : Hid (base ≤ w1.heap.size) := Nat.le_trans hWs.out S1.out.size
    clear rP rC sr HP HK bW hWs S1
    cases pb
    · obtain rfl : ab = false := EL.out.1
      clear EL
      go_wp2_with fail
      go_ret
      exact ⟨rfl, nofun, bW1.out⟩
    · have c0 : w1.cell? ⟨B, 0, none⟩ = some v := HP1.out.blk.cell 0
      go_upto_region 7 with (at_builtin; refine wpList_pushP rfl (.tmp 26) (.tmp 28) rfl base v y z rfl rfl HP1.out.row HL.out hW1.out ?_; intro g cap w2 hown hgrow; have st := pile_step HP1.out (by decide) hb hown hgrow; have ko := grow_other HK1.out (by decide) HP1.out.row hgrow; have q0 : w2.cell? ⟨B, 0, none⟩ = some v := st.1.cell 0; have q1 := st.1.free 0; have ST := Lib.hid (And.intro st ko); clear st ko hown hgrow c0 HP1 HK1)
      obtain ⟨v', hv'⟩ : ∃ v', Value.slice (some ⟨g, 0, none⟩) (y.length + 1) cap = v' := ⟨_, rfl⟩
      rw [hv'] at ST ⊢
      clear hv'
      obtain ⟨V, hV⟩ : ∃ V, V = w2.setCell ⟨B, 0, none⟩ v' := ⟨_, rfl⟩
      have HV := ST.out.1.2
      have KV := ST.out.2.other (p := ⟨B, 0, none⟩) (by simp; omega) v'
      rw [← hV] at HV KV
      have HV2 := Lib.hid HV.1
      have BV2 : Hid (Below base w V) := bW1.out.trans HV.2
      have KV2 := Lib.hid KV
      rw [← hV]
      clear hV ST q0 q1
      have rP := HV.1.blk.rulesP
      have rC := KV.rulesC
      have sV := Seen.refl V
      have dV := (Seen.refl V).drew
      have hVl := HV.1.blk.lt
      simp only [At8, Nat.zero_add] at rC
      simp only at rP
      clear HV KV bW1
      cases thr
      · simp only [Bool.false_or, Bool.true_and, Bool.false_eq_true, if_false] at EL
        obtain ⟨m, hm⟩ : ∃ m, sumN [z, hi] = m := ⟨_, rfl⟩
        obtain ⟨mb, hmb⟩ : ∃ mb, sumB [z, hi] = mb := ⟨_, rfl⟩
        have sm : ∀ W, _ := fun W => sum_any _ 2 2 [z, hi] _ (zs_new W z hi 2) (by decide)
        rw [hm, hmb] at EL
        rw [hm, hmb] at sm
        clear hm hmb
        obtain ⟨rfl, rfl⟩ : ab = mb ∧ ap = _ := EL.out
        clear EL
        go_upto_region 11 with (go_at_call 87; refine (sm V).mono ?_; rintro e w3 ⟨rfl, rfl⟩)
        obtain ⟨U, hU⟩ : ∃ U, U = (V.setCell ⟨B, 1, none⟩ (.int .i64 m)).alloc (.cells #[.int .i64 z, .int .i64 hi] 2) := ⟨_, rfl⟩
        rw [← hU]
        have P0 : PS (V.setCell ⟨B, 1, none⟩ (.int .i64 m)) base B 51 v' ⟨y ++ [z], m, ⟨pp, pn⟩, ⟨cp, cn⟩, false⟩ := ⟨HV2.out.blk.set 1 _, HV2.out.row.other HV2.out.blk (by decide) _ _⟩
        have s3 : Seen (V.setCell ⟨B, 1, none⟩ (.int .i64 m)) U := by rw [hU]; exact (Seen.refl _).alloc _
        have PU : PS U base B 51 v' ⟨y ++ [z], m, ⟨pp, pn⟩, ⟨cp, cn⟩, false⟩ := P0.seen s3
        have KU : Blk U w.heap.size (chl ⟨⟨tp, tn⟩, ⟨bp, bn⟩, ⟨ip, inn⟩, false, hi⟩) 45 := by
          rw [hU]
          exact (KV2.out.other (by simp; omega) _).alloc _
        have BU : Below base w U := (below_set BV2.out hb 1 (.int .i64 m)).trans (s3.mono (by simp [World.setCell]; omega))
        have HPU := Lib.hid PU
        have HBU := Lib.hid BU
        have rP := PU.blk.rulesP U (Seen.refl _)
        have rC := KU.child
        simp only [At8, Nat.zero_add] at rC
        simp only at rP
        clear hU s3 P0 sV dV HV2 KV2 BV2 sm PU KU BU
        go_wp2_with fail
        go_ret
        exact ⟨rfl, fun _ => ⟨v', ⟨(HPU.out.blk.set 4 _).set 5 _, HPU.out.row.two HPU.out.blk (by decide) _ _ _ _⟩⟩, below_set (below_set HBU.out hb _ _) hb _ _⟩
      · simp only [Bool.true_or, Bool.true_and, if_true] at EL
        go_upto_region 8 with fail
        go_cut [] (fun wx => (PS wx base B 51 v' ⟨y ++ [z], ed, ⟨pp, pn⟩, r, false⟩ ∧ Below base w wx : Prop))
        case first =>
          go_region_with (go_at_call 69; refine (jn _).mono ?_; rintro e w2 ⟨rfl, hb2⟩; have s2 : Seen V w2 := dV.next hb2; clear hb2)
          all_goals
            go_wp2_with fail
            go_meet
            have a1 := (HV2.out.blk.seen s2).set 4 (.int .i64 r.p)
            refine ⟨⟨a1.set 5 (.int .i64 r.n), (HV2.out.row.seen s2).two (HV2.out.blk.seen s2) (by decide) _ _ _ _⟩, ?_⟩
            exact below_set (below_set (BV2.out.trans (s2.mono (by omega))) hb _ _) hb _ _
        obtain ⟨P2, B2⟩ := hcut
        have HP2 := Lib.hid P2
        have HB2 := Lib.hid B2
        clear rP rC sV dV HV2 KV2 P2 B2 jn
        go_wp2_with fail
        go_ret
        exact ⟨ret_bool EL.out.1.symm, fun _ => ⟨v', by rw [EL.out.2]; exact HP2.out⟩, HB2.out⟩
  · obtain ⟨rfl, rfl⟩ : ab = tb ∧ ap = tp' := EA.out
    clear EA EL lo1
    go_wp2_with (go_at_call 88; refine at1.mono ?_; clear at1; rintro e w1 ⟨rfl, hx, hbl⟩; have H1 := Lib.hid (And.intro hx hbl); clear hx hbl)
    go_ret
    exact ⟨rfl, fun _ => H1.out.1, bW.out.trans H1.out.2⟩
end Go.Proofs.Yteplmjgohnbpbaa

/- Contract of Stack; no conditions beyond those written in each theorem. -/
namespace Go.Proofs.Yteplmjgohnbpbaa
open Go.ChangeShapes Go.WideShapes Go.ChangeAt Go.RowKit
set_option maxRecDepth 100000
set_option linter.unusedVariables false
abbrev zpil : List Value := [.slice none 0 0, .int .i64 0, .int .i64 0, .int .i64 0, .int .i64 0, .int .i64 0, .bool false]
/-- The answer is a pile and whether all fits; its row is new memory; nothing old has turned. -/
def StkAns (w : World) (q : Pi) (b : Bool) (e : Ending) (w' : World) : Prop := ∃ v, e = .returned (.tuple #[piv v q, .bool b]) ∧ RP w' w.heap.size v q.y ∧ Seen w w'
theorem PS.slice' {w : World} {base B : Nat} {t : TypeId} {v : Value} {p : Pi} (h : PS w base B t v p) : ∃ a c, v = .slice a p.y.length c ∧ True := by
  obtain ⟨a, c, h1, -⟩ := h.row.slice
  exact ⟨a, c, h1, trivial⟩
theorem RP.far {w : World} {base : Nat} {v : Value} {xs : List Int} (hr : RP w base v xs) {B : Nat} (hB : B < base) (o : Nat) (u : Value) : RP (w.setCell ⟨B, o, none⟩ u) base v xs :=
  ownsRow_keeps hr (fun g hg => Below.heap_setCell w _ _ g (fun e => by have := (hr.lt g hg).1; simp at e; omega))
theorem CS.len {w : World} {a : Option Addr} {n : Nat} {l : List Ch} (h : CS w a n l) : l.length = n := h.1
set_option maxHeartbeats 4000000 in
theorem stack_any (a : Option Addr) (n c : Nat) (l : List Ch) (o : Bool) (w : World) (h : CS w a n l) (hn : n ≤ 1000) :
    Calls Try.prog 49 #[.slice a n c, .bool o] w (StkAns w (stkP l o) (stkB l o)) := by
  obtain ⟨i0, hi, hz0, hz1, hz2⟩ := info_parts info2z
  have hlen := h.len
  have HC := Lib.hid h
  clear h
  go_enter Try.func49, Try.ntmps49
  go_upto_region 1 with fail
  obtain ⟨W, hW⟩ : ∃ W, W = w.alloc (.cells zpil.toArray 51) := ⟨_, rfl⟩
  have kW : Blk W w.heap.size zpil 51 := by rw [hW]; exact Blk.new w _ _
  have sW : Seen w W := by rw [hW]; exact (Seen.refl w).alloc _
  have HWS : Hid (W.heap.size = w.heap.size + 1) := by rw [hW]; simp [Hid]
  rw [← hW]
  clear hW
  go_upto_region 2 with (at_make; refine wpList_make_own _ rfl _ _ 49 rfl W.heap.size 2 i0 (.int .i64 0) 1 Try.underlying49 hi hz0 hz1 .i64 .i64 _ n rfl rfl rfl (by rw [hz2]; omega) (by unfold maxLen; omega) (Nat.le_refl _) ?_; intro w0 hown0 hgrow0)
  obtain ⟨W1, hW1⟩ : ∃ W1, W1 = w0.alloc (.cells #[.slice (some ⟨W.heap.size, 0, none⟩) 0 n, .int .i64 0, .int .i64 0, .int .i64 0, .int .i64 0, .int .i64 0, .bool o] 51) := ⟨_, rfl⟩
  obtain ⟨B, hB⟩ : ∃ B, w0.heap.size = B := ⟨_, rfl⟩
  have kB : Blk W1 B (pil (.slice (some ⟨W.heap.size, 0, none⟩) 0 n) (openP o)) 51 := by rw [hW1, ← hB]; exact Blk.new w0 _ _
  have hbB : W.heap.size ≤ B := by rw [← hB]; exact hgrow0.size
  have bW1 : Below W.heap.size W W1 := by rw [hW1]; exact ((Below.refl _ W).grown hgrow0 (Nat.le_refl _) (fun g hg => by cases hg)).alloc hgrow0.size _
  have pW1 : PS W1 W.heap.size B 51 (.slice (some ⟨W.heap.size, 0, none⟩) 0 n) (openP o) := ⟨kB, by rw [hW1]; exact World.ownsRow.alloc hown0 _⟩
  rw [← hW1, hB]
  have HC1 := Lib.hid (HC.out.seen sW)
  have HP1 := Lib.hid pW1
  have HW1 := Lib.hid bW1
  have HKW := Lib.hid kW
  have HSW := Lib.hid sW
  have hb1 : Hid (w.heap.size < W.heap.size) := by have := HWS.out; unfold Hid; omega
  clear HWS
  clear hW1 kB pW1 bW1 hown0 hgrow0 kW sW hi hz0 hz1 hz2 HC hB
  go_wp2_with fail
  go_loopw [16] (fun i wr => ∃ k : Nat, k ≤ n ∧ i = .int .i64 k ∧ (∃ v q, runP (openP o) (l.take k) = some q ∧ PS wr W.heap.size B 51 v q) ∧ Below W.heap.size W wr) (fun i _ => n - (intOf i).toNat)
  case atStart => exact ⟨0, Nat.zero_le _, rfl, ⟨_, _, rfl, HP1.out⟩, HW1.out⟩
  case round =>
    clear HP1
    obtain ⟨k, hk, rfl, ⟨v, q, hq, hp⟩, hbel⟩ := hrel
    have HQ := Lib.hid hq
    have HP := Lib.hid hp
    have HB := Lib.hid hbel
    have HR : Hid (Blk wr w.heap.size zpil 51) := (hbel.block _ hb1.out).trans HKW.out
    have HS : Hid (Seen w wr) := HSW.out.trans hbel
    clear hq hbel
    obtain ⟨va, vc, rfl, -⟩ := hp.slice'
    have rP := HP.out.blk.rulesP
    have rR := (show Blk wr w.heap.size (pil (.slice none 0 0) zPi) 51 from HR.out).rulesP
    simp only [zPi, zSt] at rR
    by_cases hkn : k < n
    · obtain ⟨b, off, rfl, hats⟩ := CS.ats (HC1.out.seen HB.out) (show 0 < n by omega)
      have hat := hats k hkn
      clear hats
      unfold At8 at hat
      obtain ⟨x0, x1, x2, x3, x4, x5, x6, x7⟩ := hat
      have hyl : q.y.length ≤ 100000 := by have := runP_len HQ.out; simp [openP] at this; omega
      have HL := Lib.hid hyl
      clear rP rR hyl
      have hkl : k < l.length := by omega
      have ho : Hid (addB q (cat l k) = true → runP (openP o) (l.take (k + 1)) = some (addP q (cat l k))) := fun h => runP_next hkl HQ.out h
      have hs : Hid (addB q (cat l k) = false → stkP l o = zPi ∧ stkB l o = false) := fun h => stk_none (runP_stop hkl HQ.out h)
      clear hkl
      obtain ⟨cc, hcc⟩ : ∃ cc, cat l k = cc := ⟨_, rfl⟩
      rw [hcc] at ho hs x0 x1 x2 x3 x4 x5 x6 x7
      clear hcc
      obtain ⟨X, hX⟩ : ∃ X, X = wr.alloc (.cells (chl cc).toArray 45) := ⟨_, rfl⟩
      have pX : PS X W.heap.size B 51 _ q := HP.out.seen (by rw [hX]; exact (Seen.refl wr).alloc _)
      have ad := add_any W.heap.size B _ q cc X pX hbB HL.out
      have sX : Hid (Below W.heap.size W X) := by rw [hX]; exact HB.out.alloc HB.out.size _
      have kX := (Blk.new wr (chl cc) 45).child
      simp only [At8, Nat.zero_add, chl] at kX
      have hsz : Hid (W.heap.size ≤ wr.heap.size) := HB.out.size
      obtain ⟨⟨tp, tn⟩, ⟨bp, bn⟩, ⟨ip, inn⟩, thr, hi⟩ := cc
      simp only [chl] at hX
      generalize addB q ⟨⟨tp, tn⟩, ⟨bp, bn⟩, ⟨ip, inn⟩, thr, hi⟩ = ab at ad ho hs
      clear pX HP
      go_upto_region 5 with fail
      rw [← hX]
      rw [← hX] at kX
      clear hX
      cases ab
      · go_upto_region 6 with (go_at_call 74; refine ad.mono ?_; clear ad; rintro e w5 ⟨rfl, hx, hbl⟩; have H5 := Lib.hid hx; have B5 := Lib.hid (sX.out.trans hbl); clear hx hbl)
        have HR5 : Hid (Blk w5 w.heap.size zpil 51) := (B5.out.block _ hb1.out).trans HKW.out
        obtain ⟨x0, x1, x2, x3, x4, x5, x6, xf⟩ := (show Blk w5 w.heap.size (pil (.slice none 0 0) zPi) 51 from HR5.out).rulesP w5 (Seen.refl _)
        have e1 := hs.out (by trivial)
        simp only [zPi, zSt] at x0 x1 x2 x3 x4 x5 x6
        have HS5 : Hid (Seen w w5) := HSW.out.trans B5.out
        clear hs ho H5 kX
        go_wp2_with fail
        have z := ((((((HR5.out.set 0 (.slice none 0 0)).set 1 (.int .i64 0)).set 2 (.int .i64 0)).set 3 (.int .i64 0)).set 4 (.int .i64 0)).set 5 (.int .i64 0)).set 6 (.bool false)
        have z0 := z.cell 0
        have z1 := z.cell 1
        have z2 := z.cell 2
        have z3 := z.cell 3
        have z4 := z.cell 4
        have z5 := z.cell 5
        have z6 := z.cell 6
        refine bodyPost_ret (by simp [results, Try.results49, go_sem, z0, z1, z2, z3, z4, z5, z6]; try rfl) rfl ?_
        rw [e1.1, e1.2]
        refine ⟨.slice none 0 0, rfl, RP.nil _ _, ?_⟩
        exact below_set (below_set (below_set (below_set (below_set (below_set (below_set HS5.out (Nat.le_refl _) _ _) (Nat.le_refl _) _ _) (Nat.le_refl _) _ _) (Nat.le_refl _) _ _) (Nat.le_refl _) _ _) (Nat.le_refl _) _ _) (Nat.le_refl _) _ _
      · go_wp2_with (go_at_call 74; refine ad.mono ?_; clear ad; rintro e w5 ⟨rfl, hx, hbl⟩; have H5 := Lib.hid hx; have B5 := Lib.hid (sX.out.trans hbl); clear hx hbl)
        go_roundw
        case rel =>
          obtain ⟨v', hv'⟩ := H5.out (by trivial)
          exact ⟨k + 1, by omega, by go_num, ⟨v', _, ho.out (by trivial), hv'⟩, B5.out⟩
        case measure => simp [intOf]; omega
    · obtain rfl : k = n := by omega
      have e1 : Hid (stkP l o = q ∧ stkB l o = true) := stk_some (by unfold stkO; rw [← List.take_of_length_le (l := l) (i := k) (by omega)]; exact HQ.out)
      obtain ⟨a0, a1, a2, a3, a4, a5, a6, af⟩ := rP wr (Seen.refl _)
      obtain ⟨x0, x1, x2, x3, x4, x5, x6, xf⟩ := rR wr (Seen.refl _)
      clear rP rR hkn hp
      go_wp2_with fail
      have z := ((((((HR.out.set 0 (.slice va q.y.length vc)).set 1 (.int .i64 q.edge)).set 2 (.int .i64 q.top.p)).set 3 (.int .i64 q.top.n)).set 4 (.int .i64 q.cur.p)).set 5 (.int .i64 q.cur.n)).set 6 (.bool q.att)
      have z0 := z.cell 0
      have z1 := z.cell 1
      have z2 := z.cell 2
      have z3 := z.cell 3
      have z4 := z.cell 4
      have z5 := z.cell 5
      have z6 := z.cell 6
      refine bodyPost_ret (by simp [results, Try.results49, go_sem, z0, z1, z2, z3, z4, z5, z6]; try rfl) rfl ?_
      rw [e1.out.1, e1.out.2]
      refine ⟨.slice va q.y.length vc, rfl, ?_, ?_⟩
      · exact row_more (((((((HP.out.row.far hb1.out _ _).far hb1.out _ _).far hb1.out _ _).far hb1.out _ _).far hb1.out _ _).far hb1.out _ _).far hb1.out _ _) (Nat.le_of_lt hb1.out)
      · exact below_set (below_set (below_set (below_set (below_set (below_set (below_set HS.out (Nat.le_refl _) _ _) (Nat.le_refl _) _ _) (Nat.le_refl _) _ _) (Nat.le_refl _) _ _) (Nat.le_refl _) _ _) (Nat.le_refl _) _ _) (Nat.le_refl _) _ _
end Go.Proofs.Yteplmjgohnbpbaa
