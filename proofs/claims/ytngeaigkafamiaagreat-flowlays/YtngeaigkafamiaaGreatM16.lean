/- Texts of the proof, merged: PTop, PLow, PAdd, PStack, FCont0. -/
import Derived.Test.YtngeaigkafamiaaGreatM7
import Derived.Deep.DeepCutAuto
import Derived.OwnWalk
import Derived.Test.YtngeaigkafamiaaGreatM15
import Derived.Test.YtngeaigkafamiaaGreatM12
namespace Go.Proofs.YtngeaigkafamiaaGreat
open Go.ChangeShapes Go.WideShapes Go.ChangeAt Go.RowKit
set_option maxRecDepth 100000
set_option linter.unusedVariables false
theorem wpList_pushP {ops : Array Oper} {rest : List Oper} {op : Oper} {a : Act} {w : World} {Q : Exit → Act → World → Prop} (hgd : op.guard = none) (s x : Operand) (ho : op.op = .call { callee := .builtin .append, args := #[s, x], argTypes := #[39, 39] })
    (base : Nat) (v : Value) (l : List Int) (y : Int) (hs : a.eval s = v) (hx : a.eval x = .slice (some ⟨w.heap.size, 0, none⟩) 1 1) (hown : RP w base v l) (hl : l.length ≤ 1000000) (hb : base ≤ w.heap.size)
    (h : ∀ g cap w', RP w' base (.slice (some ⟨g, 0, none⟩) (l.length + 1) cap) (l ++ [y]) → (w.alloc (.cells #[.int .i64 y] 2)).grownBy w' v.ownBlock → wpList Tryz.prog ops Q rest (a.put op.dst (.slice (some ⟨g, 0, none⟩) (l.length + 1) cap)) w') : wpList Tryz.prog ops Q (op :: rest) a (w.alloc (.cells #[.int .i64 y] 2)) := by
  obtain ⟨i0, hi, hz0, hz1, hz2⟩ := info_parts info2z
  refine wpList_append_own (P := Tryz.prog) _ hgd s x 39 ho base 2 i0 (.int .i64 0) 1 8 Tryz.underlying39 hi hz0 hz1 hz2 rfl (by decide) v l.length (flI l) hs (hown.alloc _) ⟨w.heap.size, 0, none⟩ 1 1 [.int .i64 y] hx rfl (one_atP _ _ _) (by intro u hu; rw [List.mem_singleton] at hu; subst hu; rfl) (by unfold maxLen; omega) (by omega) (by simp; omega) ?_
  intro v' w' h1 h2 _
  obtain ⟨g, cap, rfl⟩ := ownsRow_succ h1
  refine h g cap w' ?_ h2
  unfold RP
  rw [flI_append, List.length_append]
  exact h1
theorem Blk.rulesC {w : World} {B : Nat} {c : Ch} {t : TypeId} (h : Blk w B (chl c) t) : ∀ w', Seen w w' → At8 w' B 0 c := fun w' hs => (h.seen hs).child
theorem Blk.rulesP {w : World} {B : Nat} {stv : Value} {p : Pi} {t : TypeId} (h : Blk w B (pil stv p) t) : ∀ w', Seen w w' → (w'.cell? ⟨B, 0, none⟩ = some stv ∧ w'.cell? ⟨B, 1, none⟩ = some (.int .i64 p.edge) ∧ w'.cell? ⟨B, 2, none⟩ = some (.int .i64 p.top.p) ∧ w'.cell? ⟨B, 3, none⟩ = some (.int .i64 p.top.n) ∧ w'.cell? ⟨B, 4, none⟩ = some (.int .i64 p.cur.p) ∧ w'.cell? ⟨B, 5, none⟩ = some (.int .i64 p.cur.n) ∧ w'.cell? ⟨B, 6, none⟩ = some (.bool p.att) ∧ (∀ o, w'.frozen? ⟨B, o, none⟩ = false)) :=
  fun w' hs => ⟨(h.seen hs).cell 0, (h.seen hs).cell 1, (h.seen hs).cell 2, (h.seen hs).cell 3, (h.seen hs).cell 4, (h.seen hs).cell 5, (h.seen hs).cell 6, (h.seen hs).free⟩
theorem grow_other {W w1 : World} {X : Nat} {l : List Value} {t : TypeId} {base : Nat} {v : Value} {xs : List Int} {tmp : Obj} (h : Blk W X l t) (ht : t ≠ 2) (hr : RP W base v xs) (hg : (W.alloc tmp).grownBy w1 v.ownBlock) : Blk w1 X l t :=
  (hg.block X (h.alloc tmp).lt (fun e => row_apart h ht hr e.symm)).trans (h.alloc tmp)
theorem RP.two {w : World} {B : Nat} {l : List Value} {t : TypeId} {base : Nat} {v : Value} {xs : List Int} (hr : RP w base v xs) (h : Blk w B l t) (ht : t ≠ 2) (o o' : Nat) (u u' : Value) : RP ((w.setCell ⟨B, o, none⟩ u).setCell ⟨B, o', none⟩ u') base v xs := (hr.other h ht o u).other (h.set o u) ht o' u'
theorem RP.three {w : World} {B : Nat} {l : List Value} {t : TypeId} {base : Nat} {v : Value} {xs : List Int} (hr : RP w base v xs) (h : Blk w B l t) (ht : t ≠ 2) (o o' o'' : Nat) (u u' u'' : Value) : RP (((w.setCell ⟨B, o, none⟩ u).setCell ⟨B, o', none⟩ u').setCell ⟨B, o'', none⟩ u'') base v xs := (hr.two h ht o o' u u').other ((h.set o u).set o' u') ht o'' u''
theorem below_set {n : Nat} {w w' : World} (h : Below n w w') {B : Nat} (hB : n ≤ B) (o : Nat) (u : Value) : Below n w (w'.setCell ⟨B, o, none⟩ u) := h.setCell (by simp; omega) u
theorem zs_new (w : World) (a b : Int) (t : TypeId) : ZI (w.alloc (.cells #[.int .i64 a, .int .i64 b] t)) (some ⟨w.heap.size, 0, none⟩) 2 [a, b] := by
  have k := Blk.new w [.int .i64 a, .int .i64 b] t
  refine ⟨rfl, fun _ => ⟨_, _, rfl, fun i hi => ?_⟩⟩
  rcases (show i = 0 ∨ i = 1 by omega) with rfl | rfl
  · exact k.cell 0
  · exact k.cell 1
set_option maxHeartbeats 2000000 in
theorem addAtTop_any (base B : Nat) (v : Value) (p : Pi) (c : Ch) (w : World) (h : PS w base B 41 v p) (hb : base ≤ B) (hl : p.y.length ≤ 100000) :
    Calls Tryz.prog 105 #[.pointer (some ⟨B, 0, none⟩), chv c] w fun e w' => e = .returned (.bool (topB c)) ∧ (∃ v', PS w' base B 41 v' (topP p c)) ∧ Below base w w' := by
  have hlt := h.blk.lt
  obtain ⟨W, hW⟩ : ∃ W, W = w.alloc (.cells (chl c).toArray 35) := ⟨_, rfl⟩
  have sW : Seen w W := by rw [hW]; exact (Seen.refl w).alloc _
  have kW : Blk W w.heap.size (chl c) 35 := by rw [hW]; exact Blk.new w _ _
  have bW : Hid (Below base w W) := (by rw [hW]; exact (Below.refl base w).alloc (by omega) _ : Below base w W)
  have HP := Lib.hid (h.seen sW)
  have HK := Lib.hid kW
  have c0 := HP.out.blk.cell 0
  have hWs : Hid (base ≤ W.heap.size) := by rw [hW]; unfold Hid; simp; omega
  have HL : Hid (p.y.length ≤ 1000000) := Nat.le_trans hl (by decide)
  have hne : w.heap.size ≠ B := by omega
  have ef : fits_any = fits_any := rfl
  have jn := join_any p.top c.top
  have fn := fits_any c.high
  clear h kW sW hl ef
  obtain ⟨⟨tp, tn⟩, ⟨bp, bn⟩, ⟨ip, inn⟩, thr, hi⟩ := c
  obtain ⟨y, ed, ⟨pp, pn⟩, ⟨cp, cn⟩, att⟩ := p
  simp only at HL jn fn
  obtain ⟨r, hr⟩ : ∃ r, joinS ⟨pp, pn⟩ ⟨tp, tn⟩ = r := ⟨_, rfl⟩
  rw [hr] at jn
  have ER : Hid (joinS ⟨pp, pn⟩ ⟨tp, tn⟩ = r ∧ True) := ⟨hr, trivial⟩
  clear hr
  go_enter Tryz.func105, Tryz.ntmps105
  go_upto_region 1 with fail
  simp only [chl] at hW
  rw [← hW]
  clear hW
  go_upto_region 2 with (at_builtin; refine wpList_pushP rfl (.tmp 9) (.tmp 10) rfl base v y 0 rfl rfl HP.out.row HL.out hWs.out ?_; intro g cap w1 hown hgrow; have st := pile_step HP.out (by decide) hb hown hgrow; have ko := grow_other HK.out (by decide) HP.out.row hgrow; have q0 : w1.cell? ⟨B, 0, none⟩ = some v := st.1.cell 0; have q1 := st.1.free 0; have ST := Lib.hid (And.intro st ko); clear st ko hown hgrow c0 HP HK)
  obtain ⟨v', hv'⟩ : ∃ v', Value.slice (some ⟨g, 0, none⟩) (y.length + 1) cap = v' := ⟨_, rfl⟩
  rw [hv'] at ST ⊢
  clear hv'
  obtain ⟨V, hV⟩ : ∃ V, V = w1.setCell ⟨B, 0, none⟩ v' := ⟨_, rfl⟩
  have HV := ST.out.1.2
  have KV := ST.out.2.other (p := ⟨B, 0, none⟩) (by simp; omega) v'
  rw [← hV] at HV KV
  have HV2 := Lib.hid HV
  have KV2 := Lib.hid KV
  rw [← hV]
  clear hV ST q0 q1
  have rP := HV.1.blk.rulesP
  have rC := KV.rulesC
  have sV := Seen.refl V
  have dV := (Seen.refl V).drew
  simp only [At8, Nat.zero_add] at rC
  clear HV KV
  go_cut [] (fun wx => (PS wx base B 41 v' ⟨y ++ [0], ed, r, ⟨cp, cn⟩, att⟩ ∧ Blk wx w.heap.size (chl ⟨⟨tp, tn⟩, ⟨bp, bn⟩, ⟨ip, inn⟩, thr, hi⟩) 35 ∧ Below base w wx : Prop))
  case first =>
    go_region_with (go_at_call 77; refine (jn _).mono ?_; rintro e w2 ⟨rfl, hb2⟩; have s2 : Seen V w2 := dV.next hb2; clear hb2)
    all_goals
      go_wp2_with fail
      go_meet
      have a1 := (HV2.out.1.blk.seen s2).set 2 (.int .i64 r.p)
      refine ⟨⟨a1.set 3 (.int .i64 r.n), ?_⟩, ?_, ?_⟩
      · exact (((HV2.out.1.row.seen s2).other (HV2.out.1.blk.seen s2) (by decide) _ _).other a1 (by decide) _ _)
      · exact ((KV2.out.seen s2).other (by simp; omega) _).other (by simp; omega) _
      · exact (((bW.out.trans HV2.out.2).trans (s2.mono (by have := HV2.out.1.blk.lt; omega))).setCell (by simp; omega) _).setCell (by simp; omega) _
  obtain ⟨P2, K2, B2⟩ := hcut
  have HP2 := Lib.hid P2
  have HB2 := Lib.hid B2
  have HK2 := Lib.hid K2
  have rP2 := P2.blk.rulesP
  have rC2 := K2.rulesC
  simp only [At8, Nat.zero_add] at rC2
  have sV2 := Seen.refl wc
  clear rP rC sV dV HV2 KV2 P2 K2 B2 jn
  cases thr
  · have T1 : Hid (topB ⟨⟨tp, tn⟩, ⟨bp, bn⟩, ⟨ip, inn⟩, false, hi⟩ = fitsB hi) := by unfold Hid topB; rfl
    go_upto_region 6 with fail
    obtain ⟨V5, hV5⟩ : ∃ V5, V5 = wc.setCell ⟨B, 6, none⟩ (.bool false) := ⟨_, rfl⟩
    rw [← hV5]
    have P5 : PS V5 base B 41 v' ⟨y ++ [0], ed, r, ⟨cp, cn⟩, false⟩ := by
      rw [hV5]
      exact ⟨HP2.out.blk.set 6 (.bool false), HP2.out.row.other HP2.out.blk (by decide) _ _⟩
    have K5 := HK2.out.other (p := ⟨B, 6, none⟩) (by simp; omega) (.bool false)
    have B5 : Below base w V5 := by rw [hV5]; exact HB2.out.setCell (by simp; omega) _
    rw [← hV5] at K5
    have HP5 := Lib.hid P5
    have HB5 := Lib.hid B5
    have HK5 := Lib.hid K5
    obtain ⟨b0, b1, b2, b3, b4, b5, b6, f5⟩ := P5.blk.rulesP V5 (Seen.refl _)
    clear b0 b2 b3 b6
    have ac := K5.child
    simp only [At8, Nat.zero_add] at ac
    obtain ⟨-, -, a2, a3, -, -, -, a7⟩ := ac
    clear rP2 rC2 sV2 HP2 HB2 HK2 P5 K5 B5 hV5
    go_cut [] (fun wx => (PS wx base B 41 v' ⟨y ++ [0], hi, r, ⟨bp, bn⟩, false⟩ ∧ Blk wx w.heap.size (chl ⟨⟨tp, tn⟩, ⟨bp, bn⟩, ⟨ip, inn⟩, false, hi⟩) 35 ∧ Below base w wx : Prop))
    case first =>
      go_region_with fail
      all_goals
        go_wp2_with fail
        go_meet
        refine ⟨⟨((HP5.out.blk.set _ _).set _ _).set _ _, HP5.out.row.three HP5.out.blk (by decide) _ _ _ _ _ _⟩, ((HK5.out.other (by simp; omega) _).other (by simp; omega) _).other (by simp; omega) _, (below_set (below_set (below_set HB5.out hb _ _) hb _ _) hb _ _).drew⟩
    obtain ⟨P6, K6, B6⟩ := hcut
    have HP6 := Lib.hid P6
    have HB6 := Lib.hid B6
    have c7 := K6.child.2.2.2.2.2.2.2
    simp only [Nat.zero_add] at c7
    clear HP5 HB5 HK5 P6 K6 B6 a2 a3 a7 b1 b4 b5 f5
    go_wp2_with (go_at_call 91; refine (fn _).mono ?_; rintro e w7 ⟨rfl, rfl⟩)
    go_ret
    exact ⟨ret_bool T1.out.symm, ⟨v', by unfold topP; rw [if_neg (by simp), ER.out.1]; exact HP6.out⟩, HB6.out⟩
  · have T1 : Hid (topB ⟨⟨tp, tn⟩, ⟨bp, bn⟩, ⟨ip, inn⟩, true, hi⟩ = true) := by unfold Hid topB; rfl
    go_wp2_with fail
    go_ret
    exact ⟨ret_bool T1.out.symm, ⟨v', by unfold topP; rw [if_pos rfl, ER.out.1]; exact HP2.out⟩, HB2.out⟩
end Go.Proofs.YtngeaigkafamiaaGreat
namespace Go.Proofs.YtngeaigkafamiaaGreat
open Go.ChangeShapes Go.WideShapes Go.ChangeAt Go.RowKit
set_option maxRecDepth 100000
set_option linter.unusedVariables false
set_option maxHeartbeats 2000000 in
theorem below_any (base B : Nat) (v : Value) (p : Pi) (c : Ch) (w : World) (h : PS w base B 41 v p) :
    Calls Tryz.prog 106 #[.pointer (some ⟨B, 0, none⟩), chv c] w fun e w' => e = .returned (.tuple #[.int .i64 (posN p.edge p.cur c), .bool (posB p.edge p.cur c)]) ∧ Seen w w' := by
  have hlt := h.blk.lt
  obtain ⟨W, hW⟩ : ∃ W, W = (w.alloc (.cells (chl c).toArray 35)).alloc (.cells #[.int .i64 c.top.p, .int .i64 c.top.n] 33) := ⟨_, rfl⟩
  have sW : Seen w W := by rw [hW]; exact ((Seen.refl w).alloc _).alloc _
  have kC : Blk W w.heap.size (chl c) 35 := by rw [hW]; exact (Blk.new w _ _).alloc _
  have c0 := (Blk.new w (chl c) 35).alloc (.cells #[.int .i64 0, .int .i64 0] 33) |>.child
  have kT : Blk W (w.heap.size + 1) [.int .i64 c.top.p, .int .i64 c.top.n] 33 := by rw [hW]; simpa using Blk.new (w.alloc (.cells (chl c).toArray 35)) [.int .i64 c.top.p, .int .i64 c.top.n] 33
  have kP : Blk W B (pil v p) 41 := h.blk.seen sW
  obtain ⟨g, hg⟩ : ∃ g, gapN p.cur c = g := ⟨_, rfl⟩
  obtain ⟨gb, hgb⟩ : ∃ gb, gapB p.cur c = gb := ⟨_, rfl⟩
  obtain ⟨j, hj⟩ : ∃ j, joinS p.cur (byS c) = j := ⟨_, rfl⟩
  have jn := join_any p.cur (byS c)
  have vn := value_any j
  rw [hj] at jn
  have ev : valN j = g ∧ valB j = gb := by rw [← hj, ← hg, ← hgb]; exact ⟨rfl, rfl⟩
  rw [ev.1, ev.2] at vn
  have EG : Hid (posN p.edge p.cur c = (if gb then sumN [p.edge, g] else 0) ∧ posB p.edge p.cur c = (gb && sumB [p.edge, g]) ∧ True) := by
    unfold Hid posN posB; rw [hg, hgb]; exact ⟨rfl, rfl, trivial⟩
  have HS := Lib.hid sW
  have KC := Lib.hid kC
  have KT := Lib.hid kT
  have KP := Lib.hid kP
  clear h ev hg hgb hj kT kP kC
  obtain ⟨⟨tp, tn⟩, ⟨bp, bn⟩, ⟨ip, inn⟩, thr, hi⟩ := c
  obtain ⟨y, ed, ⟨pp, pn⟩, ⟨cp, cn⟩, att⟩ := p
  simp only [chl] at hW
  go_enter Tryz.func106, Tryz.ntmps106
  go_upto_region 2 with fail
  rw [← hW]
  clear hW c0
  have rC := KC.out.child
  simp only [At8, Nat.zero_add] at rC
  cases thr
  · have EU : Hid (byS ⟨⟨tp, tn⟩, ⟨bp, bn⟩, ⟨ip, inn⟩, false, hi⟩ = ⟨tp, tn⟩) := rfl
    rw [EU.out] at jn
    have t0 := KT.out.cell 0
    have t1 := KT.out.cell 1
    have tf := KT.out.free
    simp only [List.getElem?_cons_zero, List.getElem?_cons_succ] at t0 t1
    go_upto_region 4 with fail
    clear t0 t1 tf rC
    have KT2 := KT.out
    have KP2 := KP.out
    have SV := HS
    have rT := KT2.rules2
    have rP := KP2.rulesP
    have sV := Seen.refl W
    clear KT2 KP2
    simp only at jn vn rP
    refine wp_region_quiet (C := Seen W) (by kernel_rfl) (by kernel_rfl) (Seen.drew sV) ?_
    simp only []
    repeat (first
      | go_big_quiet_skip
      | (go_big_quiet_want
         apply Exists.intro
         refine ⟨fun w1 h1 => ?_, ?_⟩
         focus
           go_simp
           first | done | rfl | (go_at_call 77; with_reducible exact quiet_call h1 (jn _)) | (go_at_call 95; with_reducible exact quiet_call h1 (vn _))
         (try simp only [Z1,Z2,Z3,Z4])
         go_big_quiet_on))
    refine wpQuiet_nil ?_
    intro w2 h2
    clear rT
    obtain ⟨-, e1, -⟩ := rP w2 h2
    have HS2 := Lib.hid (SV.out.trans h2)
    clear rP sV h2 jn vn
    cases gb
    · simp only [Bool.false_eq_true, if_false, Bool.false_and] at EG
      go_wp2_with fail
      go_ret2
      exact ⟨by rw [EG.out.1, EG.out.2.1]; rfl, HS2.out⟩
    · simp only [if_true, Bool.true_and] at EG
      go_wp2_with (go_at_call 98; refine (sum_any _ _ _ [ed, g] _ (zs_new w2 ed g 2) (by decide)).mono ?_; rintro e w' ⟨rfl, rfl⟩)
      go_ret2
      exact ⟨by rw [EG.out.1, EG.out.2.1]; rfl, HS2.out.alloc _⟩
  · have EU : Hid (byS ⟨⟨tp, tn⟩, ⟨bp, bn⟩, ⟨ip, inn⟩, true, hi⟩ = ⟨ip, inn⟩) := rfl
    rw [EU.out] at jn
    have t0 := KT.out.cell 0
    have t1 := KT.out.cell 1
    have tf := KT.out.free
    simp only [List.getElem?_cons_zero, List.getElem?_cons_succ] at t0 t1
    go_upto_region 4 with fail
    clear t0 t1 tf rC
    obtain ⟨V, hV⟩ : ∃ V, V = (W.setCell ⟨w.heap.size + 1, 0, none⟩ (.int .i64 ip)).setCell ⟨w.heap.size + 1, 1, none⟩ (.int .i64 inn) := ⟨_, rfl⟩
    rw [← hV]
    have KT2 : Blk V (w.heap.size + 1) [.int .i64 ip, .int .i64 inn] 33 := by rw [hV]; exact (KT.out.set 0 _).set 1 _
    have KP2 := (KP.out.other (p := ⟨w.heap.size + 1, 0, none⟩) (by simp; omega) (.int .i64 ip)).other (p := ⟨w.heap.size + 1, 1, none⟩) (by simp; omega) (.int .i64 inn)
    rw [← hV] at KP2
    have SV : Hid (Seen w V) := by rw [hV]; exact ((HS.out).setCell (by simp) _).setCell (by simp) _
    clear hV
    have rT := KT2.rules2
    have rP := KP2.rulesP
    have sV := Seen.refl V
    clear KT2 KP2
    simp only at jn vn rP
    refine wp_region_quiet (C := Seen V) (by kernel_rfl) (by kernel_rfl) (Seen.drew sV) ?_
    simp only []
    repeat (first
      | go_big_quiet_skip
      | (go_big_quiet_want
         apply Exists.intro
         refine ⟨fun w1 h1 => ?_, ?_⟩
         focus
           go_simp
           first | done | rfl | (go_at_call 77; with_reducible exact quiet_call h1 (jn _)) | (go_at_call 95; with_reducible exact quiet_call h1 (vn _))
         (try simp only [Z1,Z2,Z3,Z4])
         go_big_quiet_on))
    refine wpQuiet_nil ?_
    intro w2 h2
    clear rT
    obtain ⟨-, e1, -⟩ := rP w2 h2
    have HS2 := Lib.hid (SV.out.trans h2)
    clear rP sV h2 jn vn
    cases gb
    · simp only [Bool.false_eq_true, if_false, Bool.false_and] at EG
      go_wp2_with fail
      go_ret2
      exact ⟨by rw [EG.out.1, EG.out.2.1]; rfl, HS2.out⟩
    · simp only [if_true, Bool.true_and] at EG
      go_wp2_with (go_at_call 98; refine (sum_any _ _ _ [ed, g] _ (zs_new w2 ed g 2) (by decide)).mono ?_; rintro e w' ⟨rfl, rfl⟩)
      go_ret2
      exact ⟨by rw [EG.out.1, EG.out.2.1]; rfl, HS2.out.alloc _⟩
end Go.Proofs.YtngeaigkafamiaaGreat
namespace Go.Proofs.YtngeaigkafamiaaGreat
open Go.ChangeShapes Go.WideShapes Go.ChangeAt Go.RowKit
set_option maxRecDepth 100000
set_option linter.unusedVariables false
theorem At8.row {w : World} {B : Nat} {c : Ch} (h : At8 w B 0 c) : At8 w B 0 c := h
set_option maxHeartbeats 2000000 in
theorem add_any (base B : Nat) (v : Value) (p : Pi) (c : Ch) (w : World) (h : PS w base B 41 v p) (hb : base ≤ B) (hl : p.y.length ≤ 100000) :
    Calls Tryz.prog 94 #[.pointer (some ⟨B, 0, none⟩), chv c] w fun e w' => e = .returned (.bool (addB p c)) ∧ (addB p c = true → ∃ v', PS w' base B 41 v' (addP p c)) ∧ Below base w w' := by
  have hlt := h.blk.lt
  obtain ⟨W, hW⟩ : ∃ W, W = w.alloc (.cells (chl c).toArray 35) := ⟨_, rfl⟩
  have sW : Seen w W := by rw [hW]; exact (Seen.refl w).alloc _
  have kW : Blk W w.heap.size (chl c) 35 := by rw [hW]; exact Blk.new w _ _
  have bW : Hid (Below base w W) := (by rw [hW]; exact (Below.refl base w).alloc (by omega) _ : Below base w W)
  have HP := Lib.hid (h.seen sW)
  have HK := Lib.hid kW
  have rP := HP.out.blk.rulesP
  have rC := HK.out.rulesC
  simp only [At8, Nat.zero_add] at rC
  have hWs : Hid (base ≤ W.heap.size) := by rw [hW]; unfold Hid; simp; omega
  have HL : Hid (p.y.length ≤ 1000000) := Nat.le_trans hl (by decide)
  have hne : w.heap.size ≠ B := by omega
  have at1 := addAtTop_any base B v p c W HP.out hb hl
  have lo1 := below_any base B v p c W HP.out
  have jn := join_any p.cur c.top
  have sr := Seen.refl W
  have EA : Hid (addB p c = (if p.att then topB c else lowB p c) ∧ addP p c = (if p.att then topP p c else lowP p c)) := ⟨rfl, rfl⟩
  clear h kW sW hl
  generalize addB p c = ab at EA ⊢
  generalize addP p c = ap at EA ⊢
  have EL : Hid (lowB p c = (posB p.edge p.cur c && (c.thr || sumB [posN p.edge p.cur c, c.high])) ∧ lowP p c = (if c.thr then ⟨p.y ++ [posN p.edge p.cur c], p.edge, p.top, joinS p.cur c.top, p.att⟩ else ⟨p.y ++ [posN p.edge p.cur c], sumN [posN p.edge p.cur c, c.high], p.top, c.bot, p.att⟩)) := ⟨rfl, rfl⟩
  generalize lowB p c = lb at EA EL
  generalize lowP p c = lp at EA EL
  generalize posB p.edge p.cur c = pb at EL lo1
  generalize posN p.edge p.cur c = z at EL lo1
  generalize topB c = tb at EA at1
  generalize topP p c = tp' at EA at1
  obtain ⟨⟨tp, tn⟩, ⟨bp, bn⟩, ⟨ip, inn⟩, thr, hi⟩ := c
  obtain ⟨y, ed, ⟨pp, pn⟩, ⟨cp, cn⟩, att⟩ := p
  simp only [chl] at hW
  simp only at HL jn EA EL at1 lo1 rP rC
  obtain ⟨r, hr⟩ : ∃ r, joinS ⟨cp, cn⟩ ⟨tp, tn⟩ = r := ⟨_, rfl⟩
  rw [hr] at jn EL
  clear hr
  go_enter Tryz.func94, Tryz.ntmps94
  go_upto_region 1 with fail
  rw [← hW]
  clear hW
  cases att
  · obtain ⟨rfl, rfl⟩ : ab = lb ∧ ap = lp := EA.out
    clear EA at1
    go_upto_region 4 with (go_at_call 106; refine lo1.mono ?_; clear lo1; rintro e w1 ⟨rfl, hs1⟩; have S1 := Lib.hid hs1; clear hs1)
    have HP1 := Lib.hid (HP.out.seen S1.out)
    have HK1 := Lib.hid (HK.out.seen S1.out)
    have bW1 : Hid (Below base w w1) := bW.out.trans (S1.out.mono hWs.out)
    have hW1 : Hid (base ≤ w1.heap.size) := Nat.le_trans hWs.out S1.out.size
    clear rP rC sr HP HK bW hWs S1
    cases pb
    · obtain rfl : ab = false := EL.out.1
      clear EL
      go_wp2_with fail
      go_ret
      exact ⟨rfl, nofun, bW1.out⟩
    · have c0 : w1.cell? ⟨B, 0, none⟩ = some v := HP1.out.blk.cell 0
      go_upto_region 7 with (at_builtin; refine wpList_pushP rfl (.tmp 26) (.tmp 28) rfl base v y z rfl rfl HP1.out.row HL.out hW1.out ?_; intro g cap w2 hown hgrow; have st := pile_step HP1.out (by decide) hb hown hgrow; have ko := grow_other HK1.out (by decide) HP1.out.row hgrow; have q0 : w2.cell? ⟨B, 0, none⟩ = some v := st.1.cell 0; have q1 := st.1.free 0; have ST := Lib.hid (And.intro st ko); clear st ko hown hgrow c0 HP1 HK1)
      obtain ⟨v', hv'⟩ : ∃ v', Value.slice (some ⟨g, 0, none⟩) (y.length + 1) cap = v' := ⟨_, rfl⟩
      rw [hv'] at ST ⊢
      clear hv'
      obtain ⟨V, hV⟩ : ∃ V, V = w2.setCell ⟨B, 0, none⟩ v' := ⟨_, rfl⟩
      have HV := ST.out.1.2
      have KV := ST.out.2.other (p := ⟨B, 0, none⟩) (by simp; omega) v'
      rw [← hV] at HV KV
      have HV2 := Lib.hid HV.1
      have BV2 : Hid (Below base w V) := bW1.out.trans HV.2
      have KV2 := Lib.hid KV
      rw [← hV]
      clear hV ST q0 q1
      have rP := HV.1.blk.rulesP
      have rC := KV.rulesC
      have sV := Seen.refl V
      have dV := (Seen.refl V).drew
      have hVl := HV.1.blk.lt
      simp only [At8, Nat.zero_add] at rC
      simp only at rP
      clear HV KV bW1
      cases thr
      · simp only [Bool.false_or, Bool.true_and, Bool.false_eq_true, if_false] at EL
        obtain ⟨m, hm⟩ : ∃ m, sumN [z, hi] = m := ⟨_, rfl⟩
        obtain ⟨mb, hmb⟩ : ∃ mb, sumB [z, hi] = mb := ⟨_, rfl⟩
        have sm : ∀ W, _ := fun W => sum_any _ 2 2 [z, hi] _ (zs_new W z hi 2) (by decide)
        rw [hm, hmb] at EL
        rw [hm, hmb] at sm
        clear hm hmb
        obtain ⟨rfl, rfl⟩ : ab = mb ∧ ap = _ := EL.out
        clear EL
        go_upto_region 11 with (go_at_call 98; refine (sm V).mono ?_; rintro e w3 ⟨rfl, rfl⟩)
        obtain ⟨U, hU⟩ : ∃ U, U = (V.setCell ⟨B, 1, none⟩ (.int .i64 m)).alloc (.cells #[.int .i64 z, .int .i64 hi] 2) := ⟨_, rfl⟩
        rw [← hU]
        have P0 : PS (V.setCell ⟨B, 1, none⟩ (.int .i64 m)) base B 41 v' ⟨y ++ [z], m, ⟨pp, pn⟩, ⟨cp, cn⟩, false⟩ := ⟨HV2.out.blk.set 1 _, HV2.out.row.other HV2.out.blk (by decide) _ _⟩
        have s3 : Seen (V.setCell ⟨B, 1, none⟩ (.int .i64 m)) U := by rw [hU]; exact (Seen.refl _).alloc _
        have PU : PS U base B 41 v' ⟨y ++ [z], m, ⟨pp, pn⟩, ⟨cp, cn⟩, false⟩ := P0.seen s3
        have KU : Blk U w.heap.size (chl ⟨⟨tp, tn⟩, ⟨bp, bn⟩, ⟨ip, inn⟩, false, hi⟩) 35 := by
          rw [hU]
          exact (KV2.out.other (by simp; omega) _).alloc _
        have BU : Below base w U := (below_set BV2.out hb 1 (.int .i64 m)).trans (s3.mono (by simp [World.setCell]; omega))
        have HPU := Lib.hid PU
        have HBU := Lib.hid BU
        have rP := PU.blk.rulesP U (Seen.refl _)
        have rC := KU.child
        simp only [At8, Nat.zero_add] at rC
        simp only at rP
        clear hU s3 P0 sV dV HV2 KV2 BV2 sm PU KU BU
        go_wp2_with fail
        go_ret
        exact ⟨rfl, fun _ => ⟨v', ⟨(HPU.out.blk.set 4 _).set 5 _, HPU.out.row.two HPU.out.blk (by decide) _ _ _ _⟩⟩, below_set (below_set HBU.out hb _ _) hb _ _⟩
      · simp only [Bool.true_or, Bool.true_and, if_true] at EL
        go_upto_region 8 with fail
        go_cut [] (fun wx => (PS wx base B 41 v' ⟨y ++ [z], ed, ⟨pp, pn⟩, r, false⟩ ∧ Below base w wx : Prop))
        case first =>
          go_region_with (go_at_call 77; refine (jn _).mono ?_; rintro e w2 ⟨rfl, hb2⟩; have s2 : Seen V w2 := dV.next hb2; clear hb2)
          all_goals
            go_wp2_with fail
            go_meet
            have a1 := (HV2.out.blk.seen s2).set 4 (.int .i64 r.p)
            refine ⟨⟨a1.set 5 (.int .i64 r.n), (HV2.out.row.seen s2).two (HV2.out.blk.seen s2) (by decide) _ _ _ _⟩, ?_⟩
            exact below_set (below_set (BV2.out.trans (s2.mono (by omega))) hb _ _) hb _ _
        obtain ⟨P2, B2⟩ := hcut
        have HP2 := Lib.hid P2
        have HB2 := Lib.hid B2
        clear rP rC sV dV HV2 KV2 P2 B2 jn
        go_wp2_with fail
        go_ret
        exact ⟨ret_bool EL.out.1.symm, fun _ => ⟨v', by rw [EL.out.2]; exact HP2.out⟩, HB2.out⟩
  · obtain ⟨rfl, rfl⟩ : ab = tb ∧ ap = tp' := EA.out
    clear EA EL lo1
    go_wp2_with (go_at_call 105; refine at1.mono ?_; clear at1; rintro e w1 ⟨rfl, hx, hbl⟩; have H1 := Lib.hid (And.intro hx hbl); clear hx hbl)
    go_ret
    exact ⟨rfl, fun _ => H1.out.1, bW.out.trans H1.out.2⟩
end Go.Proofs.YtngeaigkafamiaaGreat
namespace Go.Proofs.YtngeaigkafamiaaGreat
open Go.ChangeShapes Go.WideShapes Go.ChangeAt Go.RowKit
set_option maxRecDepth 100000
set_option linter.unusedVariables false
abbrev zpil : List Value := [.slice none 0 0, .int .i64 0, .int .i64 0, .int .i64 0, .int .i64 0, .int .i64 0, .bool false]
def StkAns (w : World) (q : Pi) (b : Bool) (e : Ending) (w' : World) : Prop := ∃ v, e = .returned (.tuple #[piv v q, .bool b]) ∧ RP w' w.heap.size v q.y ∧ Seen w w'
theorem PS.slice' {w : World} {base B : Nat} {t : TypeId} {v : Value} {p : Pi} (h : PS w base B t v p) : ∃ a c, v = .slice a p.y.length c ∧ True := by
  obtain ⟨a, c, h1, -⟩ := h.row.slice
  exact ⟨a, c, h1, trivial⟩
theorem RP.far {w : World} {base : Nat} {v : Value} {xs : List Int} (hr : RP w base v xs) {B : Nat} (hB : B < base) (o : Nat) (u : Value) : RP (w.setCell ⟨B, o, none⟩ u) base v xs :=
  ownsRow_keeps hr (fun g hg => Below.heap_setCell w _ _ g (fun e => by have := (hr.lt g hg).1; simp at e; omega))
theorem CS.len {w : World} {a : Option Addr} {n : Nat} {l : List Ch} (h : CS w a n l) : l.length = n := h.1
set_option maxHeartbeats 4000000 in
theorem stack_any (a : Option Addr) (n c : Nat) (l : List Ch) (o : Bool) (w : World) (h : CS w a n l) (hn : n ≤ 1000) :
    Calls Tryz.prog 70 #[.slice a n c, .bool o] w (StkAns w (stkP l o) (stkB l o)) := by
  obtain ⟨i0, hi, hz0, hz1, hz2⟩ := info_parts info2z
  have hlen := h.len
  have HC := Lib.hid h
  clear h
  go_enter Tryz.func70, Tryz.ntmps70
  go_upto_region 1 with fail
  obtain ⟨W, hW⟩ : ∃ W, W = w.alloc (.cells zpil.toArray 41) := ⟨_, rfl⟩
  have kW : Blk W w.heap.size zpil 41 := by rw [hW]; exact Blk.new w _ _
  have sW : Seen w W := by rw [hW]; exact (Seen.refl w).alloc _
  have HWS : Hid (W.heap.size = w.heap.size + 1) := by rw [hW]; simp [Hid]
  rw [← hW]
  clear hW
  go_upto_region 2 with (at_make; refine wpList_make_own _ rfl _ _ 39 rfl W.heap.size 2 i0 (.int .i64 0) 1 Tryz.underlying39 hi hz0 hz1 .i64 .i64 _ n rfl rfl rfl (by rw [hz2]; omega) (by unfold maxLen; omega) (Nat.le_refl _) ?_; intro w0 hown0 hgrow0)
  obtain ⟨W1, hW1⟩ : ∃ W1, W1 = w0.alloc (.cells #[.slice (some ⟨W.heap.size, 0, none⟩) 0 n, .int .i64 0, .int .i64 0, .int .i64 0, .int .i64 0, .int .i64 0, .bool o] 41) := ⟨_, rfl⟩
  obtain ⟨B, hB⟩ : ∃ B, w0.heap.size = B := ⟨_, rfl⟩
  have kB : Blk W1 B (pil (.slice (some ⟨W.heap.size, 0, none⟩) 0 n) (openP o)) 41 := by rw [hW1, ← hB]; exact Blk.new w0 _ _
  have hbB : W.heap.size ≤ B := by rw [← hB]; exact hgrow0.size
  have bW1 : Below W.heap.size W W1 := by rw [hW1]; exact ((Below.refl _ W).grown hgrow0 (Nat.le_refl _) (fun g hg => by cases hg)).alloc hgrow0.size _
  have pW1 : PS W1 W.heap.size B 41 (.slice (some ⟨W.heap.size, 0, none⟩) 0 n) (openP o) := ⟨kB, by rw [hW1]; exact World.ownsRow.alloc hown0 _⟩
  rw [← hW1, hB]
  have HC1 := Lib.hid (HC.out.seen sW)
  have HP1 := Lib.hid pW1
  have HW1 := Lib.hid bW1
  have HKW := Lib.hid kW
  have HSW := Lib.hid sW
  have hb1 : Hid (w.heap.size < W.heap.size) := by have := HWS.out; unfold Hid; omega
  clear HWS
  clear hW1 kB pW1 bW1 hown0 hgrow0 kW sW hi hz0 hz1 hz2 HC hB
  go_wp2_with fail
  go_loopw [16] (fun i wr => ∃ k : Nat, k ≤ n ∧ i = .int .i64 k ∧ (∃ v q, runP (openP o) (l.take k) = some q ∧ PS wr W.heap.size B 41 v q) ∧ Below W.heap.size W wr) (fun i _ => n - (intOf i).toNat)
  case atStart => exact ⟨0, Nat.zero_le _, rfl, ⟨_, _, rfl, HP1.out⟩, HW1.out⟩
  case round =>
    clear HP1
    obtain ⟨k, hk, rfl, ⟨v, q, hq, hp⟩, hbel⟩ := hrel
    have HQ := Lib.hid hq
    have HP := Lib.hid hp
    have HB := Lib.hid hbel
    have HR : Hid (Blk wr w.heap.size zpil 41) := (hbel.block _ hb1.out).trans HKW.out
    have HS : Hid (Seen w wr) := HSW.out.trans hbel
    clear hq hbel
    obtain ⟨va, vc, rfl, -⟩ := hp.slice'
    have rP := HP.out.blk.rulesP
    have rR := (show Blk wr w.heap.size (pil (.slice none 0 0) zPi) 41 from HR.out).rulesP
    simp only [zPi, zSt] at rR
    by_cases hkn : k < n
    · obtain ⟨b, off, rfl, hats⟩ := CS.ats (HC1.out.seen HB.out) (show 0 < n by omega)
      have hat := hats k hkn
      clear hats
      unfold At8 at hat
      obtain ⟨x0, x1, x2, x3, x4, x5, x6, x7⟩ := hat
      have hyl : q.y.length ≤ 100000 := by have := runP_len HQ.out; simp [openP] at this; omega
      have HL := Lib.hid hyl
      clear rP rR hyl
      have hkl : k < l.length := by omega
      have ho : Hid (addB q (cat l k) = true → runP (openP o) (l.take (k + 1)) = some (addP q (cat l k))) := fun h => runP_next hkl HQ.out h
      have hs : Hid (addB q (cat l k) = false → stkP l o = zPi ∧ stkB l o = false) := fun h => stk_none (runP_stop hkl HQ.out h)
      clear hkl
      obtain ⟨cc, hcc⟩ : ∃ cc, cat l k = cc := ⟨_, rfl⟩
      rw [hcc] at ho hs x0 x1 x2 x3 x4 x5 x6 x7
      clear hcc
      obtain ⟨X, hX⟩ : ∃ X, X = wr.alloc (.cells (chl cc).toArray 35) := ⟨_, rfl⟩
      have pX : PS X W.heap.size B 41 _ q := HP.out.seen (by rw [hX]; exact (Seen.refl wr).alloc _)
      have ad := add_any W.heap.size B _ q cc X pX hbB HL.out
      have sX : Hid (Below W.heap.size W X) := by rw [hX]; exact HB.out.alloc HB.out.size _
      have kX := (Blk.new wr (chl cc) 35).child
      simp only [At8, Nat.zero_add, chl] at kX
      have hsz : Hid (W.heap.size ≤ wr.heap.size) := HB.out.size
      obtain ⟨⟨tp, tn⟩, ⟨bp, bn⟩, ⟨ip, inn⟩, thr, hi⟩ := cc
      simp only [chl] at hX
      generalize addB q ⟨⟨tp, tn⟩, ⟨bp, bn⟩, ⟨ip, inn⟩, thr, hi⟩ = ab at ad ho hs
      clear pX HP
      go_upto_region 5 with fail
      rw [← hX]
      rw [← hX] at kX
      clear hX
      cases ab
      · go_upto_region 6 with (go_at_call 94; refine ad.mono ?_; clear ad; rintro e w5 ⟨rfl, hx, hbl⟩; have H5 := Lib.hid hx; have B5 := Lib.hid (sX.out.trans hbl); clear hx hbl)
        have HR5 : Hid (Blk w5 w.heap.size zpil 41) := (B5.out.block _ hb1.out).trans HKW.out
        obtain ⟨x0, x1, x2, x3, x4, x5, x6, xf⟩ := (show Blk w5 w.heap.size (pil (.slice none 0 0) zPi) 41 from HR5.out).rulesP w5 (Seen.refl _)
        have e1 := hs.out (by trivial)
        simp only [zPi, zSt] at x0 x1 x2 x3 x4 x5 x6
        have HS5 : Hid (Seen w w5) := HSW.out.trans B5.out
        clear hs ho H5 kX
        go_wp2_with fail
        have z := ((((((HR5.out.set 0 (.slice none 0 0)).set 1 (.int .i64 0)).set 2 (.int .i64 0)).set 3 (.int .i64 0)).set 4 (.int .i64 0)).set 5 (.int .i64 0)).set 6 (.bool false)
        have z0 := z.cell 0
        have z1 := z.cell 1
        have z2 := z.cell 2
        have z3 := z.cell 3
        have z4 := z.cell 4
        have z5 := z.cell 5
        have z6 := z.cell 6
        refine bodyPost_ret (by simp [results, Tryz.results70, go_sem, z0, z1, z2, z3, z4, z5, z6]; try rfl) rfl ?_
        rw [e1.1, e1.2]
        refine ⟨.slice none 0 0, rfl, RP.nil _ _, ?_⟩
        exact below_set (below_set (below_set (below_set (below_set (below_set (below_set HS5.out (Nat.le_refl _) _ _) (Nat.le_refl _) _ _) (Nat.le_refl _) _ _) (Nat.le_refl _) _ _) (Nat.le_refl _) _ _) (Nat.le_refl _) _ _) (Nat.le_refl _) _ _
      · go_wp2_with (go_at_call 94; refine ad.mono ?_; clear ad; rintro e w5 ⟨rfl, hx, hbl⟩; have H5 := Lib.hid hx; have B5 := Lib.hid (sX.out.trans hbl); clear hx hbl)
        go_roundw
        case rel =>
          obtain ⟨v', hv'⟩ := H5.out (by trivial)
          exact ⟨k + 1, by omega, by go_num, ⟨v', _, ho.out (by trivial), hv'⟩, B5.out⟩
        case measure => simp [intOf]; omega
    · obtain rfl : k = n := by omega
      have e1 : Hid (stkP l o = q ∧ stkB l o = true) := stk_some (by unfold stkO; rw [← List.take_of_length_le (l := l) (i := k) (by omega)]; exact HQ.out)
      obtain ⟨a0, a1, a2, a3, a4, a5, a6, af⟩ := rP wr (Seen.refl _)
      obtain ⟨x0, x1, x2, x3, x4, x5, x6, xf⟩ := rR wr (Seen.refl _)
      clear rP rR hkn hp
      go_wp2_with fail
      have z := ((((((HR.out.set 0 (.slice va q.y.length vc)).set 1 (.int .i64 q.edge)).set 2 (.int .i64 q.top.p)).set 3 (.int .i64 q.top.n)).set 4 (.int .i64 q.cur.p)).set 5 (.int .i64 q.cur.n)).set 6 (.bool q.att)
      have z0 := z.cell 0
      have z1 := z.cell 1
      have z2 := z.cell 2
      have z3 := z.cell 3
      have z4 := z.cell 4
      have z5 := z.cell 5
      have z6 := z.cell 6
      refine bodyPost_ret (by simp [results, Tryz.results70, go_sem, z0, z1, z2, z3, z4, z5, z6]; try rfl) rfl ?_
      rw [e1.out.1, e1.out.2]
      refine ⟨.slice va q.y.length vc, rfl, ?_, ?_⟩
      · exact row_more (((((((HP.out.row.far hb1.out _ _).far hb1.out _ _).far hb1.out _ _).far hb1.out _ _).far hb1.out _ _).far hb1.out _ _).far hb1.out _ _) (Nat.le_of_lt hb1.out)
      · exact below_set (below_set (below_set (below_set (below_set (below_set (below_set HS.out (Nat.le_refl _) _ _) (Nat.le_refl _) _ _) (Nat.le_refl _) _ _) (Nat.le_refl _) _ _) (Nat.le_refl _) _ _) (Nat.le_refl _) _ _) (Nat.le_refl _) _ _
end Go.Proofs.YtngeaigkafamiaaGreat
namespace Go.Proofs.YtngeaigkafamiaaGreat
open Go.ChangeShapes Go.WideShapes Go.ChangeAt Go.RowKit
set_option maxRecDepth 100000
def pdv (p : Pd) : Value := .agg (pdl p).toArray
theorem built61 (n : Int) : Tryz.prog.built 114 [(0, .int .i64 n)] = some (pdl ⟨n, zFr⟩).toArray := by kernel_rfl
theorem wpList_buildPd {ops : Array Oper} {rest : List Oper} {o : Oper} {a : Act} {w : World} {Q : Exit → Act → World → Prop} (hg : o.guard = none) (x : Operand) (ho : o.op = .build 114 #[(0, x)]) (n : Int)
    (hx : a.eval x = .int .i64 n) (h : wpList Tryz.prog ops Q rest (a.put o.dst (pdv ⟨n, zFr⟩)) w) : wpList Tryz.prog ops Q (o :: rest) a w := by
  refine wpList_buildTo hg 114 _ ho _ rfl (pdl ⟨n, zFr⟩).toArray ?_ h
  have e : ((#[(0, x)] : Array (Nat × Operand)).map fun (i, x) => (i, a.eval x)).toList = [(0, .int .i64 n)] := by simp [hx]
  rw [e]
  exact built61 n
theorem info61z : (Tryz.prog.info? 114).map (fun i => (i.zero, i.size, i.bytes)) = some (some (.agg (pdl zPd).toArray), 26, 208) := by kernel_rfl
theorem row_zero61 : (Array.range (1 * 26)).map ((pdl zPd).toArray[· % (pdl zPd).toArray.size]!) = (pdl zPd).toArray := by kernel_rfl
theorem wpList_buildPs {ops : Array Oper} {rest : List Oper} {o : Oper} {a : Act} {w : World} {Q : Exit → Act → World → Prop} (hg : o.guard = none) (x : Operand) (ho : o.op = .buildSlice 38 1 #[(0, x)]) (q : Pd)
    (hx : a.eval x = pdv q) (h : wpList Tryz.prog ops Q rest (a.put o.dst (.slice (some ⟨w.heap.size, 0, none⟩) 1 1)) (w.alloc (.cells (pdl q).toArray 114))) : wpList Tryz.prog ops Q (o :: rest) a w := by
  obtain ⟨i0, hi, hz0, hz1, hz2⟩ := info_parts info61z
  refine wpList_buildSlice hg 38 114 1 _ ho (pdl q).toArray i0 _ Tryz.underlying38 hi hz0 (by rw [hz1]; decide) (by rw [hz1]; decide) ?_ h
  have e : ((#[(0, x)] : Array (Nat × Operand)).map fun (i, x) => (i, a.eval x)).toList = [(0, pdv q)] := by simp [hx]
  rw [e, hz1]
  show Instr.fill _ ((Array.range (1 * 26)).map ((pdl zPd).toArray[· % (pdl zPd).toArray.size]!)) _ = _
  rw [row_zero61, fill_cons (vs := pdl q) (off := 0) (cs' := pdl q) (by rw [pdl_length]) rfl (by rw [pdl_length, pdl_length]; omega)]
  · rfl
  · exact sets_all _ _ rfl
def encI (x : Int) : List Value := [.int .i64 x]
theorem encI_one (x : Int) : ∀ u ∈ encI x, u.oneCell' = true := by
  intro u hu
  rw [encI, List.mem_singleton] at hu
  subst hu; rfl
theorem info45z : (Tryz.prog.info? 35).map (fun i => (i.zero, i.size, i.bytes)) = some (some (chv zeroC), 8, 64) := by kernel_rfl
theorem mk113 (n : Nat) (hn : n ≤ 1000) : ∃ cur : Array Value, cur.size = n * 8 ∧ ∀ w : World, (Instr.makeSlice 165 (.int .i64 0) (.int .i64 (n : Int))).run Tryz.prog w = .ok (.slice (some ⟨w.heap.size, 0, none⟩) 0 n) (w.alloc (.cells cur 35)) := by
  obtain ⟨i0, hi, hz0, hz1, hz2⟩ := info_parts info45z
  refine ⟨madeCells (chv zeroC).cells (n * 8), size_madeCells _ _, fun w => ?_⟩
  have := run_make (P := Tryz.prog) w 165 35 i0 _ Tryz.underlying165 hi hz0 .i64 .i64 0 n (by omega) (by omega) (by rw [hz2]; omega) (by omega)
  rw [hz1] at this
  simpa using this
theorem mk32 (n : Nat) (hn : n ≤ 1000) : ∃ cur : Array Value, cur.size = n * 1 ∧ ∀ w : World, (Instr.makeSlice 135 (.int .i64 0) (.int .i64 (n : Int))).run Tryz.prog w = .ok (.slice (some ⟨w.heap.size, 0, none⟩) 0 n) (w.alloc (.cells cur 3)) := by
  obtain ⟨i0, hi, hz0, hz1, hz2⟩ := info_parts info3z
  refine ⟨madeCells (Value.int .i64 0).cells (n * 1), size_madeCells _ _, fun w => ?_⟩
  have := run_make (P := Tryz.prog) w 135 3 i0 _ Tryz.underlying135 hi hz0 .i64 .i64 0 n (by omega) (by omega) (by rw [hz2]; omega) (by omega)
  rw [hz1] at this
  simpa using this
theorem GR.block {α : Type} {enc : α → List Value} {e : TypeId} {size : Nat} {w : World} {base : Nat} {v : Value} {l : List α} (h : GR enc e size w base v l) (h0 : 0 < l.length) : ∃ g cap, v = .slice (some ⟨g, 0, none⟩) l.length cap := by
  obtain ⟨n, hn⟩ : ∃ n, l.length = n + 1 := ⟨l.length - 1, by omega⟩
  have h' : w.ownsRow base e size v (n + 1) (l.flatMap enc) := by unfold GR at h; rw [hn] at h; exact h
  obtain ⟨g, cap, rfl⟩ := ownsRow_succ h'
  exact ⟨g, cap, by rw [hn]⟩
theorem run_index48 (g k n c : Nat) (hk : k < n) (w : World) : (Instr.indexAt 38 (.slice (some ⟨g, 0, none⟩) n c) (.int .i64 k)).run Tryz.prog w = .ok (.pointer (some ⟨g, k * 26, none⟩)) w := by
  simp [Instr.indexAt, asIntOf, run_underlying Tryz.underlying38, Tryz.sizeOf114, add_plain]
  omega
theorem run_index32 (g o k n c : Nat) (hk : k < n) (w : World) : (Instr.indexAt 135 (.slice (some ⟨g, o, none⟩) n c) (.int .i64 k)).run Tryz.prog w = .ok (.pointer (some ⟨g, o + k, none⟩)) w := by
  simp [Instr.indexAt, asIntOf, run_underlying Tryz.underlying135, Tryz.sizeOf3, add_plain]
  omega
abbrev zlay : List Value := [.slice none 0 0, .slice none 0 0, .int .i64 0, .int .i64 0, .int .i64 0, .int .i64 0, .int .i64 0, .bool false, .int .i64 0]
theorem layl_one {lv yv : Value} (h1 : lv.oneCell' = true) (h2 : yv.oneCell' = true) (p : Pi) (hi : Int) : ∀ u ∈ layl lv yv p hi, u.oneCell' = true := by
  intro u hu
  simp only [layl, List.mem_cons, List.not_mem_nil, or_false] at hu
  rcases hu with rfl | rfl | rfl | rfl | rfl | rfl | rfl | rfl | rfl
  · exact h1
  · exact h2
  all_goals rfl
theorem wpList_storeL {ops : Array Oper} {rest : List Oper} {op : Oper} {a : Act} {w : World} {Q : Exit → Act → World → Prop} (hgd : op.guard = none) (x y : Operand) (ho : op.op = .store 43 x y) (X : Nat) (cs : List Value) (lv yv : Value) (h1 : lv.oneCell' = true) (h2 : yv.oneCell' = true) (p : Pi) (hi : Int)
    (hx : a.eval x = .pointer (some ⟨X, 0, none⟩)) (hy : a.eval y = layv lv yv p hi) (hl : cs.length = 9) (hb : Blk w X cs 43)
    (h : ∀ w', Blk w' X (layl lv yv p hi) 43 → Turns X w w' → wpList Tryz.prog ops Q rest (a.put op.dst undef) w') : wpList Tryz.prog ops Q (op :: rest) a w :=
  wpList_storeC hgd 43 x y ho X 0 (layl lv yv p hi) hx hy infoL (layl_one h1 h2 p hi) hb (by rw [hl]; exact Nat.le_refl _) (sets_all _ _ hl) h
structure CI (w0 : World) (D : Nat) (kv : Value) (W : World) (v : Value) (c : Ct) (en : En) (kb : Nat) (sl : Value) (K : List Int) (wr : World) (vi : Value) (qs : List Pd) (chs : List Ch) (pls : List Int) (u q : Value) : Prop where
  ls : LS w0 D kv wr vi qs
  mv : Moves (own D v) (own D vi) W wr
  ch : GR chl 35 8 wr (W.heap.size + 1 + 1 + 1) u chs
  pl : GR encI 3 1 wr (W.heap.size + 1 + 1 + 1) q pls
  kc : Blk wr W.heap.size (ctl c) 82
  ke : Blk wr (W.heap.size + 1) (enl en) 131
  kz : Blk wr (W.heap.size + 1 + 1) zlay 43
  kd : RI wr kb sl K
section
variable {w0 : World} {D : Nat} {kv : Value} {W : World} {v : Value} {c : Ct} {en : En} {kb : Nat} {sl : Value} {K : List Int} {wr w' : World} {vi : Value} {qs : List Pd} {chs : List Ch} {pls : List Int} {u q : Value}
theorem CI.seen (h : CI w0 D kv W v c en kb sl K wr vi qs chs pls u q) (hs : Seen wr w') : CI w0 D kv W v c en kb sl K w' vi qs chs pls u q :=
  ⟨h.ls.seen' hs, h.mv.newer (Below.mono hs h.mv.size), h.ch.seen hs, h.pl.seen hs, h.kc.seen hs, h.ke.seen hs, h.kz.seen hs, h.kd.seen hs⟩
theorem CI.moves (h : CI w0 D kv W v c en kb sl K wr vi qs chs pls u q) {v' : Value} {qs' : List Pd} (hl : LS w0 D kv w' v' qs') (m : Moves (own D vi) (own D v') wr w') : CI w0 D kv W v c en kb sl K w' v' qs' chs pls u q :=
  ⟨hl, h.mv.trans m, row_moves h.ch h.ls (by decide) (by decide) m, row_moves h.pl h.ls (by decide) (by decide) m, h.kc.moves h.ls (by decide) (by decide) m, h.ke.moves h.ls (by decide) (by decide) m, h.kz.moves h.ls (by decide) (by decide) m, row_moves h.kd h.ls (by decide) (by decide) m⟩
theorem grown_block {w w' : World} {tmp : Obj} {r : Option Nat} (hg : (w.alloc tmp).grownBy w' r) {k : Nat} (hk : k < w.heap.size) (hne : r ≠ some k) : w'.heap[k]? = w.heap[k]? :=
  (hg.block k (by simp; omega) (fun e => hne e.symm)).trans (Below.heap_alloc w tmp k hk)
theorem type_apart {w : World} {base : Nat} {e : TypeId} {size n : Nat} {x : Value} {xs : List Value} (h : w.ownsRow base e size x n xs) {B : Nat} {cur : Array Value} {t : TypeId} (hb : w.heap[B]? = some (.cells cur t)) (hne : t ≠ e) : x.ownBlock ≠ some B := fun hx => by
  obtain ⟨c, hc⟩ := row_block h hx
  rw [hb] at hc
  simp at hc
  exact hne hc.2
theorem rows_apart {w : World} {base base' : Nat} {e e' : TypeId} {size n size' n' : Nat} {x y : Value} {xs ys : List Value} (h : w.ownsRow base e size x n xs) (k : w.ownsRow base' e' size' y n' ys) (hne : e' ≠ e) {g : Nat} (hg : y.ownBlock = some g) : x.ownBlock ≠ some g := by
  obtain ⟨c, hc⟩ := row_block k hg
  exact type_apart h hc hne
theorem row_grown {w w' : World} {tmp : Obj} {base base' : Nat} {e e' : TypeId} {size n size' n' : Nat} {x y : Value} {xs ys : List Value} (h : w.ownsRow base e size x n xs) (hg : (w.alloc tmp).grownBy w' x.ownBlock) (k : w.ownsRow base' e' size' y n' ys) (hne : e' ≠ e) : w'.ownsRow base' e' size' y n' ys :=
  ownsRow_keeps k fun g hg' => grown_block hg (k.lt g hg').2 (rows_apart h k hne hg')
theorem blk_grown {w w' : World} {tmp : Obj} {base : Nat} {e t : TypeId} {size n B : Nat} {x : Value} {xs cs : List Value} (h : w.ownsRow base e size x n xs) (hg : (w.alloc tmp).grownBy w' x.ownBlock) (k : Blk w B cs t) (hne : t ≠ e) : Blk w' B cs t :=
  (grown_block hg k.lt (type_apart h k hne)).trans k
theorem below_grown {w w' : World} {tmp : Obj} {base : Nat} {e : TypeId} {size n : Nat} {x : Value} {xs : List Value} (h : w.ownsRow base e size x n xs) (hb : base ≤ w.heap.size) (hg : (w.alloc tmp).grownBy w' x.ownBlock) : Below base w w' :=
  ((Below.refl base w).alloc hb tmp).grown hg (by simp; omega) (fun g hg => (h.lt g hg).1)
theorem LS.grown {w w' : World} {tmp : Obj} {base : Nat} {e : TypeId} {size n : Nat} {x : Value} {xs : List Value} (hl : LS w0 D kv w vi qs) (h : w.ownsRow base e size x n xs) (hb : base ≤ w.heap.size) (hbase : w0.heap.size ≤ base) (hg : (w.alloc tmp).grownBy w' x.ownBlock) (h1 : (85 : TypeId) ≠ e) (h2 : (114 : TypeId) ≠ e) : LS w0 D kv w' vi qs :=
  ⟨Below.trans hl.seen ((below_grown h hb hg).mono hbase), blk_grown h hg hl.blk h1, row_grown h hg hl.row h2⟩
theorem CI.pushP (h : CI w0 D kv W v c en kb sl K wr vi qs chs pls u q) (hD : w0.heap.size ≤ D) (hDW : D < W.heap.size) {tmp : Obj} {q' : Value} {pls' : List Int} (hg : (wr.alloc tmp).grownBy w' q.ownBlock) (hr : GR encI 3 1 w' (W.heap.size + 1 + 1 + 1) q' pls') (hsl : ∀ g, sl.ownBlock = some g → g < W.heap.size) : CI w0 D kv W v c en kb sl K w' vi qs chs pls' u q' := by
  have hb : W.heap.size + 1 + 1 + 1 ≤ wr.heap.size := by have := h.kz.lt; omega
  have hbel := below_grown h.pl hb hg
  refine ⟨h.ls.grown h.pl hb (by omega) hg (by decide) (by decide), h.mv.newer (hbel.mono (by omega)), row_grown h.pl hg h.ch (by decide), hr, blk_grown h.pl hg h.kc (by decide), blk_grown h.pl hg h.ke (by decide), blk_grown h.pl hg h.kz (by decide), ?_⟩
  exact ownsRow_keeps h.kd fun g hg' => grown_block hg (h.kd.lt g hg').2 fun e => by
    have h1 := hsl g hg'
    have h2 := (h.pl.lt g e).1
    omega
theorem CI.pushC (h : CI w0 D kv W v c en kb sl K wr vi qs chs pls u q) (hD : w0.heap.size ≤ D) (hDW : D < W.heap.size) {tmp : Obj} {u' : Value} {chs' : List Ch} (hg : (wr.alloc tmp).grownBy w' u.ownBlock) (hr : GR chl 35 8 w' (W.heap.size + 1 + 1 + 1) u' chs') : CI w0 D kv W v c en kb sl K w' vi qs chs' pls u' q := by
  have hb : W.heap.size + 1 + 1 + 1 ≤ wr.heap.size := by have := h.kz.lt; omega
  have hbel := below_grown h.ch hb hg
  exact ⟨h.ls.grown h.ch hb (by omega) hg (by decide) (by decide), h.mv.newer (hbel.mono (by omega)), hr, row_grown h.ch hg h.pl (by decide), blk_grown h.ch hg h.kc (by decide), blk_grown h.ch hg h.ke (by decide), blk_grown h.ch hg h.kz (by decide), row_grown h.ch hg h.kd (by decide)⟩
end
def BoxAns (l : List Nd) (w0 : World) (D : Nat) (kv : Value) (k : Nat) (n : Nat) (c : Ct) (W : World) (v : Value) (ps : List Pd) (e : Ending) (W' : World) : Prop :=
  ∃ (F : Fr) (a : Option Addr) (m cap : Nat) (P : Pi) (hi : Int) (ok : Bool) (v' : Value) (ps' : List Pd),
    e = .returned (.tuple #[frv F, layv (.slice none 0 0) (.slice a m cap) P hi, .bool ok]) ∧ LS w0 D kv W' v' ps' ∧ Moves (own D v) (own D v') W W' ∧
    ((boxO l k n c = none ∧ ok = false) ∨ (∃ b, boxO l k n c = some b ∧ ok = true ∧ F = b.f ∧ P = b.p ∧ hi = b.hi ∧ ps' = ps ++ b.l ∧ m = b.p.y.length ∧ RP W' W.heap.size (.slice a m cap) b.p.y))
def ContAns (l : List Nd) (w0 : World) (D : Nat) (kv : Value) (k : Nat) (K : List Int) (c : Ct) (en : En) (W : World) (v : Value) (ps : List Pd) (e : Ending) (W' : World) : Prop :=
  ∃ (a : Option Addr) (m cap : Nat) (P : Pi) (hi : Int) (ok : Bool) (v' : Value) (ps' : List Pd),
    e = .returned (.tuple #[layv (.slice none 0 0) (.slice a m cap) P hi, .bool ok]) ∧ LS w0 D kv W' v' ps' ∧ Moves (own D v) (own D v') W W' ∧
    ((contO (boxO l k) K c en = none ∧ ok = false) ∨ (∃ b, contO (boxO l k) K c en = some b ∧ ok = true ∧ P = b.p ∧ hi = b.hi ∧ ps' = ps ++ b.l ∧ m = b.p.y.length ∧ RP W' W.heap.size (.slice a m cap) b.p.y))
def BoxOK (l : List Nd) (w0 : World) (D : Nat) (kv : Value) (k : Nat) : Prop :=
  ∀ (n : Nat) (c : Ct) (W : World) (v : Value) (ps : List Pd), n < l.length → l.length - n ≤ k → LS w0 D kv W v ps → ps.length + (endN l n - (n + 1)) ≤ 70000 →
    Calls Tryz.prog 20 #[.pointer (some ⟨D, 0, none⟩), .int .i64 (n : Int), ctv c] W (BoxAns l w0 D kv k n c W v ps)
end Go.Proofs.YtngeaigkafamiaaGreat

