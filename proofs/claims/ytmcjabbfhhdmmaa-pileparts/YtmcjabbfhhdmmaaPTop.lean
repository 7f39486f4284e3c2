/- Contracts of the three methods of a pile: a child at the top, a child below, a child; no conditions beyond those written in each theorem. -/
import Derived.Test.YtmcjabbfhhdmmaaPMem
import Derived.Deep.DeepCutAuto
namespace Go.Proofs.Ytmcjabbfhhdmmaa
open Go.ChangeShapes Go.WideShapes Go.ChangeAt Go.RowKit
set_option maxRecDepth 100000
set_option linter.unusedVariables false
theorem add_plain' (w : World) (a b : Nat) : (⟨a, b, none⟩ : Addr).add 0 = ⟨a, b, none⟩ := add_plain a b 0
/-- x = append(x, y). -/
theorem wpList_pushI {ops : Array Oper} {rest : List Oper} {op : Oper} {a : Act} {w : World} {Q : Exit → Act → World → Prop} (hgd : op.guard = none) (s x : Operand) (ho : op.op = .call { callee := .builtin .append, args := #[s, x], argTypes := #[33, 33] })
    (base : Nat) (v : Value) (l : List Int) (y : Int) (hs : a.eval s = v) (hx : a.eval x = .slice (some ⟨w.heap.size, 0, none⟩) 1 1) (hown : RI w base v l) (hl : l.length ≤ 1000000) (hb : base ≤ w.heap.size)
    (h : ∀ g cap w', RI w' base (.slice (some ⟨g, 0, none⟩) (l.length + 1) cap) (l ++ [y]) → (w.alloc (.cells #[.int .i64 y] 2)).grownBy w' v.ownBlock → wpList Try.prog ops Q rest (a.put op.dst (.slice (some ⟨g, 0, none⟩) (l.length + 1) cap)) w') : wpList Try.prog ops Q (op :: rest) a (w.alloc (.cells #[.int .i64 y] 2)) := by
  obtain ⟨i0, hi, hz0, hz1, hz2⟩ := info_parts info2z
  refine wpList_append_own (P := Try.prog) _ hgd s x 33 ho base 2 i0 (.int .i64 0) 1 8 Try.underlying33 hi hz0 hz1 hz2 rfl (by decide) v l.length (flI l) hs (hown.alloc _) ⟨w.heap.size, 0, none⟩ 1 1 [.int .i64 y] hx rfl (one_at _ _ _) (by intro u hu; rw [List.mem_singleton] at hu; subst hu; rfl) (by unfold maxLen; omega) (by omega) (by simp; omega) ?_
  intro v' w' h1 h2 _
  obtain ⟨g, cap, rfl⟩ := ownsRow_succ h1
  refine h g cap w' ?_ h2
  unfold RI
  rw [flI_append, List.length_append]
  exact h1
theorem Blk.rulesC {w : World} {B : Nat} {c : Ch} {t : TypeId} (h : Blk w B (chl c) t) : ∀ w', Seen w w' → At8 w' B 0 c := fun w' hs => (h.seen hs).child
theorem Blk.rulesP {w : World} {B : Nat} {sv : Value} {p : Pi} {t : TypeId} (h : Blk w B (pil sv p) t) : ∀ w', Seen w w' → (w'.cell? ⟨B, 0, none⟩ = some sv ∧ w'.cell? ⟨B, 1, none⟩ = some (.int .i64 p.edge) ∧ w'.cell? ⟨B, 2, none⟩ = some (.int .i64 p.top.p) ∧ w'.cell? ⟨B, 3, none⟩ = some (.int .i64 p.top.n) ∧ w'.cell? ⟨B, 4, none⟩ = some (.int .i64 p.cur.p) ∧ w'.cell? ⟨B, 5, none⟩ = some (.int .i64 p.cur.n) ∧ w'.cell? ⟨B, 6, none⟩ = some (.bool p.att) ∧ (∀ o, w'.frozen? ⟨B, o, none⟩ = false)) :=
  fun w' hs => ⟨(h.seen hs).cell 0, (h.seen hs).cell 1, (h.seen hs).cell 2, (h.seen hs).cell 3, (h.seen hs).cell 4, (h.seen hs).cell 5, (h.seen hs).cell 6, (h.seen hs).free⟩
theorem grow_other {W w1 : World} {X : Nat} {l : List Value} {t : TypeId} {base : Nat} {v : Value} {xs : List Int} {tmp : Obj} (h : Blk W X l t) (ht : t ≠ 2) (hr : RI W base v xs) (hg : (W.alloc tmp).grownBy w1 v.ownBlock) : Blk w1 X l t :=
  (hg.block X (h.alloc tmp).lt (fun e => row_apart h ht hr e.symm)).trans (h.alloc tmp)
theorem RI.two {w : World} {B : Nat} {l : List Value} {t : TypeId} {base : Nat} {v : Value} {xs : List Int} (hr : RI w base v xs) (h : Blk w B l t) (ht : t ≠ 2) (o o' : Nat) (u u' : Value) : RI ((w.setCell ⟨B, o, none⟩ u).setCell ⟨B, o', none⟩ u') base v xs := (hr.other h ht o u).other (h.set o u) ht o' u'
theorem RI.three {w : World} {B : Nat} {l : List Value} {t : TypeId} {base : Nat} {v : Value} {xs : List Int} (hr : RI w base v xs) (h : Blk w B l t) (ht : t ≠ 2) (o o' o'' : Nat) (u u' u'' : Value) : RI (((w.setCell ⟨B, o, none⟩ u).setCell ⟨B, o', none⟩ u').setCell ⟨B, o'', none⟩ u'') base v xs := (hr.two h ht o o' u u').other ((h.set o u).set o' u') ht o'' u''
theorem below_set {n : Nat} {w w' : World} (h : Below n w w') {B : Nat} (hB : n ≤ B) (o : Nat) (u : Value) : Below n w (w'.setCell ⟨B, o, none⟩ u) := h.setCell (by simp; omega) u
theorem zs_new (w : World) (a b : Int) (t : TypeId) : ZS (w.alloc (.cells #[.int .i64 a, .int .i64 b] t)) (some ⟨w.heap.size, 0, none⟩) 2 [a, b] := by
  have k := Blk.new w [.int .i64 a, .int .i64 b] t
  refine ⟨rfl, fun _ => ⟨_, _, rfl, fun i hi => ?_⟩⟩
  rcases (show i = 0 ∨ i = 1 by omega) with rfl | rfl
  · exact k.cell 0
  · exact k.cell 1
set_option maxHeartbeats 2000000 in
theorem addAtTop_any (base B : Nat) (v : Value) (p : Pi) (c : Ch) (w : World) (h : PS w base B 35 v p) (hb : base ≤ B) (hl : p.y.length ≤ 100000) :
    Calls Try.prog 17 #[.pointer (some ⟨B, 0, none⟩), chv c] w fun e w' => e = .returned (.bool (topB c)) ∧ (∃ v', PS w' base B 35 v' (topP p c)) ∧ Below base w w' := by
  have hlt := h.blk.lt
  obtain ⟨W, hW⟩ : ∃ W, W = w.alloc (.cells (chl c).toArray 32) := ⟨_, rfl⟩
  have sW : Seen w W := by rw [hW]; exact (Seen.refl w).alloc _
  have kW : Blk W w.heap.size (chl c) 32 := by rw [hW]; exact Blk.new w _ _
  have bW : Hid (Below base w W) := (by rw [hW]; exact (Below.refl base w).alloc (by omega) _ : Below base w W)
  have HP := Lib.hid (h.seen sW)
  have HK := Lib.hid kW
  have c0 := HP.out.blk.cell 0
  have hWs : Hid (base ≤ W.heap.size) := by rw [hW]; unfold Hid; simp; omega
  have HL : Hid (p.y.length ≤ 1000000) := Nat.le_trans hl (by decide)
  have hne : w.heap.size ≠ B := by omega
  have ef : fits_any = fits_any := rfl
  have jn := join_any p.top c.top
  have fn := fits_any c.high
  clear h kW sW hl ef
  obtain ⟨⟨tp, tn⟩, ⟨bp, bn⟩, ⟨ip, inn⟩, thr, hi⟩ := c
  obtain ⟨y, ed, ⟨pp, pn⟩, ⟨cp, cn⟩, att⟩ := p
  simp only at HL jn fn
  obtain ⟨r, hr⟩ : ∃ r, joinS ⟨pp, pn⟩ ⟨tp, tn⟩ = r := ⟨_, rfl⟩
  rw [hr] at jn
  have ER : Hid (joinS ⟨pp, pn⟩ ⟨tp, tn⟩ = r ∧ True) := ⟨hr, trivial⟩
  clear hr
  go_enter Try.func17, Try.ntmps17
  go_upto_region 1 with fail
  simp only [chl] at hW
  rw [← hW]
  clear hW
  go_upto_region 2 with (at_builtin; refine wpList_pushI rfl (.tmp 9) (.tmp 10) rfl base v y 0 rfl rfl HP.out.row HL.out hWs.out ?_; intro g cap w1 hown hgrow; have st := pile_step HP.out (by decide) hb hown hgrow; have ko := grow_other HK.out (by decide) HP.out.row hgrow; have q0 : w1.cell? ⟨B, 0, none⟩ = some v := st.1.cell 0; have q1 := st.1.free 0; have ST := Lib.hid (And.intro st ko); clear st ko hown hgrow c0 HP HK)
  obtain ⟨v', hv'⟩ : ∃ v', Value.slice (some ⟨g, 0, none⟩) (y.length + 1) cap = v' := ⟨_, rfl⟩
  rw [hv'] at ST ⊢
  clear hv'
  obtain ⟨V, hV⟩ : ∃ V, V = w1.setCell ⟨B, 0, none⟩ v' := ⟨_, rfl⟩
  have HV := ST.out.1.2
  have KV := ST.out.2.other (p := ⟨B, 0, none⟩) (by simp; omega) v'
  rw [← hV] at HV KV
  have HV2 := Lib.hid HV
  have KV2 := Lib.hid KV
  rw [← hV]
  clear hV ST q0 q1
  have rP := HV.1.blk.rulesP
  have rC := KV.rulesC
  have sV := Seen.refl V
  have dV := (Seen.refl V).drew
  simp only [At8, Nat.zero_add] at rC
  clear HV KV
  go_cut [] (fun wx => (PS wx base B 35 v' ⟨y ++ [0], ed, r, ⟨cp, cn⟩, att⟩ ∧ Blk wx w.heap.size (chl ⟨⟨tp, tn⟩, ⟨bp, bn⟩, ⟨ip, inn⟩, thr, hi⟩) 32 ∧ Below base w wx : Prop))
  case first =>
    go_region_with (go_at_call 19; refine (jn _).mono ?_; rintro e w2 ⟨rfl, hb2⟩; have s2 : Seen V w2 := dV.next hb2; clear hb2)
    all_goals
      go_wp2_with fail
      go_meet
      have a1 := (HV2.out.1.blk.seen s2).set 2 (.int .i64 r.p)
      refine ⟨⟨a1.set 3 (.int .i64 r.n), ?_⟩, ?_, ?_⟩
      · exact (((HV2.out.1.row.seen s2).other (HV2.out.1.blk.seen s2) (by decide) _ _).other a1 (by decide) _ _)
      · exact ((KV2.out.seen s2).other (by simp; omega) _).other (by simp; omega) _
      · exact (((bW.out.trans HV2.out.2).trans (s2.mono (by have := HV2.out.1.blk.lt; omega))).setCell (by simp; omega) _).setCell (by simp; omega) _
  obtain ⟨P2, K2, B2⟩ := hcut
  have HP2 := Lib.hid P2
  have HB2 := Lib.hid B2
  have HK2 := Lib.hid K2
  have rP2 := P2.blk.rulesP
  have rC2 := K2.rulesC
  simp only [At8, Nat.zero_add] at rC2
  have sV2 := Seen.refl wc
  clear rP rC sV dV HV2 KV2 P2 K2 B2 jn
  cases thr
  · have T1 : Hid (topB ⟨⟨tp, tn⟩, ⟨bp, bn⟩, ⟨ip, inn⟩, false, hi⟩ = fitsB hi) := by unfold Hid topB; rfl
    go_upto_region 6 with fail
    obtain ⟨V5, hV5⟩ : ∃ V5, V5 = wc.setCell ⟨B, 6, none⟩ (.bool false) := ⟨_, rfl⟩
    rw [← hV5]
    have P5 : PS V5 base B 35 v' ⟨y ++ [0], ed, r, ⟨cp, cn⟩, false⟩ := by
      rw [hV5]
      exact ⟨HP2.out.blk.set 6 (.bool false), HP2.out.row.other HP2.out.blk (by decide) _ _⟩
    have K5 := HK2.out.other (p := ⟨B, 6, none⟩) (by simp; omega) (.bool false)
    have B5 : Below base w V5 := by rw [hV5]; exact HB2.out.setCell (by simp; omega) _
    rw [← hV5] at K5
    have HP5 := Lib.hid P5
    have HB5 := Lib.hid B5
    have HK5 := Lib.hid K5
    obtain ⟨b0, b1, b2, b3, b4, b5, b6, f5⟩ := P5.blk.rulesP V5 (Seen.refl _)
    clear b0 b2 b3 b6
    have ac := K5.child
    simp only [At8, Nat.zero_add] at ac
    obtain ⟨-, -, a2, a3, -, -, -, a7⟩ := ac
    clear rP2 rC2 sV2 HP2 HB2 HK2 P5 K5 B5 hV5
    go_cut [] (fun wx => (PS wx base B 35 v' ⟨y ++ [0], hi, r, ⟨bp, bn⟩, false⟩ ∧ Blk wx w.heap.size (chl ⟨⟨tp, tn⟩, ⟨bp, bn⟩, ⟨ip, inn⟩, false, hi⟩) 32 ∧ Below base w wx : Prop))
    case first =>
      go_region_with fail
      all_goals
        go_wp2_with fail
        go_meet
        refine ⟨⟨((HP5.out.blk.set _ _).set _ _).set _ _, HP5.out.row.three HP5.out.blk (by decide) _ _ _ _ _ _⟩, ((HK5.out.other (by simp; omega) _).other (by simp; omega) _).other (by simp; omega) _, (below_set (below_set (below_set HB5.out hb _ _) hb _ _) hb _ _).drew⟩
    obtain ⟨P6, K6, B6⟩ := hcut
    have HP6 := Lib.hid P6
    have HB6 := Lib.hid B6
    have c7 := K6.child.2.2.2.2.2.2.2
    simp only [Nat.zero_add] at c7
    clear HP5 HB5 HK5 P6 K6 B6 a2 a3 a7 b1 b4 b5 f5
    go_wp2_with (go_at_call 21; refine (fn _).mono ?_; rintro e w7 ⟨rfl, rfl⟩)
    go_ret
    exact ⟨ret_bool T1.out.symm, ⟨v', by unfold topP; rw [if_neg (by simp), ER.out.1]; exact HP6.out⟩, HB6.out⟩
  · have T1 : Hid (topB ⟨⟨tp, tn⟩, ⟨bp, bn⟩, ⟨ip, inn⟩, true, hi⟩ = true) := by unfold Hid topB; rfl
    go_wp2_with fail
    go_ret
    exact ⟨ret_bool T1.out.symm, ⟨v', by unfold topP; rw [if_pos rfl, ER.out.1]; exact HP2.out⟩, HB2.out⟩
end Go.Proofs.Ytmcjabbfhhdmmaa
