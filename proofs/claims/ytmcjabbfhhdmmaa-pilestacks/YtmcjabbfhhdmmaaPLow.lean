/- Contracts of the three methods of a pile: a child at the top, a child below, a child; no conditions beyond those written in each theorem. -/
import Derived.Test.YtmcjabbfhhdmmaaPTop
import Derived.Deep.DeepCutAuto
namespace Go.Proofs.Ytmcjabbfhhdmmaa
open Go.ChangeShapes Go.WideShapes Go.ChangeAt Go.RowKit
set_option maxRecDepth 100000
set_option linter.unusedVariables false
set_option maxHeartbeats 2000000 in
theorem below_any (base B : Nat) (v : Value) (p : Pi) (c : Ch) (w : World) (h : PS w base B 35 v p) :
    Calls Try.prog 18 #[.pointer (some ⟨B, 0, none⟩), chv c] w fun e w' => e = .returned (.tuple #[.int .i64 (posN p.edge p.cur c), .bool (posB p.edge p.cur c)]) ∧ Seen w w' := by
  have hlt := h.blk.lt
  obtain ⟨W, hW⟩ : ∃ W, W = (w.alloc (.cells (chl c).toArray 32)).alloc (.cells #[.int .i64 c.top.p, .int .i64 c.top.n] 30) := ⟨_, rfl⟩
  have sW : Seen w W := by rw [hW]; exact ((Seen.refl w).alloc _).alloc _
  have kC : Blk W w.heap.size (chl c) 32 := by rw [hW]; exact (Blk.new w _ _).alloc _
  have c0 := (Blk.new w (chl c) 32).alloc (.cells #[.int .i64 0, .int .i64 0] 30) |>.child
  have kT : Blk W (w.heap.size + 1) [.int .i64 c.top.p, .int .i64 c.top.n] 30 := by rw [hW]; simpa using Blk.new (w.alloc (.cells (chl c).toArray 32)) [.int .i64 c.top.p, .int .i64 c.top.n] 30
  have kP : Blk W B (pil v p) 35 := h.blk.seen sW
  obtain ⟨g, hg⟩ : ∃ g, gapN p.cur c = g := ⟨_, rfl⟩
  obtain ⟨gb, hgb⟩ : ∃ gb, gapB p.cur c = gb := ⟨_, rfl⟩
  obtain ⟨j, hj⟩ : ∃ j, joinS p.cur (byS c) = j := ⟨_, rfl⟩
  have jn := join_any p.cur (byS c)
  have vn := value_any j
  rw [hj] at jn
  have ev : valN j = g ∧ valB j = gb := by rw [← hj, ← hg, ← hgb]; exact ⟨rfl, rfl⟩
  rw [ev.1, ev.2] at vn
  have EG : Hid (posN p.edge p.cur c = (if gb then sumN [p.edge, g] else 0) ∧ posB p.edge p.cur c = (gb && sumB [p.edge, g]) ∧ True) := by
    unfold Hid posN posB; rw [hg, hgb]; exact ⟨rfl, rfl, trivial⟩
  have HS := Lib.hid sW
  have KC := Lib.hid kC
  have KT := Lib.hid kT
  have KP := Lib.hid kP
  clear h ev hg hgb hj kT kP kC
  obtain ⟨⟨tp, tn⟩, ⟨bp, bn⟩, ⟨ip, inn⟩, thr, hi⟩ := c
  obtain ⟨y, ed, ⟨pp, pn⟩, ⟨cp, cn⟩, att⟩ := p
  simp only [chl] at hW
  go_enter Try.func18, Try.ntmps18
  go_upto_region 2 with fail
  rw [← hW]
  clear hW c0
  have rC := KC.out.child
  simp only [At8, Nat.zero_add] at rC
  cases thr
  · have EU : Hid (byS ⟨⟨tp, tn⟩, ⟨bp, bn⟩, ⟨ip, inn⟩, false, hi⟩ = ⟨tp, tn⟩) := rfl
    rw [EU.out] at jn
    have t0 := KT.out.cell 0
    have t1 := KT.out.cell 1
    have tf := KT.out.free
    simp only [List.getElem?_cons_zero, List.getElem?_cons_succ] at t0 t1
    go_upto_region 4 with fail
    clear t0 t1 tf rC
    have KT2 := KT.out
    have KP2 := KP.out
    have SV := HS
    have rT := KT2.rules2
    have rP := KP2.rulesP
    have sV := Seen.refl W
    clear KT2 KP2
    simp only at jn vn rP
    refine wp_region_quiet (C := Seen W) (by kernel_rfl) (by kernel_rfl) (Seen.drew sV) ?_
    simp only []
    repeat (first
      | go_big_quiet_skip
      | (go_big_quiet_want
         apply Exists.intro
         refine ⟨fun w1 h1 => ?_, ?_⟩
         focus
           go_simp
           first | done | rfl | (go_at_call 19; with_reducible exact quiet_call h1 (jn _)) | (go_at_call 22; with_reducible exact quiet_call h1 (vn _))
         (try simp only [Act.put, List.setIfInBounds_toArray, List.set_cons_zero, List.set_cons_succ])
         go_big_quiet_on))
    refine wpQuiet_nil ?_
    intro w2 h2
    clear rT
    obtain ⟨-, e1, -⟩ := rP w2 h2
    have HS2 := Lib.hid (SV.out.trans h2)
    clear rP sV h2 jn vn
    cases gb
    · simp only [Bool.false_eq_true, if_false, Bool.false_and] at EG
      go_wp2_with fail
      go_ret2
      exact ⟨by rw [EG.out.1, EG.out.2.1]; rfl, HS2.out⟩
    · simp only [if_true, Bool.true_and] at EG
      go_wp2_with (go_at_call 20; refine (sum_any _ _ _ [ed, g] _ (zs_new w2 ed g 2) (by decide)).mono ?_; rintro e w' ⟨rfl, rfl⟩)
      go_ret2
      exact ⟨by rw [EG.out.1, EG.out.2.1]; rfl, HS2.out.alloc _⟩
  · have EU : Hid (byS ⟨⟨tp, tn⟩, ⟨bp, bn⟩, ⟨ip, inn⟩, true, hi⟩ = ⟨ip, inn⟩) := rfl
    rw [EU.out] at jn
    have t0 := KT.out.cell 0
    have t1 := KT.out.cell 1
    have tf := KT.out.free
    simp only [List.getElem?_cons_zero, List.getElem?_cons_succ] at t0 t1
    go_upto_region 4 with fail
    clear t0 t1 tf rC
    obtain ⟨V, hV⟩ : ∃ V, V = (W.setCell ⟨w.heap.size + 1, 0, none⟩ (.int .i64 ip)).setCell ⟨w.heap.size + 1, 1, none⟩ (.int .i64 inn) := ⟨_, rfl⟩
    rw [← hV]
    have KT2 : Blk V (w.heap.size + 1) [.int .i64 ip, .int .i64 inn] 30 := by rw [hV]; exact (KT.out.set 0 _).set 1 _
    have KP2 := (KP.out.other (p := ⟨w.heap.size + 1, 0, none⟩) (by simp; omega) (.int .i64 ip)).other (p := ⟨w.heap.size + 1, 1, none⟩) (by simp; omega) (.int .i64 inn)
    rw [← hV] at KP2
    have SV : Hid (Seen w V) := by rw [hV]; exact ((HS.out).setCell (by simp) _).setCell (by simp) _
    clear hV
    have rT := KT2.rules2
    have rP := KP2.rulesP
    have sV := Seen.refl V
    clear KT2 KP2
    simp only at jn vn rP
    refine wp_region_quiet (C := Seen V) (by kernel_rfl) (by kernel_rfl) (Seen.drew sV) ?_
    simp only []
    repeat (first
      | go_big_quiet_skip
      | (go_big_quiet_want
         apply Exists.intro
         refine ⟨fun w1 h1 => ?_, ?_⟩
         focus
           go_simp
           first | done | rfl | (go_at_call 19; with_reducible exact quiet_call h1 (jn _)) | (go_at_call 22; with_reducible exact quiet_call h1 (vn _))
         (try simp only [Act.put, List.setIfInBounds_toArray, List.set_cons_zero, List.set_cons_succ])
         go_big_quiet_on))
    refine wpQuiet_nil ?_
    intro w2 h2
    clear rT
    obtain ⟨-, e1, -⟩ := rP w2 h2
    have HS2 := Lib.hid (SV.out.trans h2)
    clear rP sV h2 jn vn
    cases gb
    · simp only [Bool.false_eq_true, if_false, Bool.false_and] at EG
      go_wp2_with fail
      go_ret2
      exact ⟨by rw [EG.out.1, EG.out.2.1]; rfl, HS2.out⟩
    · simp only [if_true, Bool.true_and] at EG
      go_wp2_with (go_at_call 20; refine (sum_any _ _ _ [ed, g] _ (zs_new w2 ed g 2) (by decide)).mono ?_; rintro e w' ⟨rfl, rfl⟩)
      go_ret2
      exact ⟨by rw [EG.out.1, EG.out.2.1]; rfl, HS2.out.alloc _⟩
end Go.Proofs.Ytmcjabbfhhdmmaa
