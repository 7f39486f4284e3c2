/- Contract of Stack; no conditions beyond those written in each theorem. -/
import Derived.Test.YtmcjabbfhhdmmaaPAdd
import Derived.OwnWalk
namespace Go.Proofs.Ytmcjabbfhhdmmaa
open Go.ChangeShapes Go.WideShapes Go.ChangeAt Go.RowKit
set_option maxRecDepth 100000
set_option linter.unusedVariables false
abbrev zpil : List Value := [.slice none 0 0, .int .i64 0, .int .i64 0, .int .i64 0, .int .i64 0, .int .i64 0, .bool false]
/-- The answer is a pile and whether all fits; its row is new memory; nothing old has turned. -/
def StkAns (w : World) (q : Pi) (b : Bool) (e : Ending) (w' : World) : Prop := ∃ v, e = .returned (.tuple #[piv v q, .bool b]) ∧ RI w' w.heap.size v q.y ∧ Seen w w'
theorem PS.slice' {w : World} {base B : Nat} {t : TypeId} {v : Value} {p : Pi} (h : PS w base B t v p) : ∃ a c, v = .slice a p.y.length c ∧ True := by
  obtain ⟨a, c, h1, -⟩ := h.row.slice
  exact ⟨a, c, h1, trivial⟩
theorem RI.far {w : World} {base : Nat} {v : Value} {xs : List Int} (hr : RI w base v xs) {B : Nat} (hB : B < base) (o : Nat) (u : Value) : RI (w.setCell ⟨B, o, none⟩ u) base v xs :=
  ownsRow_keeps hr (fun g hg => Below.heap_setCell w _ _ g (fun e => by have := (hr.lt g hg).1; simp at e; omega))
theorem CS.len {w : World} {a : Option Addr} {n : Nat} {l : List Ch} (h : CS w a n l) : l.length = n := h.1
set_option maxHeartbeats 4000000 in
theorem stack_any (a : Option Addr) (n c : Nat) (l : List Ch) (o : Bool) (w : World) (h : CS w a n l) (hn : n ≤ 1000) :
    Calls Try.prog 8 #[.slice a n c, .bool o] w (StkAns w (stkP l o) (stkB l o)) := by
  obtain ⟨i0, hi, hz0, hz1, hz2⟩ := info_parts info2z
  have hlen := h.len
  have HC := Lib.hid h
  clear h
  go_enter Try.func8, Try.ntmps8
  go_upto_region 1 with fail
  obtain ⟨W, hW⟩ : ∃ W, W = w.alloc (.cells zpil.toArray 35) := ⟨_, rfl⟩
  have kW : Blk W w.heap.size zpil 35 := by rw [hW]; exact Blk.new w _ _
  have sW : Seen w W := by rw [hW]; exact (Seen.refl w).alloc _
  have HWS : Hid (W.heap.size = w.heap.size + 1) := by rw [hW]; simp [Hid]
  rw [← hW]
  clear hW
  go_upto_region 2 with (at_make; refine wpList_make_own _ rfl _ _ 33 rfl W.heap.size 2 i0 (.int .i64 0) 1 Try.underlying33 hi hz0 hz1 .i64 .i64 _ n rfl rfl rfl (by rw [hz2]; omega) (by unfold maxLen; omega) (Nat.le_refl _) ?_; intro w0 hown0 hgrow0)
  obtain ⟨W1, hW1⟩ : ∃ W1, W1 = w0.alloc (.cells #[.slice (some ⟨W.heap.size, 0, none⟩) 0 n, .int .i64 0, .int .i64 0, .int .i64 0, .int .i64 0, .int .i64 0, .bool o] 35) := ⟨_, rfl⟩
  obtain ⟨B, hB⟩ : ∃ B, w0.heap.size = B := ⟨_, rfl⟩
  have kB : Blk W1 B (pil (.slice (some ⟨W.heap.size, 0, none⟩) 0 n) (openP o)) 35 := by rw [hW1, ← hB]; exact Blk.new w0 _ _
  have hbB : W.heap.size ≤ B := by rw [← hB]; exact hgrow0.size
  have bW1 : Below W.heap.size W W1 := by rw [hW1]; exact ((Below.refl _ W).grown hgrow0 (Nat.le_refl _) (fun g hg => by cases hg)).alloc hgrow0.size _
  have pW1 : PS W1 W.heap.size B 35 (.slice (some ⟨W.heap.size, 0, none⟩) 0 n) (openP o) := ⟨kB, by rw [hW1]; exact World.ownsRow.alloc hown0 _⟩
  rw [← hW1, hB]
  have HC1 := Lib.hid (HC.out.seen sW)
  have HP1 := Lib.hid pW1
  have HW1 := Lib.hid bW1
  have HKW := Lib.hid kW
  have HSW := Lib.hid sW
  have hb1 : Hid (w.heap.size < W.heap.size) := by have := HWS.out; unfold Hid; omega
  clear HWS
  clear hW1 kB pW1 bW1 hown0 hgrow0 kW sW hi hz0 hz1 hz2 HC hB
  go_wp2_with fail
  go_loopw [16] (fun i wr => ∃ k : Nat, k ≤ n ∧ i = .int .i64 k ∧ (∃ v q, runP (openP o) (l.take k) = some q ∧ PS wr W.heap.size B 35 v q) ∧ Below W.heap.size W wr) (fun i _ => n - (intOf i).toNat)
  case atStart => exact ⟨0, Nat.zero_le _, rfl, ⟨_, _, rfl, HP1.out⟩, HW1.out⟩
  case round =>
    clear HP1
    obtain ⟨k, hk, rfl, ⟨v, q, hq, hp⟩, hbel⟩ := hrel
    have HQ := Lib.hid hq
    have HP := Lib.hid hp
    have HB := Lib.hid hbel
    have HR : Hid (Blk wr w.heap.size zpil 35) := (hbel.block _ hb1.out).trans HKW.out
    have HS : Hid (Seen w wr) := HSW.out.trans hbel
    clear hq hbel
    obtain ⟨va, vc, rfl, -⟩ := hp.slice'
    have rP := HP.out.blk.rulesP
    have rR := (show Blk wr w.heap.size (pil (.slice none 0 0) zeroP) 35 from HR.out).rulesP
    simp only [zeroP, zS] at rR
    by_cases hkn : k < n
    · obtain ⟨b, off, rfl, hats⟩ := CS.ats (HC1.out.seen HB.out) (show 0 < n by omega)
      have hat := hats k hkn
      clear hats
      unfold At8 at hat
      obtain ⟨x0, x1, x2, x3, x4, x5, x6, x7⟩ := hat
      have hyl : q.y.length ≤ 100000 := by have := runP_len HQ.out; simp [openP] at this; omega
      have HL := Lib.hid hyl
      clear rP rR hyl
      have hkl : k < l.length := by omega
      have ho : Hid (addB q (cat l k) = true → runP (openP o) (l.take (k + 1)) = some (addP q (cat l k))) := fun h => runP_next hkl HQ.out h
      have hs : Hid (addB q (cat l k) = false → stkP l o = zeroP ∧ stkB l o = false) := fun h => stk_none (runP_stop hkl HQ.out h)
      clear hkl
      obtain ⟨cc, hcc⟩ : ∃ cc, cat l k = cc := ⟨_, rfl⟩
      rw [hcc] at ho hs x0 x1 x2 x3 x4 x5 x6 x7
      clear hcc
      obtain ⟨X, hX⟩ : ∃ X, X = wr.alloc (.cells (chl cc).toArray 32) := ⟨_, rfl⟩
      have pX : PS X W.heap.size B 35 _ q := HP.out.seen (by rw [hX]; exact (Seen.refl wr).alloc _)
      have ad := add_any W.heap.size B _ q cc X pX hbB HL.out
      have sX : Hid (Below W.heap.size W X) := by rw [hX]; exact HB.out.alloc HB.out.size _
      have kX := (Blk.new wr (chl cc) 32).child
      simp only [At8, Nat.zero_add, chl] at kX
      have hsz : Hid (W.heap.size ≤ wr.heap.size) := HB.out.size
      obtain ⟨⟨tp, tn⟩, ⟨bp, bn⟩, ⟨ip, inn⟩, thr, hi⟩ := cc
      simp only [chl] at hX
      generalize addB q ⟨⟨tp, tn⟩, ⟨bp, bn⟩, ⟨ip, inn⟩, thr, hi⟩ = ab at ad ho hs
      clear pX HP
      go_upto_region 5 with fail
      rw [← hX]
      rw [← hX] at kX
      clear hX
      cases ab
      · go_upto_region 6 with (go_at_call 11; refine ad.mono ?_; clear ad; rintro e w5 ⟨rfl, hx, hbl⟩; have H5 := Lib.hid hx; have B5 := Lib.hid (sX.out.trans hbl); clear hx hbl)
        have HR5 : Hid (Blk w5 w.heap.size zpil 35) := (B5.out.block _ hb1.out).trans HKW.out
        obtain ⟨x0, x1, x2, x3, x4, x5, x6, xf⟩ := (show Blk w5 w.heap.size (pil (.slice none 0 0) zeroP) 35 from HR5.out).rulesP w5 (Seen.refl _)
        have e1 := hs.out (by trivial)
        simp only [zeroP, zS] at x0 x1 x2 x3 x4 x5 x6
        have HS5 : Hid (Seen w w5) := HSW.out.trans B5.out
        clear hs ho H5 kX
        go_wp2_with fail
        have z := ((((((HR5.out.set 0 (.slice none 0 0)).set 1 (.int .i64 0)).set 2 (.int .i64 0)).set 3 (.int .i64 0)).set 4 (.int .i64 0)).set 5 (.int .i64 0)).set 6 (.bool false)
        have z0 := z.cell 0
        have z1 := z.cell 1
        have z2 := z.cell 2
        have z3 := z.cell 3
        have z4 := z.cell 4
        have z5 := z.cell 5
        have z6 := z.cell 6
        refine bodyPost_ret (by simp [results, Try.results8, go_sem, z0, z1, z2, z3, z4, z5, z6]; try rfl) rfl ?_
        rw [e1.1, e1.2]
        refine ⟨.slice none 0 0, rfl, RI.nil _ _, ?_⟩
        exact below_set (below_set (below_set (below_set (below_set (below_set (below_set HS5.out (Nat.le_refl _) _ _) (Nat.le_refl _) _ _) (Nat.le_refl _) _ _) (Nat.le_refl _) _ _) (Nat.le_refl _) _ _) (Nat.le_refl _) _ _) (Nat.le_refl _) _ _
      · go_wp2_with (go_at_call 11; refine ad.mono ?_; clear ad; rintro e w5 ⟨rfl, hx, hbl⟩; have H5 := Lib.hid hx; have B5 := Lib.hid (sX.out.trans hbl); clear hx hbl)
        go_roundw
        case rel =>
          obtain ⟨v', hv'⟩ := H5.out (by trivial)
          exact ⟨k + 1, by omega, by go_num, ⟨v', _, ho.out (by trivial), hv'⟩, B5.out⟩
        case measure => simp [intOf]; omega
    · obtain rfl : k = n := by omega
      have e1 : Hid (stkP l o = q ∧ stkB l o = true) := stk_some (by unfold stkO; rw [← List.take_of_length_le (l := l) (i := k) (by omega)]; exact HQ.out)
      obtain ⟨a0, a1, a2, a3, a4, a5, a6, af⟩ := rP wr (Seen.refl _)
      obtain ⟨x0, x1, x2, x3, x4, x5, x6, xf⟩ := rR wr (Seen.refl _)
      clear rP rR hkn hp
      go_wp2_with fail
      have z := ((((((HR.out.set 0 (.slice va q.y.length vc)).set 1 (.int .i64 q.edge)).set 2 (.int .i64 q.top.p)).set 3 (.int .i64 q.top.n)).set 4 (.int .i64 q.cur.p)).set 5 (.int .i64 q.cur.n)).set 6 (.bool q.att)
      have z0 := z.cell 0
      have z1 := z.cell 1
      have z2 := z.cell 2
      have z3 := z.cell 3
      have z4 := z.cell 4
      have z5 := z.cell 5
      have z6 := z.cell 6
      refine bodyPost_ret (by simp [results, Try.results8, go_sem, z0, z1, z2, z3, z4, z5, z6]; try rfl) rfl ?_
      rw [e1.out.1, e1.out.2]
      refine ⟨.slice va q.y.length vc, rfl, ?_, ?_⟩
      · exact row_more (((((((HP.out.row.far hb1.out _ _).far hb1.out _ _).far hb1.out _ _).far hb1.out _ _).far hb1.out _ _).far hb1.out _ _).far hb1.out _ _) (Nat.le_of_lt hb1.out)
      · exact below_set (below_set (below_set (below_set (below_set (below_set (below_set HS.out (Nat.le_refl _) _ _) (Nat.le_refl _) _ _) (Nat.le_refl _) _ _) (Nat.le_refl _) _ _) (Nat.le_refl _) _ _) (Nat.le_refl _) _ _) (Nat.le_refl _) _ _
end Go.Proofs.Ytmcjabbfhhdmmaa
