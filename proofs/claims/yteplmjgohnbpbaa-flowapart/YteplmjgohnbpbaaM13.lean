/- Texts of the proof, merged: Sides. -/
import Derived.Test.YteplmjgohnbpbaaM11
import Derived.Test.YteplmjgohnbpbaaM12
/- Contracts of Sides and of the reference's Sides; no conditions. -/
namespace Go.Proofs.Yteplmjgohnbpbaa
open Go.ChangeShapes Go.WideShapes Go.ChangeAt Go.RowKit
set_option maxRecDepth 100000
def sOf (q : Ln) (b : Int) : Sz := ofS q.k q.n b true
def bOf (q : Ln) (b : Int) : Bool := ofB q.k q.n b true
def sidesB (q : Ln4) (b : Int) : Bool := bOf q.a b && bOf q.b b && bOf q.c b && bOf q.d b
def zSz : Sz := ⟨false, 0⟩
def sideS (q : Ln4) (b : Int) (l : Ln) : Sz := if sidesB q b then sOf l b else zSz
theorem of4 (q : Ln) (b : Int) (w : World) : Calls Try.prog 63 #[.agg #[.int .i64 q.k, .int .i64 q.n], .int .i64 b, .bool true] w fun e w' => e = .returned (.tuple #[.agg #[.bool (sOf q b).au, .int .i64 (sOf q b).n], .bool (bOf q b)]) ∧ Below w.heap.size w w' := of_any _ _ _ _ w
theorem Blk.rules8 {w : World} {B : Nat} {t : TypeId} {x0 x1 x2 x3 x4 x5 x6 x7 : Value} (h : Blk w B [x0, x1, x2, x3, x4, x5, x6, x7] t) : ∀ w', Seen w w' → w'.cell? ⟨B, 0, none⟩ = some x0 ∧ w'.cell? ⟨B, 1, none⟩ = some x1 ∧ w'.cell? ⟨B, 2, none⟩ = some x2 ∧ w'.cell? ⟨B, 3, none⟩ = some x3 ∧ w'.cell? ⟨B, 4, none⟩ = some x4 ∧ w'.cell? ⟨B, 5, none⟩ = some x5 ∧ w'.cell? ⟨B, 6, none⟩ = some x6 ∧ w'.cell? ⟨B, 7, none⟩ = some x7 ∧ (∀ o, w'.frozen? ⟨B, o, none⟩ = false) :=
  fun _ hs => ⟨(h.seen hs).cell 0, (h.seen hs).cell 1, (h.seen hs).cell 2, (h.seen hs).cell 3, (h.seen hs).cell 4, (h.seen hs).cell 5, (h.seen hs).cell 6, (h.seen hs).cell 7, (h.seen hs).free⟩
theorem index36_0 (w : World) (c0 c1 c2 c3 c4 c5 c6 c7 : Value) : (Instr.index 36 (.agg #[c0, c1, c2, c3, c4, c5, c6, c7]) (.int .i64 0)).run Try.prog w = .ok (.agg #[c0, c1]) w := by kernel_rfl
theorem index36_1 (w : World) (c0 c1 c2 c3 c4 c5 c6 c7 : Value) : (Instr.index 36 (.agg #[c0, c1, c2, c3, c4, c5, c6, c7]) (.int .i64 1)).run Try.prog w = .ok (.agg #[c2, c3]) w := by kernel_rfl
theorem index36_2 (w : World) (c0 c1 c2 c3 c4 c5 c6 c7 : Value) : (Instr.index 36 (.agg #[c0, c1, c2, c3, c4, c5, c6, c7]) (.int .i64 2)).run Try.prog w = .ok (.agg #[c4, c5]) w := by kernel_rfl
theorem index36_3 (w : World) (c0 c1 c2 c3 c4 c5 c6 c7 : Value) : (Instr.index 36 (.agg #[c0, c1, c2, c3, c4, c5, c6, c7]) (.int .i64 3)).run Try.prog w = .ok (.agg #[c6, c7]) w := by kernel_rfl
/-- What the loop over four has laid down when it comes to number k. -/
def side8 (q : Ln4) (b : Int) (k : Int) : List Value := [.bool (if 0 < k then sOf q.a b else zSz).au, .int .i64 (if 0 < k then sOf q.a b else zSz).n, .bool (if 1 < k then sOf q.b b else zSz).au, .int .i64 (if 1 < k then sOf q.b b else zSz).n, .bool (if 2 < k then sOf q.c b else zSz).au, .int .i64 (if 2 < k then sOf q.c b else zSz).n, .bool (if 3 < k then sOf q.d b else zSz).au, .int .i64 (if 3 < k then sOf q.d b else zSz).n]
theorem side8_0 (q : Ln4) (b : Int) : side8 q b 0 = [.bool false, .int .i64 0, .bool false, .int .i64 0, .bool false, .int .i64 0, .bool false, .int .i64 0] := rfl
theorem side8_1 (q : Ln4) (b : Int) : side8 q b 1 = [.bool (sOf q.a b).au, .int .i64 (sOf q.a b).n, .bool false, .int .i64 0, .bool false, .int .i64 0, .bool false, .int .i64 0] := rfl
theorem side8_2 (q : Ln4) (b : Int) : side8 q b 2 = [.bool (sOf q.a b).au, .int .i64 (sOf q.a b).n, .bool (sOf q.b b).au, .int .i64 (sOf q.b b).n, .bool false, .int .i64 0, .bool false, .int .i64 0] := rfl
theorem side8_3 (q : Ln4) (b : Int) : side8 q b 3 = [.bool (sOf q.a b).au, .int .i64 (sOf q.a b).n, .bool (sOf q.b b).au, .int .i64 (sOf q.b b).n, .bool (sOf q.c b).au, .int .i64 (sOf q.c b).n, .bool false, .int .i64 0] := rfl
theorem side8_4 (q : Ln4) (b : Int) : side8 q b 4 = [.bool (sOf q.a b).au, .int .i64 (sOf q.a b).n, .bool (sOf q.b b).au, .int .i64 (sOf q.b b).n, .bool (sOf q.c b).au, .int .i64 (sOf q.c b).n, .bool (sOf q.d b).au, .int .i64 (sOf q.d b).n] := rfl
/-- All lengths ahead of number k are sizes. -/
def okTo (q : Ln4) (b : Int) (k : Int) : Bool := (decide (k ≤ 0) || bOf q.a b) && (decide (k ≤ 1) || bOf q.b b) && (decide (k ≤ 2) || bOf q.c b) && (decide (k ≤ 3) || bOf q.d b)
theorem sides_t (q : Ln4) (b : Int) (h : okTo q b 4 = true) : sidesB q b = true ∧ ∀ l, sideS q b l = sOf l b := by
  have h1 : sidesB q b = true := by simpa [okTo, sidesB, Bool.and_assoc] using h
  exact ⟨h1, fun l => by unfold sideS; rw [h1]; rfl⟩
theorem sides_f (q : Ln4) (b : Int) (h : sidesB q b = false) : ∀ l, sideS q b l = zSz := fun l => by unfold sideS; rw [h]; rfl
set_option maxHeartbeats 4000000 in
theorem sides_any (q : Ln4) (b : Int) (w : World) :
    Calls Try.prog 61 #[.agg #[.int .i64 q.a.k, .int .i64 q.a.n, .int .i64 q.b.k, .int .i64 q.b.n, .int .i64 q.c.k, .int .i64 q.c.n, .int .i64 q.d.k, .int .i64 q.d.n], .int .i64 b] w fun e w' => e = .returned (.tuple #[.agg #[.bool (sideS q b q.a).au, .int .i64 (sideS q b q.a).n, .bool (sideS q b q.b).au, .int .i64 (sideS q b q.b).n, .bool (sideS q b q.c).au, .int .i64 (sideS q b q.c).n, .bool (sideS q b q.d).au, .int .i64 (sideS q b q.d).n], .bool (sidesB q b)]) ∧ Below w.heap.size w w' := by
  go_enter Try.func61, Try.ntmps61
  go_wp2_with fail
  go_loopw [12] (fun i wr => ∃ k : Int, i = .int .i64 k ∧ 0 ≤ k ∧ k ≤ 4 ∧ Blk wr (w.heap.size + 1) [.bool false, .int .i64 0, .bool false, .int .i64 0, .bool false, .int .i64 0, .bool false, .int .i64 0] 126 ∧ Blk wr (w.heap.size + 1 + 1) (side8 q b k) 126 ∧ Seen w wr ∧ okTo q b k = true) (fun i _ => 4 - (intOf i).toNat)
  case atStart =>
    refine ⟨0, rfl, by omega, by omega, ?_, ?_, ?_, by simp [okTo]⟩
    · have h := (Blk.new (w.alloc (.cells #[.int .i64 q.a.k, .int .i64 q.a.n, .int .i64 q.b.k, .int .i64 q.b.n, .int .i64 q.c.k, .int .i64 q.c.n, .int .i64 q.d.k, .int .i64 q.d.n] 36)) [.bool false, .int .i64 0, .bool false, .int .i64 0, .bool false, .int .i64 0, .bool false, .int .i64 0] 126).alloc (.cells #[.bool false, .int .i64 0, .bool false, .int .i64 0, .bool false, .int .i64 0, .bool false, .int .i64 0] 126)
      simpa using h
    · have h := Blk.new ((w.alloc (.cells #[.int .i64 q.a.k, .int .i64 q.a.n, .int .i64 q.b.k, .int .i64 q.b.n, .int .i64 q.c.k, .int .i64 q.c.n, .int .i64 q.d.k, .int .i64 q.d.n] 36)).alloc (.cells #[.bool false, .int .i64 0, .bool false, .int .i64 0, .bool false, .int .i64 0, .bool false, .int .i64 0] 126)) [.bool false, .int .i64 0, .bool false, .int .i64 0, .bool false, .int .i64 0, .bool false, .int .i64 0] 126
      rw [side8_0]
      simpa using h
    · exact (((Seen.refl w).alloc _).alloc _).alloc _
  case round =>
    obtain ⟨k, rfl, hk0, hk4, h4, h6, hs, hall⟩ := hrel
    have HS := Lib.hid hs
    have HA := Lib.hid hall
    have H4 := Lib.hid h4
    have H6 := Lib.hid h6
    clear hs hall h4 h6
    have h4 := Blk.rules8 H4.out
    have sr := Seen.refl wr
    rcases (show k = 0 ∨ k = 1 ∨ k = 2 ∨ k = 3 ∨ k = 4 by omega) with rfl | rfl | rfl | rfl | rfl
    · have ix := index36_0
      have h6 := Blk.rules8 (side8_0 q b ▸ H6.out)
      clear hk0 hk4
      obtain ⟨W, hW⟩ : ∃ W, W = wr.alloc (.cells #[.int .i64 q.a.k, .int .i64 q.a.n] 35) := ⟨_, rfl⟩
      have sW : Seen wr W := by rw [hW]; exact sr.alloc _
      have r0 := Blk.rules2 (show Blk W wr.heap.size [.int .i64 q.a.k, .int .i64 q.a.n] 35 by rw [hW]; exact Blk.new wr _ _)
      have p0 := of4 q.a b
      obtain ⟨s, hs⟩ : ∃ s, sOf q.a b = s := ⟨_, rfl⟩
      have HQ := Lib.hid hs
      cases hc : bOf q.a b with
      | false =>
        have HF : Hid (sidesB q b = false) := by unfold Hid sidesB; simp [hc]
        rw [hc, hs] at p0
        clear hs hc
        go_wp2_with (first | (go_at_call 63; rw [← hW]; clear hW; refine (p0 _).mono ?_; rintro e wA ⟨rfl, hA⟩; have sA : Seen W wA := hA; have tA : Seen wr wA := sW.trans sA; have h4' := fun o => h4 (wA.alloc o) (tA.alloc o); clear hA p0))
        have z := H4.out.seen (tA.alloc (.cells #[.bool s.au, .int .i64 s.n] 24))
        have zz := ((((((((z.set 0 (.bool false)).set 1 (.int .i64 0)).set 2 (.bool false)).set 3 (.int .i64 0)).set 4 (.bool false)).set 5 (.int .i64 0)).set 6 (.bool false)).set 7 (.int .i64 0))
        have f := zz.cell
        have f0 := f 0
        have f1 := f 1
        have f2 := f 2
        have f3 := f 3
        have f4 := f 4
        have f5 := f 5
        have f6 := f 6
        have f7 := f 7
        clear f
        refine bodyPost_ret (by simp [results, Try.results61, go_sem, f0, f1, f2, f3, f4, f5, f6, f7]; try rfl) rfl ?_
        have hz := sides_f q b HF.out
        refine ⟨by rw [hz, hz, hz, hz, HF.out]; rfl, ?_⟩
        have g : Seen w _ := HS.out.trans (tA.alloc (.cells #[.bool s.au, .int .i64 s.n] 24))
        exact (((((((Below.setCell (Below.setCell g (by simp) _) (by simp) _).setCell (by simp) _).setCell (by simp) _).setCell (by simp) _).setCell (by simp) _).setCell (by simp) _).setCell (by simp) _)
      | true =>
        have HT : Hid (okTo q b (0 + 1) = true) := by have h := HA.out; unfold okTo at h ⊢; simp at h ⊢; simp_all
        rw [hc, hs] at p0
        clear hs hc
        go_wp2_with (first | (go_at_call 63; rw [← hW]; clear hW; refine (p0 _).mono ?_; rintro e wA ⟨rfl, hA⟩; have sA : Seen W wA := hA; have tA : Seen wr wA := sW.trans sA; have h6' := fun o => h6 (wA.alloc o) (tA.alloc o); clear hA p0))
        go_roundw
        case rel =>
          have z := (side8_0 q b ▸ H6.out).seen (tA.alloc (.cells #[.bool s.au, .int .i64 s.n] 24))
          have z4 := H4.out.seen (tA.alloc (.cells #[.bool s.au, .int .i64 s.n] 24))
          refine ⟨1, by go_num, by omega, by omega, ?_, ?_, ?_, HT.out⟩
          · exact (z4.other (by simp) _).other (by simp) _
          · rw [side8_1, HQ.out]; exact (z.set 0 _).set 1 _
          · exact Below.setCell (Below.setCell (HS.out.trans (tA.alloc _)) (by dsimp only; omega) _) (by dsimp only; omega) _
        case measure => simp [intOf]
    · have ix := index36_1
      have h6 := Blk.rules8 (side8_1 q b ▸ H6.out)
      clear hk0 hk4
      obtain ⟨W, hW⟩ : ∃ W, W = wr.alloc (.cells #[.int .i64 q.b.k, .int .i64 q.b.n] 35) := ⟨_, rfl⟩
      have sW : Seen wr W := by rw [hW]; exact sr.alloc _
      have r0 := Blk.rules2 (show Blk W wr.heap.size [.int .i64 q.b.k, .int .i64 q.b.n] 35 by rw [hW]; exact Blk.new wr _ _)
      have p0 := of4 q.b b
      obtain ⟨s, hs⟩ : ∃ s, sOf q.b b = s := ⟨_, rfl⟩
      have HQ := Lib.hid hs
      cases hc : bOf q.b b with
      | false =>
        have HF : Hid (sidesB q b = false) := by unfold Hid sidesB; simp [hc]
        rw [hc, hs] at p0
        clear hs hc
        go_wp2_with (first | (go_at_call 63; rw [← hW]; clear hW; refine (p0 _).mono ?_; rintro e wA ⟨rfl, hA⟩; have sA : Seen W wA := hA; have tA : Seen wr wA := sW.trans sA; have h4' := fun o => h4 (wA.alloc o) (tA.alloc o); clear hA p0))
        have z := H4.out.seen (tA.alloc (.cells #[.bool s.au, .int .i64 s.n] 24))
        have zz := ((((((((z.set 0 (.bool false)).set 1 (.int .i64 0)).set 2 (.bool false)).set 3 (.int .i64 0)).set 4 (.bool false)).set 5 (.int .i64 0)).set 6 (.bool false)).set 7 (.int .i64 0))
        have f := zz.cell
        have f0 := f 0
        have f1 := f 1
        have f2 := f 2
        have f3 := f 3
        have f4 := f 4
        have f5 := f 5
        have f6 := f 6
        have f7 := f 7
        clear f
        refine bodyPost_ret (by simp [results, Try.results61, go_sem, f0, f1, f2, f3, f4, f5, f6, f7]; try rfl) rfl ?_
        have hz := sides_f q b HF.out
        refine ⟨by rw [hz, hz, hz, hz, HF.out]; rfl, ?_⟩
        have g : Seen w _ := HS.out.trans (tA.alloc (.cells #[.bool s.au, .int .i64 s.n] 24))
        exact (((((((Below.setCell (Below.setCell g (by simp) _) (by simp) _).setCell (by simp) _).setCell (by simp) _).setCell (by simp) _).setCell (by simp) _).setCell (by simp) _).setCell (by simp) _)
      | true =>
        have HT : Hid (okTo q b (1 + 1) = true) := by have h := HA.out; unfold okTo at h ⊢; simp at h ⊢; simp_all
        rw [hc, hs] at p0
        clear hs hc
        go_wp2_with (first | (go_at_call 63; rw [← hW]; clear hW; refine (p0 _).mono ?_; rintro e wA ⟨rfl, hA⟩; have sA : Seen W wA := hA; have tA : Seen wr wA := sW.trans sA; have h6' := fun o => h6 (wA.alloc o) (tA.alloc o); clear hA p0))
        go_roundw
        case rel =>
          have z := (side8_1 q b ▸ H6.out).seen (tA.alloc (.cells #[.bool s.au, .int .i64 s.n] 24))
          have z4 := H4.out.seen (tA.alloc (.cells #[.bool s.au, .int .i64 s.n] 24))
          refine ⟨2, by go_num, by omega, by omega, ?_, ?_, ?_, HT.out⟩
          · exact (z4.other (by simp) _).other (by simp) _
          · rw [side8_2, HQ.out]; exact (z.set 2 _).set 3 _
          · exact Below.setCell (Below.setCell (HS.out.trans (tA.alloc _)) (by dsimp only; omega) _) (by dsimp only; omega) _
        case measure => simp [intOf]
    · have ix := index36_2
      have h6 := Blk.rules8 (side8_2 q b ▸ H6.out)
      clear hk0 hk4
      obtain ⟨W, hW⟩ : ∃ W, W = wr.alloc (.cells #[.int .i64 q.c.k, .int .i64 q.c.n] 35) := ⟨_, rfl⟩
      have sW : Seen wr W := by rw [hW]; exact sr.alloc _
      have r0 := Blk.rules2 (show Blk W wr.heap.size [.int .i64 q.c.k, .int .i64 q.c.n] 35 by rw [hW]; exact Blk.new wr _ _)
      have p0 := of4 q.c b
      obtain ⟨s, hs⟩ : ∃ s, sOf q.c b = s := ⟨_, rfl⟩
      have HQ := Lib.hid hs
      cases hc : bOf q.c b with
      | false =>
        have HF : Hid (sidesB q b = false) := by unfold Hid sidesB; simp [hc]
        rw [hc, hs] at p0
        clear hs hc
        go_wp2_with (first | (go_at_call 63; rw [← hW]; clear hW; refine (p0 _).mono ?_; rintro e wA ⟨rfl, hA⟩; have sA : Seen W wA := hA; have tA : Seen wr wA := sW.trans sA; have h4' := fun o => h4 (wA.alloc o) (tA.alloc o); clear hA p0))
        have z := H4.out.seen (tA.alloc (.cells #[.bool s.au, .int .i64 s.n] 24))
        have zz := ((((((((z.set 0 (.bool false)).set 1 (.int .i64 0)).set 2 (.bool false)).set 3 (.int .i64 0)).set 4 (.bool false)).set 5 (.int .i64 0)).set 6 (.bool false)).set 7 (.int .i64 0))
        have f := zz.cell
        have f0 := f 0
        have f1 := f 1
        have f2 := f 2
        have f3 := f 3
        have f4 := f 4
        have f5 := f 5
        have f6 := f 6
        have f7 := f 7
        clear f
        refine bodyPost_ret (by simp [results, Try.results61, go_sem, f0, f1, f2, f3, f4, f5, f6, f7]; try rfl) rfl ?_
        have hz := sides_f q b HF.out
        refine ⟨by rw [hz, hz, hz, hz, HF.out]; rfl, ?_⟩
        have g : Seen w _ := HS.out.trans (tA.alloc (.cells #[.bool s.au, .int .i64 s.n] 24))
        exact (((((((Below.setCell (Below.setCell g (by simp) _) (by simp) _).setCell (by simp) _).setCell (by simp) _).setCell (by simp) _).setCell (by simp) _).setCell (by simp) _).setCell (by simp) _)
      | true =>
        have HT : Hid (okTo q b (2 + 1) = true) := by have h := HA.out; unfold okTo at h ⊢; simp at h ⊢; simp_all
        rw [hc, hs] at p0
        clear hs hc
        go_wp2_with (first | (go_at_call 63; rw [← hW]; clear hW; refine (p0 _).mono ?_; rintro e wA ⟨rfl, hA⟩; have sA : Seen W wA := hA; have tA : Seen wr wA := sW.trans sA; have h6' := fun o => h6 (wA.alloc o) (tA.alloc o); clear hA p0))
        go_roundw
        case rel =>
          have z := (side8_2 q b ▸ H6.out).seen (tA.alloc (.cells #[.bool s.au, .int .i64 s.n] 24))
          have z4 := H4.out.seen (tA.alloc (.cells #[.bool s.au, .int .i64 s.n] 24))
          refine ⟨3, by go_num, by omega, by omega, ?_, ?_, ?_, HT.out⟩
          · exact (z4.other (by simp) _).other (by simp) _
          · rw [side8_3, HQ.out]; exact (z.set 4 _).set 5 _
          · exact Below.setCell (Below.setCell (HS.out.trans (tA.alloc _)) (by dsimp only; omega) _) (by dsimp only; omega) _
        case measure => simp [intOf]
    · have ix := index36_3
      have h6 := Blk.rules8 (side8_3 q b ▸ H6.out)
      clear hk0 hk4
      obtain ⟨W, hW⟩ : ∃ W, W = wr.alloc (.cells #[.int .i64 q.d.k, .int .i64 q.d.n] 35) := ⟨_, rfl⟩
      have sW : Seen wr W := by rw [hW]; exact sr.alloc _
      have r0 := Blk.rules2 (show Blk W wr.heap.size [.int .i64 q.d.k, .int .i64 q.d.n] 35 by rw [hW]; exact Blk.new wr _ _)
      have p0 := of4 q.d b
      obtain ⟨s, hs⟩ : ∃ s, sOf q.d b = s := ⟨_, rfl⟩
      have HQ := Lib.hid hs
      cases hc : bOf q.d b with
      | false =>
        have HF : Hid (sidesB q b = false) := by unfold Hid sidesB; simp [hc]
        rw [hc, hs] at p0
        clear hs hc
        go_wp2_with (first | (go_at_call 63; rw [← hW]; clear hW; refine (p0 _).mono ?_; rintro e wA ⟨rfl, hA⟩; have sA : Seen W wA := hA; have tA : Seen wr wA := sW.trans sA; have h4' := fun o => h4 (wA.alloc o) (tA.alloc o); clear hA p0))
        have z := H4.out.seen (tA.alloc (.cells #[.bool s.au, .int .i64 s.n] 24))
        have zz := ((((((((z.set 0 (.bool false)).set 1 (.int .i64 0)).set 2 (.bool false)).set 3 (.int .i64 0)).set 4 (.bool false)).set 5 (.int .i64 0)).set 6 (.bool false)).set 7 (.int .i64 0))
        have f := zz.cell
        have f0 := f 0
        have f1 := f 1
        have f2 := f 2
        have f3 := f 3
        have f4 := f 4
        have f5 := f 5
        have f6 := f 6
        have f7 := f 7
        clear f
        refine bodyPost_ret (by simp [results, Try.results61, go_sem, f0, f1, f2, f3, f4, f5, f6, f7]; try rfl) rfl ?_
        have hz := sides_f q b HF.out
        refine ⟨by rw [hz, hz, hz, hz, HF.out]; rfl, ?_⟩
        have g : Seen w _ := HS.out.trans (tA.alloc (.cells #[.bool s.au, .int .i64 s.n] 24))
        exact (((((((Below.setCell (Below.setCell g (by simp) _) (by simp) _).setCell (by simp) _).setCell (by simp) _).setCell (by simp) _).setCell (by simp) _).setCell (by simp) _).setCell (by simp) _)
      | true =>
        have HT : Hid (okTo q b (3 + 1) = true) := by have h := HA.out; unfold okTo at h ⊢; simp at h ⊢; simp_all
        rw [hc, hs] at p0
        clear hs hc
        go_wp2_with (first | (go_at_call 63; rw [← hW]; clear hW; refine (p0 _).mono ?_; rintro e wA ⟨rfl, hA⟩; have sA : Seen W wA := hA; have tA : Seen wr wA := sW.trans sA; have h6' := fun o => h6 (wA.alloc o) (tA.alloc o); clear hA p0))
        go_roundw
        case rel =>
          have z := (side8_3 q b ▸ H6.out).seen (tA.alloc (.cells #[.bool s.au, .int .i64 s.n] 24))
          have z4 := H4.out.seen (tA.alloc (.cells #[.bool s.au, .int .i64 s.n] 24))
          refine ⟨4, by go_num, by omega, by omega, ?_, ?_, ?_, HT.out⟩
          · exact (z4.other (by simp) _).other (by simp) _
          · rw [side8_4, HQ.out]; exact (z.set 6 _).set 7 _
          · exact Below.setCell (Below.setCell (HS.out.trans (tA.alloc _)) (by dsimp only; omega) _) (by dsimp only; omega) _
        case measure => simp [intOf]
    · have h6 := Blk.rules8 (side8_4 q b ▸ H6.out)
      have h4' := h4 wr sr
      have h6' := h6 wr sr
      clear h4 h6
      obtain ⟨HT, hq⟩ := sides_t q b HA.out
      have HT := Lib.hid HT
      have HQ := Lib.hid hq
      clear hq
      go_wp2_with fail
      have z := H4.out
      have zz := ((((((((z.set 0 (.bool (sOf q.a b).au)).set 1 (.int .i64 (sOf q.a b).n)).set 2 (.bool (sOf q.b b).au)).set 3 (.int .i64 (sOf q.b b).n)).set 4 (.bool (sOf q.c b).au)).set 5 (.int .i64 (sOf q.c b).n)).set 6 (.bool (sOf q.d b).au)).set 7 (.int .i64 (sOf q.d b).n))
      have f := zz.cell
      have f0 := f 0
      have f1 := f 1
      have f2 := f 2
      have f3 := f 3
      have f4 := f 4
      have f5 := f 5
      have f6 := f 6
      have f7 := f 7
      clear f
      refine bodyPost_ret (by simp [results, Try.results61, go_sem, f0, f1, f2, f3, f4, f5, f6, f7]; try rfl) rfl ?_
      refine ⟨by rw [HQ.out, HQ.out, HQ.out, HQ.out, HT.out], ?_⟩
      exact (((((((Below.setCell (Below.setCell HS.out (by simp) _) (by simp) _).setCell (by simp) _).setCell (by simp) _).setCell (by simp) _).setCell (by simp) _).setCell (by simp) _).setCell (by simp) _)
end Go.Proofs.Yteplmjgohnbpbaa
