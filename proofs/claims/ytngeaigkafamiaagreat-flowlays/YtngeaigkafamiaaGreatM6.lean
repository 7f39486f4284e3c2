/- Texts of the proof, merged: PStrArgs, SArgs, Sides, PMath, All. -/
import Derived.Test.YtngeaigkafamiaaGreatM5
import Derived.ShutString
import Derived.ChangeOld
import Derived.Test.YtngeaigkafamiaaGreatM1
namespace Go.Proofs.YtngeaigkafamiaaGreat
open Go.ChangeShapes Go.WideShapes Go.ChangeAt Go.RowKit Go.Joins
set_option maxRecDepth 100000
def okN (n : Int) : Prop := -9223372036854775808 ≤ n ∧ n ≤ 9223372036854775807
structure Row where
  a : Option Addr
  n : Nat
  c : Nat
  zs : List Int
section
variable {H : Type} {enc : TypeId × Value → H} {w : World} {base : Nat} {spare : Nat → Bool} {held : Bool} {r : Reach} {b0 : Nat} {v : Value} {d : DataW H} {p : List MemPlace}
end
end Go.Proofs.YtngeaigkafamiaaGreat
namespace Go.Proofs.YtngeaigkafamiaaGreat
open Go.ChangeShapes Go.WideShapes Go.ChangeAt Go.RowKit Go.Joins
set_option maxRecDepth 100000
section
variable {H : Type} {enc : TypeId × Value → H} {w : World} {base : Nat} {spare : Nat → Bool} {held : Bool} {r : Reach} {b0 : Nat} {v : Value} {d : DataW H} {p : List MemPlace}
theorem open_boo (hv : Value.okWide Tryz.prog w r b0 4 v) (h : DataW.Trod enc Tryz.prog w base spare held 4 v d p) : ∃ b : Bool, v = .bool b ∧ True := by
  obtain ⟨b, rfl, _, _⟩ := open_bool Tryz.underlying4 hv h
  exact ⟨b, rfl, trivial⟩
theorem open_size (hv : Value.okWide Tryz.prog w r b0 24 v) (h : DataW.Trod enc Tryz.prog w base spare held 24 v d p) : ∃ q : Sz, v = .agg #[.bool q.au, .int .i64 q.n] ∧ okN q.n := by
  obtain ⟨cs, rfl, hs, hat⟩ := open_flat (by kernel_rfl) hv h
  obtain ⟨c0, c1, rfl⟩ := array2 (hs.trans (by kernel_rfl))
  obtain ⟨u0, e0, f0⟩ := hat 3 0 .bool (by kernel_rfl)
  obtain ⟨u1, e1, f1⟩ := hat 3 1 (.int .i64) (by kernel_rfl)
  obtain ⟨b0, rfl⟩ := f0
  obtain ⟨n1, rfl, g1⟩ := fits_i64 f1
  simp at e0 e1
  subst e0 e1
  exact ⟨⟨b0, n1⟩, rfl, g1⟩
structure Ln4 where
  a : Ln
  b : Ln
  c : Ln
  d : Ln
end
end Go.Proofs.YtngeaigkafamiaaGreat
namespace Go.Proofs.YtngeaigkafamiaaGreat
open Go.ChangeShapes Go.WideShapes Go.ChangeAt Go.RowKit
set_option maxRecDepth 100000
def sOf (q : Ln) (b : Int) : Sz := ofS q.k q.n b true
def bOf (q : Ln) (b : Int) : Bool := ofB q.k q.n b true
def sidesB (q : Ln4) (b : Int) : Bool := bOf q.a b && bOf q.b b && bOf q.c b && bOf q.d b
def zSz : Sz := ⟨false, 0⟩
def sideS (q : Ln4) (b : Int) (l : Ln) : Sz := if sidesB q b then sOf l b else zSz
theorem of4 (q : Ln) (b : Int) (w : World) : Calls Tryz.prog 67 #[.agg #[.int .i64 q.k, .int .i64 q.n], .int .i64 b, .bool true] w fun e w' => e = .returned (.tuple #[.agg #[.bool (sOf q b).au, .int .i64 (sOf q b).n], .bool (bOf q b)]) ∧ Below w.heap.size w w' := of_any _ _ _ _ w
theorem refOf4 (q : Ln) (b : Int) (w : World) : Calls Tryz.prog 25 #[.agg #[.int .i64 q.k, .int .i64 q.n], .int .i64 b, .bool true] w fun e w' => e = .returned (.tuple #[.agg #[.bool (sOf q b).au, .int .i64 (sOf q b).n], .bool (bOf q b)]) ∧ Below w.heap.size w w' := refOf_any _ _ _ _ w
theorem Blk.rules8 {w : World} {B : Nat} {t : TypeId} {x0 x1 x2 x3 x4 x5 x6 x7 : Value} (h : Blk w B [x0, x1, x2, x3, x4, x5, x6, x7] t) : ∀ w', Seen w w' → w'.cell? ⟨B, 0, none⟩ = some x0 ∧ w'.cell? ⟨B, 1, none⟩ = some x1 ∧ w'.cell? ⟨B, 2, none⟩ = some x2 ∧ w'.cell? ⟨B, 3, none⟩ = some x3 ∧ w'.cell? ⟨B, 4, none⟩ = some x4 ∧ w'.cell? ⟨B, 5, none⟩ = some x5 ∧ w'.cell? ⟨B, 6, none⟩ = some x6 ∧ w'.cell? ⟨B, 7, none⟩ = some x7 ∧ (∀ o, w'.frozen? ⟨B, o, none⟩ = false) :=
  fun _ hs => ⟨(h.seen hs).cell 0, (h.seen hs).cell 1, (h.seen hs).cell 2, (h.seen hs).cell 3, (h.seen hs).cell 4, (h.seen hs).cell 5, (h.seen hs).cell 6, (h.seen hs).cell 7, (h.seen hs).free⟩
theorem index36_0 (w : World) (c0 c1 c2 c3 c4 c5 c6 c7 : Value) : (Instr.index 64 (.agg #[c0, c1, c2, c3, c4, c5, c6, c7]) (.int .i64 0)).run Tryz.prog w = .ok (.agg #[c0, c1]) w := by kernel_rfl
theorem index36_1 (w : World) (c0 c1 c2 c3 c4 c5 c6 c7 : Value) : (Instr.index 64 (.agg #[c0, c1, c2, c3, c4, c5, c6, c7]) (.int .i64 1)).run Tryz.prog w = .ok (.agg #[c2, c3]) w := by kernel_rfl
theorem index36_2 (w : World) (c0 c1 c2 c3 c4 c5 c6 c7 : Value) : (Instr.index 64 (.agg #[c0, c1, c2, c3, c4, c5, c6, c7]) (.int .i64 2)).run Tryz.prog w = .ok (.agg #[c4, c5]) w := by kernel_rfl
theorem index36_3 (w : World) (c0 c1 c2 c3 c4 c5 c6 c7 : Value) : (Instr.index 64 (.agg #[c0, c1, c2, c3, c4, c5, c6, c7]) (.int .i64 3)).run Tryz.prog w = .ok (.agg #[c6, c7]) w := by kernel_rfl
def side8 (q : Ln4) (b : Int) (k : Int) : List Value := [.bool (if 0 < k then sOf q.a b else zSz).au, .int .i64 (if 0 < k then sOf q.a b else zSz).n, .bool (if 1 < k then sOf q.b b else zSz).au, .int .i64 (if 1 < k then sOf q.b b else zSz).n, .bool (if 2 < k then sOf q.c b else zSz).au, .int .i64 (if 2 < k then sOf q.c b else zSz).n, .bool (if 3 < k then sOf q.d b else zSz).au, .int .i64 (if 3 < k then sOf q.d b else zSz).n]
theorem side8_0 (q : Ln4) (b : Int) : side8 q b 0 = [.bool false, .int .i64 0, .bool false, .int .i64 0, .bool false, .int .i64 0, .bool false, .int .i64 0] := rfl
theorem side8_1 (q : Ln4) (b : Int) : side8 q b 1 = [.bool (sOf q.a b).au, .int .i64 (sOf q.a b).n, .bool false, .int .i64 0, .bool false, .int .i64 0, .bool false, .int .i64 0] := rfl
theorem side8_2 (q : Ln4) (b : Int) : side8 q b 2 = [.bool (sOf q.a b).au, .int .i64 (sOf q.a b).n, .bool (sOf q.b b).au, .int .i64 (sOf q.b b).n, .bool false, .int .i64 0, .bool false, .int .i64 0] := rfl
theorem side8_3 (q : Ln4) (b : Int) : side8 q b 3 = [.bool (sOf q.a b).au, .int .i64 (sOf q.a b).n, .bool (sOf q.b b).au, .int .i64 (sOf q.b b).n, .bool (sOf q.c b).au, .int .i64 (sOf q.c b).n, .bool false, .int .i64 0] := rfl
theorem side8_4 (q : Ln4) (b : Int) : side8 q b 4 = [.bool (sOf q.a b).au, .int .i64 (sOf q.a b).n, .bool (sOf q.b b).au, .int .i64 (sOf q.b b).n, .bool (sOf q.c b).au, .int .i64 (sOf q.c b).n, .bool (sOf q.d b).au, .int .i64 (sOf q.d b).n] := rfl
def okTo (q : Ln4) (b : Int) (k : Int) : Bool := (decide (k ≤ 0) || bOf q.a b) && (decide (k ≤ 1) || bOf q.b b) && (decide (k ≤ 2) || bOf q.c b) && (decide (k ≤ 3) || bOf q.d b)
theorem sides_t (q : Ln4) (b : Int) (h : okTo q b 4 = true) : sidesB q b = true ∧ ∀ l, sideS q b l = sOf l b := by
  have h1 : sidesB q b = true := by simpa [okTo, sidesB, Bool.and_assoc] using h
  exact ⟨h1, fun l => by unfold sideS; rw [h1]; rfl⟩
theorem sides_f (q : Ln4) (b : Int) (h : sidesB q b = false) : ∀ l, sideS q b l = zSz := fun l => by unfold sideS; rw [h]; rfl
set_option maxHeartbeats 4000000 in
theorem sides_any (q : Ln4) (b : Int) (w : World) :
    Calls Tryz.prog 65 #[.agg #[.int .i64 q.a.k, .int .i64 q.a.n, .int .i64 q.b.k, .int .i64 q.b.n, .int .i64 q.c.k, .int .i64 q.c.n, .int .i64 q.d.k, .int .i64 q.d.n], .int .i64 b] w fun e w' => e = .returned (.tuple #[.agg #[.bool (sideS q b q.a).au, .int .i64 (sideS q b q.a).n, .bool (sideS q b q.b).au, .int .i64 (sideS q b q.b).n, .bool (sideS q b q.c).au, .int .i64 (sideS q b q.c).n, .bool (sideS q b q.d).au, .int .i64 (sideS q b q.d).n], .bool (sidesB q b)]) ∧ Below w.heap.size w w' := by
  go_enter Tryz.func65, Tryz.ntmps65
  go_wp2_with fail
  go_loopw [12] (fun i wr => ∃ k : Int, i = .int .i64 k ∧ 0 ≤ k ∧ k ≤ 4 ∧ Blk wr (w.heap.size + 1) [.bool false, .int .i64 0, .bool false, .int .i64 0, .bool false, .int .i64 0, .bool false, .int .i64 0] 156 ∧ Blk wr (w.heap.size + 1 + 1) (side8 q b k) 156 ∧ Seen w wr ∧ okTo q b k = true) (fun i _ => 4 - (intOf i).toNat)
  case atStart =>
    refine ⟨0, rfl, by omega, by omega, ?_, ?_, ?_, by simp [okTo]⟩
    · have h := (Blk.new (w.alloc (.cells #[.int .i64 q.a.k, .int .i64 q.a.n, .int .i64 q.b.k, .int .i64 q.b.n, .int .i64 q.c.k, .int .i64 q.c.n, .int .i64 q.d.k, .int .i64 q.d.n] 64)) [.bool false, .int .i64 0, .bool false, .int .i64 0, .bool false, .int .i64 0, .bool false, .int .i64 0] 156).alloc (.cells #[.bool false, .int .i64 0, .bool false, .int .i64 0, .bool false, .int .i64 0, .bool false, .int .i64 0] 156)
      simpa using h
    · have h := Blk.new ((w.alloc (.cells #[.int .i64 q.a.k, .int .i64 q.a.n, .int .i64 q.b.k, .int .i64 q.b.n, .int .i64 q.c.k, .int .i64 q.c.n, .int .i64 q.d.k, .int .i64 q.d.n] 64)).alloc (.cells #[.bool false, .int .i64 0, .bool false, .int .i64 0, .bool false, .int .i64 0, .bool false, .int .i64 0] 156)) [.bool false, .int .i64 0, .bool false, .int .i64 0, .bool false, .int .i64 0, .bool false, .int .i64 0] 156
      rw [side8_0]
      simpa using h
    · exact (((Seen.refl w).alloc _).alloc _).alloc _
  case round =>
    obtain ⟨k, rfl, hk0, hk4, h4, h6, hs, hall⟩ := hrel
    have HS := Lib.hid hs
    have HA := Lib.hid hall
    have H4 := Lib.hid h4
    have H6 := Lib.hid h6
    clear hs hall h4 h6
    have h4 := Blk.rules8 H4.out
    have sr := Seen.refl wr
    rcases (show k = 0 ∨ k = 1 ∨ k = 2 ∨ k = 3 ∨ k = 4 by omega) with rfl | rfl | rfl | rfl | rfl
    · have ix := index36_0
      have h6 := Blk.rules8 (side8_0 q b ▸ H6.out)
      clear hk0 hk4
      obtain ⟨W, hW⟩ : ∃ W, W = wr.alloc (.cells #[.int .i64 q.a.k, .int .i64 q.a.n] 63) := ⟨_, rfl⟩
      have sW : Seen wr W := by rw [hW]; exact sr.alloc _
      have r0 := Blk.rules2 (show Blk W wr.heap.size [.int .i64 q.a.k, .int .i64 q.a.n] 63 by rw [hW]; exact Blk.new wr _ _)
      have p0 := of4 q.a b
      obtain ⟨s, hs⟩ : ∃ s, sOf q.a b = s := ⟨_, rfl⟩
      have HQ := Lib.hid hs
      cases hc : bOf q.a b with
      | false =>
        have HF : Hid (sidesB q b = false) := by unfold Hid sidesB; simp [hc]
        rw [hc, hs] at p0
        clear hs hc
        go_wp2_with (first | (go_at_call 67; rw [← hW]; clear hW; refine (p0 _).mono ?_; rintro e wA ⟨rfl, hA⟩; have sA : Seen W wA := hA; have tA : Seen wr wA := sW.trans sA; have h4' := fun o => h4 (wA.alloc o) (tA.alloc o); clear hA p0))
        have z := H4.out.seen (tA.alloc (.cells #[.bool s.au, .int .i64 s.n] 24))
        have zz := ((((((((z.set 0 (.bool false)).set 1 (.int .i64 0)).set 2 (.bool false)).set 3 (.int .i64 0)).set 4 (.bool false)).set 5 (.int .i64 0)).set 6 (.bool false)).set 7 (.int .i64 0))
        have f := zz.cell
        have f0 := f 0
        have f1 := f 1
        have f2 := f 2
        have f3 := f 3
        have f4 := f 4
        have f5 := f 5
        have f6 := f 6
        have f7 := f 7
        clear f
        refine bodyPost_ret (by simp [results, Tryz.results65, go_sem, f0, f1, f2, f3, f4, f5, f6, f7]; try rfl) rfl ?_
        have hz := sides_f q b HF.out
        refine ⟨by rw [hz, hz, hz, hz, HF.out]; rfl, ?_⟩
        have g : Seen w _ := HS.out.trans (tA.alloc (.cells #[.bool s.au, .int .i64 s.n] 24))
        exact (((((((Below.setCell (Below.setCell g (by simp) _) (by simp) _).setCell (by simp) _).setCell (by simp) _).setCell (by simp) _).setCell (by simp) _).setCell (by simp) _).setCell (by simp) _)
      | true =>
        have HT : Hid (okTo q b (0 + 1) = true) := by have h := HA.out; unfold okTo at h ⊢; simp at h ⊢; simp_all
        rw [hc, hs] at p0
        clear hs hc
        go_wp2_with (first | (go_at_call 67; rw [← hW]; clear hW; refine (p0 _).mono ?_; rintro e wA ⟨rfl, hA⟩; have sA : Seen W wA := hA; have tA : Seen wr wA := sW.trans sA; have h6' := fun o => h6 (wA.alloc o) (tA.alloc o); clear hA p0))
        go_roundw
        case rel =>
          have z := (side8_0 q b ▸ H6.out).seen (tA.alloc (.cells #[.bool s.au, .int .i64 s.n] 24))
          have z4 := H4.out.seen (tA.alloc (.cells #[.bool s.au, .int .i64 s.n] 24))
          refine ⟨1, by go_num, by omega, by omega, ?_, ?_, ?_, HT.out⟩
          · exact (z4.other (by simp) _).other (by simp) _
          · rw [side8_1, HQ.out]; exact (z.set 0 _).set 1 _
          · exact Below.setCell (Below.setCell (HS.out.trans (tA.alloc _)) (by dsimp only; omega) _) (by dsimp only; omega) _
        case measure => simp [intOf]
    · have ix := index36_1
      have h6 := Blk.rules8 (side8_1 q b ▸ H6.out)
      clear hk0 hk4
      obtain ⟨W, hW⟩ : ∃ W, W = wr.alloc (.cells #[.int .i64 q.b.k, .int .i64 q.b.n] 63) := ⟨_, rfl⟩
      have sW : Seen wr W := by rw [hW]; exact sr.alloc _
      have r0 := Blk.rules2 (show Blk W wr.heap.size [.int .i64 q.b.k, .int .i64 q.b.n] 63 by rw [hW]; exact Blk.new wr _ _)
      have p0 := of4 q.b b
      obtain ⟨s, hs⟩ : ∃ s, sOf q.b b = s := ⟨_, rfl⟩
      have HQ := Lib.hid hs
      cases hc : bOf q.b b with
      | false =>
        have HF : Hid (sidesB q b = false) := by unfold Hid sidesB; simp [hc]
        rw [hc, hs] at p0
        clear hs hc
        go_wp2_with (first | (go_at_call 67; rw [← hW]; clear hW; refine (p0 _).mono ?_; rintro e wA ⟨rfl, hA⟩; have sA : Seen W wA := hA; have tA : Seen wr wA := sW.trans sA; have h4' := fun o => h4 (wA.alloc o) (tA.alloc o); clear hA p0))
        have z := H4.out.seen (tA.alloc (.cells #[.bool s.au, .int .i64 s.n] 24))
        have zz := ((((((((z.set 0 (.bool false)).set 1 (.int .i64 0)).set 2 (.bool false)).set 3 (.int .i64 0)).set 4 (.bool false)).set 5 (.int .i64 0)).set 6 (.bool false)).set 7 (.int .i64 0))
        have f := zz.cell
        have f0 := f 0
        have f1 := f 1
        have f2 := f 2
        have f3 := f 3
        have f4 := f 4
        have f5 := f 5
        have f6 := f 6
        have f7 := f 7
        clear f
        refine bodyPost_ret (by simp [results, Tryz.results65, go_sem, f0, f1, f2, f3, f4, f5, f6, f7]; try rfl) rfl ?_
        have hz := sides_f q b HF.out
        refine ⟨by rw [hz, hz, hz, hz, HF.out]; rfl, ?_⟩
        have g : Seen w _ := HS.out.trans (tA.alloc (.cells #[.bool s.au, .int .i64 s.n] 24))
        exact (((((((Below.setCell (Below.setCell g (by simp) _) (by simp) _).setCell (by simp) _).setCell (by simp) _).setCell (by simp) _).setCell (by simp) _).setCell (by simp) _).setCell (by simp) _)
      | true =>
        have HT : Hid (okTo q b (1 + 1) = true) := by have h := HA.out; unfold okTo at h ⊢; simp at h ⊢; simp_all
        rw [hc, hs] at p0
        clear hs hc
        go_wp2_with (first | (go_at_call 67; rw [← hW]; clear hW; refine (p0 _).mono ?_; rintro e wA ⟨rfl, hA⟩; have sA : Seen W wA := hA; have tA : Seen wr wA := sW.trans sA; have h6' := fun o => h6 (wA.alloc o) (tA.alloc o); clear hA p0))
        go_roundw
        case rel =>
          have z := (side8_1 q b ▸ H6.out).seen (tA.alloc (.cells #[.bool s.au, .int .i64 s.n] 24))
          have z4 := H4.out.seen (tA.alloc (.cells #[.bool s.au, .int .i64 s.n] 24))
          refine ⟨2, by go_num, by omega, by omega, ?_, ?_, ?_, HT.out⟩
          · exact (z4.other (by simp) _).other (by simp) _
          · rw [side8_2, HQ.out]; exact (z.set 2 _).set 3 _
          · exact Below.setCell (Below.setCell (HS.out.trans (tA.alloc _)) (by dsimp only; omega) _) (by dsimp only; omega) _
        case measure => simp [intOf]
    · have ix := index36_2
      have h6 := Blk.rules8 (side8_2 q b ▸ H6.out)
      clear hk0 hk4
      obtain ⟨W, hW⟩ : ∃ W, W = wr.alloc (.cells #[.int .i64 q.c.k, .int .i64 q.c.n] 63) := ⟨_, rfl⟩
      have sW : Seen wr W := by rw [hW]; exact sr.alloc _
      have r0 := Blk.rules2 (show Blk W wr.heap.size [.int .i64 q.c.k, .int .i64 q.c.n] 63 by rw [hW]; exact Blk.new wr _ _)
      have p0 := of4 q.c b
      obtain ⟨s, hs⟩ : ∃ s, sOf q.c b = s := ⟨_, rfl⟩
      have HQ := Lib.hid hs
      cases hc : bOf q.c b with
      | false =>
        have HF : Hid (sidesB q b = false) := by unfold Hid sidesB; simp [hc]
        rw [hc, hs] at p0
        clear hs hc
        go_wp2_with (first | (go_at_call 67; rw [← hW]; clear hW; refine (p0 _).mono ?_; rintro e wA ⟨rfl, hA⟩; have sA : Seen W wA := hA; have tA : Seen wr wA := sW.trans sA; have h4' := fun o => h4 (wA.alloc o) (tA.alloc o); clear hA p0))
        have z := H4.out.seen (tA.alloc (.cells #[.bool s.au, .int .i64 s.n] 24))
        have zz := ((((((((z.set 0 (.bool false)).set 1 (.int .i64 0)).set 2 (.bool false)).set 3 (.int .i64 0)).set 4 (.bool false)).set 5 (.int .i64 0)).set 6 (.bool false)).set 7 (.int .i64 0))
        have f := zz.cell
        have f0 := f 0
        have f1 := f 1
        have f2 := f 2
        have f3 := f 3
        have f4 := f 4
        have f5 := f 5
        have f6 := f 6
        have f7 := f 7
        clear f
        refine bodyPost_ret (by simp [results, Tryz.results65, go_sem, f0, f1, f2, f3, f4, f5, f6, f7]; try rfl) rfl ?_
        have hz := sides_f q b HF.out
        refine ⟨by rw [hz, hz, hz, hz, HF.out]; rfl, ?_⟩
        have g : Seen w _ := HS.out.trans (tA.alloc (.cells #[.bool s.au, .int .i64 s.n] 24))
        exact (((((((Below.setCell (Below.setCell g (by simp) _) (by simp) _).setCell (by simp) _).setCell (by simp) _).setCell (by simp) _).setCell (by simp) _).setCell (by simp) _).setCell (by simp) _)
      | true =>
        have HT : Hid (okTo q b (2 + 1) = true) := by have h := HA.out; unfold okTo at h ⊢; simp at h ⊢; simp_all
        rw [hc, hs] at p0
        clear hs hc
        go_wp2_with (first | (go_at_call 67; rw [← hW]; clear hW; refine (p0 _).mono ?_; rintro e wA ⟨rfl, hA⟩; have sA : Seen W wA := hA; have tA : Seen wr wA := sW.trans sA; have h6' := fun o => h6 (wA.alloc o) (tA.alloc o); clear hA p0))
        go_roundw
        case rel =>
          have z := (side8_2 q b ▸ H6.out).seen (tA.alloc (.cells #[.bool s.au, .int .i64 s.n] 24))
          have z4 := H4.out.seen (tA.alloc (.cells #[.bool s.au, .int .i64 s.n] 24))
          refine ⟨3, by go_num, by omega, by omega, ?_, ?_, ?_, HT.out⟩
          · exact (z4.other (by simp) _).other (by simp) _
          · rw [side8_3, HQ.out]; exact (z.set 4 _).set 5 _
          · exact Below.setCell (Below.setCell (HS.out.trans (tA.alloc _)) (by dsimp only; omega) _) (by dsimp only; omega) _
        case measure => simp [intOf]
    · have ix := index36_3
      have h6 := Blk.rules8 (side8_3 q b ▸ H6.out)
      clear hk0 hk4
      obtain ⟨W, hW⟩ : ∃ W, W = wr.alloc (.cells #[.int .i64 q.d.k, .int .i64 q.d.n] 63) := ⟨_, rfl⟩
      have sW : Seen wr W := by rw [hW]; exact sr.alloc _
      have r0 := Blk.rules2 (show Blk W wr.heap.size [.int .i64 q.d.k, .int .i64 q.d.n] 63 by rw [hW]; exact Blk.new wr _ _)
      have p0 := of4 q.d b
      obtain ⟨s, hs⟩ : ∃ s, sOf q.d b = s := ⟨_, rfl⟩
      have HQ := Lib.hid hs
      cases hc : bOf q.d b with
      | false =>
        have HF : Hid (sidesB q b = false) := by unfold Hid sidesB; simp [hc]
        rw [hc, hs] at p0
        clear hs hc
        go_wp2_with (first | (go_at_call 67; rw [← hW]; clear hW; refine (p0 _).mono ?_; rintro e wA ⟨rfl, hA⟩; have sA : Seen W wA := hA; have tA : Seen wr wA := sW.trans sA; have h4' := fun o => h4 (wA.alloc o) (tA.alloc o); clear hA p0))
        have z := H4.out.seen (tA.alloc (.cells #[.bool s.au, .int .i64 s.n] 24))
        have zz := ((((((((z.set 0 (.bool false)).set 1 (.int .i64 0)).set 2 (.bool false)).set 3 (.int .i64 0)).set 4 (.bool false)).set 5 (.int .i64 0)).set 6 (.bool false)).set 7 (.int .i64 0))
        have f := zz.cell
        have f0 := f 0
        have f1 := f 1
        have f2 := f 2
        have f3 := f 3
        have f4 := f 4
        have f5 := f 5
        have f6 := f 6
        have f7 := f 7
        clear f
        refine bodyPost_ret (by simp [results, Tryz.results65, go_sem, f0, f1, f2, f3, f4, f5, f6, f7]; try rfl) rfl ?_
        have hz := sides_f q b HF.out
        refine ⟨by rw [hz, hz, hz, hz, HF.out]; rfl, ?_⟩
        have g : Seen w _ := HS.out.trans (tA.alloc (.cells #[.bool s.au, .int .i64 s.n] 24))
        exact (((((((Below.setCell (Below.setCell g (by simp) _) (by simp) _).setCell (by simp) _).setCell (by simp) _).setCell (by simp) _).setCell (by simp) _).setCell (by simp) _).setCell (by simp) _)
      | true =>
        have HT : Hid (okTo q b (3 + 1) = true) := by have h := HA.out; unfold okTo at h ⊢; simp at h ⊢; simp_all
        rw [hc, hs] at p0
        clear hs hc
        go_wp2_with (first | (go_at_call 67; rw [← hW]; clear hW; refine (p0 _).mono ?_; rintro e wA ⟨rfl, hA⟩; have sA : Seen W wA := hA; have tA : Seen wr wA := sW.trans sA; have h6' := fun o => h6 (wA.alloc o) (tA.alloc o); clear hA p0))
        go_roundw
        case rel =>
          have z := (side8_3 q b ▸ H6.out).seen (tA.alloc (.cells #[.bool s.au, .int .i64 s.n] 24))
          have z4 := H4.out.seen (tA.alloc (.cells #[.bool s.au, .int .i64 s.n] 24))
          refine ⟨4, by go_num, by omega, by omega, ?_, ?_, ?_, HT.out⟩
          · exact (z4.other (by simp) _).other (by simp) _
          · rw [side8_4, HQ.out]; exact (z.set 6 _).set 7 _
          · exact Below.setCell (Below.setCell (HS.out.trans (tA.alloc _)) (by dsimp only; omega) _) (by dsimp only; omega) _
        case measure => simp [intOf]
    · have h6 := Blk.rules8 (side8_4 q b ▸ H6.out)
      have h4' := h4 wr sr
      have h6' := h6 wr sr
      clear h4 h6
      obtain ⟨HT, hq⟩ := sides_t q b HA.out
      have HT := Lib.hid HT
      have HQ := Lib.hid hq
      clear hq
      go_wp2_with fail
      have z := H4.out
      have zz := ((((((((z.set 0 (.bool (sOf q.a b).au)).set 1 (.int .i64 (sOf q.a b).n)).set 2 (.bool (sOf q.b b).au)).set 3 (.int .i64 (sOf q.b b).n)).set 4 (.bool (sOf q.c b).au)).set 5 (.int .i64 (sOf q.c b).n)).set 6 (.bool (sOf q.d b).au)).set 7 (.int .i64 (sOf q.d b).n))
      have f := zz.cell
      have f0 := f 0
      have f1 := f 1
      have f2 := f 2
      have f3 := f 3
      have f4 := f 4
      have f5 := f 5
      have f6 := f 6
      have f7 := f 7
      clear f
      refine bodyPost_ret (by simp [results, Tryz.results65, go_sem, f0, f1, f2, f3, f4, f5, f6, f7]; try rfl) rfl ?_
      refine ⟨by rw [HQ.out, HQ.out, HQ.out, HQ.out, HT.out], ?_⟩
      exact (((((((Below.setCell (Below.setCell HS.out (by simp) _) (by simp) _).setCell (by simp) _).setCell (by simp) _).setCell (by simp) _).setCell (by simp) _).setCell (by simp) _).setCell (by simp) _)
set_option maxHeartbeats 4000000 in
theorem refSides_any (q : Ln4) (b : Int) (w : World) :
    Calls Tryz.prog 50 #[.agg #[.int .i64 q.a.k, .int .i64 q.a.n, .int .i64 q.b.k, .int .i64 q.b.n, .int .i64 q.c.k, .int .i64 q.c.n, .int .i64 q.d.k, .int .i64 q.d.n], .int .i64 b] w fun e w' => e = .returned (.tuple #[.agg #[.bool (sideS q b q.a).au, .int .i64 (sideS q b q.a).n, .bool (sideS q b q.b).au, .int .i64 (sideS q b q.b).n, .bool (sideS q b q.c).au, .int .i64 (sideS q b q.c).n, .bool (sideS q b q.d).au, .int .i64 (sideS q b q.d).n], .bool (sidesB q b)]) ∧ Below w.heap.size w w' := by
  go_enter Tryz.func50, Tryz.ntmps50
  go_wp2_with fail
  go_loopw [11, 7] (fun i al wr => ∃ k : Int, i = .int .i64 k ∧ al = .bool (okTo q b k) ∧ 0 ≤ k ∧ k ≤ 4 ∧ Blk wr w.heap.size [.int .i64 q.a.k, .int .i64 q.a.n, .int .i64 q.b.k, .int .i64 q.b.n, .int .i64 q.c.k, .int .i64 q.c.n, .int .i64 q.d.k, .int .i64 q.d.n] 64 ∧ Blk wr (w.heap.size + 1) [.bool false, .int .i64 0, .bool false, .int .i64 0, .bool false, .int .i64 0, .bool false, .int .i64 0] 89 ∧ Blk wr (w.heap.size + 1 + 1) (side8 q b k) 89 ∧ Seen w wr) (fun i _ _ => 4 - (intOf i).toNat)
  case atStart =>
    refine ⟨0, rfl, by simp [okTo], by omega, by omega, ?_, ?_, ?_, ?_⟩
    · exact ((Blk.new w [.int .i64 q.a.k, .int .i64 q.a.n, .int .i64 q.b.k, .int .i64 q.b.n, .int .i64 q.c.k, .int .i64 q.c.n, .int .i64 q.d.k, .int .i64 q.d.n] 64).alloc _).alloc _
    · have h := (Blk.new (w.alloc (.cells #[.int .i64 q.a.k, .int .i64 q.a.n, .int .i64 q.b.k, .int .i64 q.b.n, .int .i64 q.c.k, .int .i64 q.c.n, .int .i64 q.d.k, .int .i64 q.d.n] 64)) [.bool false, .int .i64 0, .bool false, .int .i64 0, .bool false, .int .i64 0, .bool false, .int .i64 0] 89).alloc (.cells #[.bool false, .int .i64 0, .bool false, .int .i64 0, .bool false, .int .i64 0, .bool false, .int .i64 0] 89)
      simpa using h
    · have h := Blk.new ((w.alloc (.cells #[.int .i64 q.a.k, .int .i64 q.a.n, .int .i64 q.b.k, .int .i64 q.b.n, .int .i64 q.c.k, .int .i64 q.c.n, .int .i64 q.d.k, .int .i64 q.d.n] 64)).alloc (.cells #[.bool false, .int .i64 0, .bool false, .int .i64 0, .bool false, .int .i64 0, .bool false, .int .i64 0] 89)) [.bool false, .int .i64 0, .bool false, .int .i64 0, .bool false, .int .i64 0, .bool false, .int .i64 0] 89
      rw [side8_0]
      simpa using h
    · exact (((Seen.refl w).alloc _).alloc _).alloc _
  case round =>
    obtain ⟨k, rfl, rfl, hk0, hk4, h2, h4, h6, hs⟩ := hrel
    have HS := Lib.hid hs
    have H2 := Lib.hid h2
    have H4 := Lib.hid h4
    have H6 := Lib.hid h6
    clear hs h2 h4 h6
    have sr := Seen.refl wr
    obtain ⟨al, ha⟩ : ∃ al, okTo q b k = al := ⟨_, rfl⟩
    rw [ha]
    have HA := Lib.hid ha
    clear ha
    rcases (show k = 0 ∨ k = 1 ∨ k = 2 ∨ k = 3 ∨ k = 4 by omega) with rfl | rfl | rfl | rfl | rfl
    · have h2 := Blk.rules8 H2.out wr sr
      have h6 := Blk.rules8 (side8_0 q b ▸ H6.out)
      clear hk0 hk4
      have p0 := refOf4 q.a b
      obtain ⟨s, hs⟩ : ∃ s, sOf q.a b = s := ⟨_, rfl⟩
      obtain ⟨c, hc⟩ : ∃ c, bOf q.a b = c := ⟨_, rfl⟩
      have HQ := Lib.hid hs
      have HT : Hid (okTo q b (0 + 1) = (al && c)) := by have h := HA.out; unfold Hid; unfold okTo at h ⊢; simp at h ⊢; simp_all
      rw [hc, hs] at p0
      clear hs hc
      cases al
      all_goals
        go_wp2_with (first | (go_at_call 25; refine (p0 _).mono ?_; rintro e wA ⟨rfl, hA⟩; have tA : Seen wr wA := hA; have h6' := fun o => h6 (wA.alloc o) (tA.alloc o); clear hA p0))
        go_roundw
        case rel =>
          have z := (side8_0 q b ▸ H6.out).seen (tA.alloc (.cells #[.bool s.au, .int .i64 s.n] 58))
          have z4 := H4.out.seen (tA.alloc (.cells #[.bool s.au, .int .i64 s.n] 58))
          have z2 := H2.out.seen (tA.alloc (.cells #[.bool s.au, .int .i64 s.n] 58))
          refine ⟨1, by go_num, ?_, by omega, by omega, ?_, ?_, ?_, ?_⟩
          · have h := HT.out; simp at h; simp [h]
          · exact (z2.other (by dsimp only; omega) _).other (by dsimp only; omega) _
          · exact (z4.other (by simp) _).other (by simp) _
          · rw [side8_1, HQ.out]; exact (z.set 0 _).set 1 _
          · exact Below.setCell (Below.setCell (HS.out.trans (tA.alloc _)) (by dsimp only; omega) _) (by dsimp only; omega) _
        case measure => simp [intOf]
    · have h2 := Blk.rules8 H2.out wr sr
      have h6 := Blk.rules8 (side8_1 q b ▸ H6.out)
      clear hk0 hk4
      have p0 := refOf4 q.b b
      obtain ⟨s, hs⟩ : ∃ s, sOf q.b b = s := ⟨_, rfl⟩
      obtain ⟨c, hc⟩ : ∃ c, bOf q.b b = c := ⟨_, rfl⟩
      have HQ := Lib.hid hs
      have HT : Hid (okTo q b (1 + 1) = (al && c)) := by have h := HA.out; unfold Hid; unfold okTo at h ⊢; simp at h ⊢; simp_all
      rw [hc, hs] at p0
      clear hs hc
      cases al
      all_goals
        go_wp2_with (first | (go_at_call 25; refine (p0 _).mono ?_; rintro e wA ⟨rfl, hA⟩; have tA : Seen wr wA := hA; have h6' := fun o => h6 (wA.alloc o) (tA.alloc o); clear hA p0))
        go_roundw
        case rel =>
          have z := (side8_1 q b ▸ H6.out).seen (tA.alloc (.cells #[.bool s.au, .int .i64 s.n] 58))
          have z4 := H4.out.seen (tA.alloc (.cells #[.bool s.au, .int .i64 s.n] 58))
          have z2 := H2.out.seen (tA.alloc (.cells #[.bool s.au, .int .i64 s.n] 58))
          refine ⟨2, by go_num, ?_, by omega, by omega, ?_, ?_, ?_, ?_⟩
          · have h := HT.out; simp at h; simp [h]
          · exact (z2.other (by dsimp only; omega) _).other (by dsimp only; omega) _
          · exact (z4.other (by simp) _).other (by simp) _
          · rw [side8_2, HQ.out]; exact (z.set 2 _).set 3 _
          · exact Below.setCell (Below.setCell (HS.out.trans (tA.alloc _)) (by dsimp only; omega) _) (by dsimp only; omega) _
        case measure => simp [intOf]
    · have h2 := Blk.rules8 H2.out wr sr
      have h6 := Blk.rules8 (side8_2 q b ▸ H6.out)
      clear hk0 hk4
      have p0 := refOf4 q.c b
      obtain ⟨s, hs⟩ : ∃ s, sOf q.c b = s := ⟨_, rfl⟩
      obtain ⟨c, hc⟩ : ∃ c, bOf q.c b = c := ⟨_, rfl⟩
      have HQ := Lib.hid hs
      have HT : Hid (okTo q b (2 + 1) = (al && c)) := by have h := HA.out; unfold Hid; unfold okTo at h ⊢; simp at h ⊢; simp_all
      rw [hc, hs] at p0
      clear hs hc
      cases al
      all_goals
        go_wp2_with (first | (go_at_call 25; refine (p0 _).mono ?_; rintro e wA ⟨rfl, hA⟩; have tA : Seen wr wA := hA; have h6' := fun o => h6 (wA.alloc o) (tA.alloc o); clear hA p0))
        go_roundw
        case rel =>
          have z := (side8_2 q b ▸ H6.out).seen (tA.alloc (.cells #[.bool s.au, .int .i64 s.n] 58))
          have z4 := H4.out.seen (tA.alloc (.cells #[.bool s.au, .int .i64 s.n] 58))
          have z2 := H2.out.seen (tA.alloc (.cells #[.bool s.au, .int .i64 s.n] 58))
          refine ⟨3, by go_num, ?_, by omega, by omega, ?_, ?_, ?_, ?_⟩
          · have h := HT.out; simp at h; simp [h]
          · exact (z2.other (by dsimp only; omega) _).other (by dsimp only; omega) _
          · exact (z4.other (by simp) _).other (by simp) _
          · rw [side8_3, HQ.out]; exact (z.set 4 _).set 5 _
          · exact Below.setCell (Below.setCell (HS.out.trans (tA.alloc _)) (by dsimp only; omega) _) (by dsimp only; omega) _
        case measure => simp [intOf]
    · have h2 := Blk.rules8 H2.out wr sr
      have h6 := Blk.rules8 (side8_3 q b ▸ H6.out)
      clear hk0 hk4
      have p0 := refOf4 q.d b
      obtain ⟨s, hs⟩ : ∃ s, sOf q.d b = s := ⟨_, rfl⟩
      obtain ⟨c, hc⟩ : ∃ c, bOf q.d b = c := ⟨_, rfl⟩
      have HQ := Lib.hid hs
      have HT : Hid (okTo q b (3 + 1) = (al && c)) := by have h := HA.out; unfold Hid; unfold okTo at h ⊢; simp at h ⊢; simp_all
      rw [hc, hs] at p0
      clear hs hc
      cases al
      all_goals
        go_wp2_with (first | (go_at_call 25; refine (p0 _).mono ?_; rintro e wA ⟨rfl, hA⟩; have tA : Seen wr wA := hA; have h6' := fun o => h6 (wA.alloc o) (tA.alloc o); clear hA p0))
        go_roundw
        case rel =>
          have z := (side8_3 q b ▸ H6.out).seen (tA.alloc (.cells #[.bool s.au, .int .i64 s.n] 58))
          have z4 := H4.out.seen (tA.alloc (.cells #[.bool s.au, .int .i64 s.n] 58))
          have z2 := H2.out.seen (tA.alloc (.cells #[.bool s.au, .int .i64 s.n] 58))
          refine ⟨4, by go_num, ?_, by omega, by omega, ?_, ?_, ?_, ?_⟩
          · have h := HT.out; simp at h; simp [h]
          · exact (z2.other (by dsimp only; omega) _).other (by dsimp only; omega) _
          · exact (z4.other (by simp) _).other (by simp) _
          · rw [side8_4, HQ.out]; exact (z.set 6 _).set 7 _
          · exact Below.setCell (Below.setCell (HS.out.trans (tA.alloc _)) (by dsimp only; omega) _) (by dsimp only; omega) _
        case measure => simp [intOf]
    · have h6 := Blk.rules8 (side8_4 q b ▸ H6.out)
      have h4 := Blk.rules8 H4.out
      have h4' := h4 wr sr
      have h6' := h6 wr sr
      clear h4 h6
      cases al with
      | false =>
        have HF : Hid (sidesB q b = false) := by have h := HA.out; unfold Hid; unfold okTo at h; unfold sidesB; simp at h ⊢; simp_all
        have hz := sides_f q b HF.out
        have HZ := Lib.hid hz
        clear hz
        go_wp2_with fail
        have z := H4.out
        have zz := ((((((((z.set 0 (.bool false)).set 1 (.int .i64 0)).set 2 (.bool false)).set 3 (.int .i64 0)).set 4 (.bool false)).set 5 (.int .i64 0)).set 6 (.bool false)).set 7 (.int .i64 0))
        have f := zz.cell
        have f0 := f 0
        have f1 := f 1
        have f2 := f 2
        have f3 := f 3
        have f4 := f 4
        have f5 := f 5
        have f6 := f 6
        have f7 := f 7
        clear f
        refine bodyPost_ret (by simp [results, Tryz.results50, go_sem, f0, f1, f2, f3, f4, f5, f6, f7]; try rfl) rfl ?_
        refine ⟨by rw [HZ.out, HZ.out, HZ.out, HZ.out, HF.out]; rfl, ?_⟩
        exact (((((((Below.setCell (Below.setCell HS.out (by simp) _) (by simp) _).setCell (by simp) _).setCell (by simp) _).setCell (by simp) _).setCell (by simp) _).setCell (by simp) _).setCell (by simp) _)
      | true =>
        obtain ⟨HT, hq⟩ := sides_t q b HA.out
        have HT := Lib.hid HT
        have HQ := Lib.hid hq
        clear hq
        go_wp2_with fail
        have z := H4.out
        have zz := ((((((((z.set 0 (.bool (sOf q.a b).au)).set 1 (.int .i64 (sOf q.a b).n)).set 2 (.bool (sOf q.b b).au)).set 3 (.int .i64 (sOf q.b b).n)).set 4 (.bool (sOf q.c b).au)).set 5 (.int .i64 (sOf q.c b).n)).set 6 (.bool (sOf q.d b).au)).set 7 (.int .i64 (sOf q.d b).n))
        have f := zz.cell
        have f0 := f 0
        have f1 := f 1
        have f2 := f 2
        have f3 := f 3
        have f4 := f 4
        have f5 := f 5
        have f6 := f 6
        have f7 := f 7
        clear f
        refine bodyPost_ret (by simp [results, Tryz.results50, go_sem, f0, f1, f2, f3, f4, f5, f6, f7]; try rfl) rfl ?_
        refine ⟨by rw [HQ.out, HQ.out, HQ.out, HQ.out, HT.out], ?_⟩
        exact (((((((Below.setCell (Below.setCell HS.out (by simp) _) (by simp) _).setCell (by simp) _).setCell (by simp) _).setCell (by simp) _).setCell (by simp) _).setCell (by simp) _).setCell (by simp) _)
end Go.Proofs.YtngeaigkafamiaaGreat
namespace Go.Proofs.YtngeaigkafamiaaGreat
set_option maxRecDepth 100000
structure Ch where
  top : St
  bot : St
  inn : St
  thr : Bool
  high : Int
structure Pi where
  y : List Int
  edge : Int
  top : St
  cur : St
  att : Bool
def zSt : St := ⟨0, 0⟩
def zeroC : Ch := ⟨zSt, zSt, zSt, false, 0⟩
def zPi : Pi := ⟨[], 0, zSt, zSt, false⟩
def cat (l : List Ch) (k : Nat) : Ch := l.getD k zeroC
theorem cat_eq {l : List Ch} {k : Nat} (h : k < l.length) : cat l k = l[k] := by unfold cat; simp [h]
theorem take_cat {l : List Ch} {k : Nat} (h : k < l.length) : l.take (k + 1) = l.take k ++ [cat l k] := by rw [List.take_succ_eq_append_getElem h, cat_eq h]
theorem drop_cat {l : List Ch} {k : Nat} (h : k < l.length) : l.drop k = cat l k :: l.drop (k + 1) := by rw [cat_eq h]; exact List.drop_eq_getElem_cons h
def byS (c : Ch) : St := if c.thr then c.inn else c.top
def gapN (u : St) (c : Ch) : Int := valN (joinS u (byS c))
def gapB (u : St) (c : Ch) : Bool := valB (joinS u (byS c))
def posN (e : Int) (u : St) (c : Ch) : Int := if gapB u c then sumN [e, gapN u c] else 0
def posB (e : Int) (u : St) (c : Ch) : Bool := gapB u c && sumB [e, gapN u c]
def topP (p : Pi) (c : Ch) : Pi := if c.thr then ⟨p.y ++ [0], p.edge, joinS p.top c.top, p.cur, p.att⟩ else ⟨p.y ++ [0], c.high, joinS p.top c.top, c.bot, false⟩
def topB (c : Ch) : Bool := c.thr || fitsB c.high
def lowP (p : Pi) (c : Ch) : Pi := if c.thr then ⟨p.y ++ [posN p.edge p.cur c], p.edge, p.top, joinS p.cur c.top, p.att⟩ else ⟨p.y ++ [posN p.edge p.cur c], sumN [posN p.edge p.cur c, c.high], p.top, c.bot, p.att⟩
def lowB (p : Pi) (c : Ch) : Bool := posB p.edge p.cur c && (c.thr || sumB [posN p.edge p.cur c, c.high])
def addP (p : Pi) (c : Ch) : Pi := if p.att then topP p c else lowP p c
def addB (p : Pi) (c : Ch) : Bool := if p.att then topB c else lowB p c
def runP (p : Pi) : List Ch → Option Pi
  | [] => some p
  | c :: l => if addB p c then runP (addP p c) l else none
def runL (p : Pi) : List Ch → Option Pi
  | [] => some p
  | c :: l => if lowB p c then runL (lowP p c) l else none
theorem runP_append (p : Pi) (a b : List Ch) : runP p (a ++ b) = (runP p a).bind fun q => runP q b := by
  induction a generalizing p with
  | nil => rfl
  | cons c l ih =>
    simp only [List.cons_append, runP]
    split
    · exact ih _
    · rfl
theorem runL_append (p : Pi) (a b : List Ch) : runL p (a ++ b) = (runL p a).bind fun q => runL q b := by
  induction a generalizing p with
  | nil => rfl
  | cons c l ih =>
    simp only [List.cons_append, runL]
    split
    · exact ih _
    · rfl
theorem runP_next {p q : Pi} {l : List Ch} {k : Nat} (hk : k < l.length) (h : runP p (l.take k) = some q) (hb : addB q (cat l k) = true) : runP p (l.take (k + 1)) = some (addP q (cat l k)) := by
  rw [take_cat hk, runP_append, h]; simp [runP, hb]
theorem runP_stop {p q : Pi} {l : List Ch} {k : Nat} (hk : k < l.length) (h : runP p (l.take k) = some q) (hb : addB q (cat l k) = false) : runP p l = none := by
  have e : l = l.take k ++ (cat l k :: l.drop (k + 1)) := by rw [← drop_cat hk, List.take_append_drop]
  rw [e, runP_append, h]; simp [runP, hb]
theorem runL_next {p q : Pi} {l : List Ch} {k : Nat} (hk : k < l.length) (h : runL p (l.take k) = some q) (hb : lowB q (cat l k) = true) : runL p (l.take (k + 1)) = some (lowP q (cat l k)) := by
  rw [take_cat hk, runL_append, h]; simp [runL, hb]
theorem runL_stop {p q : Pi} {l : List Ch} {k : Nat} (hk : k < l.length) (h : runL p (l.take k) = some q) (hb : lowB q (cat l k) = false) : runL p l = none := by
  have e : l = l.take k ++ (cat l k :: l.drop (k + 1)) := by rw [← drop_cat hk, List.take_append_drop]
  rw [e, runL_append, h]; simp [runL, hb]
def openP (o : Bool) : Pi := ⟨[], 0, zSt, zSt, o⟩
def stkO (l : List Ch) (o : Bool) : Option Pi := runP (openP o) l
def stkP (l : List Ch) (o : Bool) : Pi := (stkO l o).getD zPi
def stkB (l : List Ch) (o : Bool) : Bool := (stkO l o).isSome
theorem stk_some {l : List Ch} {o : Bool} {q : Pi} (h : stkO l o = some q) : stkP l o = q ∧ stkB l o = true := by unfold stkP stkB; rw [h]; exact ⟨rfl, rfl⟩
theorem stk_none {l : List Ch} {o : Bool} (h : stkO l o = none) : stkP l o = zPi ∧ stkB l o = false := by unfold stkP stkB; rw [h]; exact ⟨rfl, rfl⟩
theorem addP_len (p : Pi) (c : Ch) : (addP p c).y.length = p.y.length + 1 := by
  unfold addP topP lowP
  split <;> split <;> simp
theorem lowP_len (p : Pi) (c : Ch) : (lowP p c).y.length = p.y.length + 1 := by
  unfold lowP
  split <;> simp
theorem runP_len {p q : Pi} {l : List Ch} (h : runP p l = some q) : q.y.length = p.y.length + l.length := by
  induction l generalizing p with
  | nil => simp [runP] at h; subst h; simp
  | cons c l ih =>
    simp only [runP] at h
    split at h
    · have := ih h
      rw [addP_len] at this
      simp; omega
    · cases h
theorem runL_len {p q : Pi} {l : List Ch} (h : runL p l = some q) : q.y.length = p.y.length + l.length := by
  induction l generalizing p with
  | nil => simp [runL] at h; subst h; simp
  | cons c l ih =>
    simp only [runL] at h
    split at h
    · have := ih h
      rw [lowP_len] at this
      simp; omega
    · cases h
def topK : List Ch → Nat
  | [] => 0
  | c :: l => if c.thr then topK l + 1 else 1
def topN (l : List Ch) (o : Bool) : Nat := if o then topK l else 0
theorem topK_le (l : List Ch) : topK l ≤ l.length := by
  induction l with
  | nil => exact Nat.le_refl _
  | cons c l ih => simp only [topK, List.length_cons]; split <;> omega
theorem topN_le (l : List Ch) (o : Bool) : topN l o ≤ l.length := by
  unfold topN; split
  · exact topK_le l
  · omega
theorem topK_step {l : List Ch} {k : Nat} (hk : k < l.length) : topK (l.drop k) = if (cat l k).thr then topK (l.drop (k + 1)) + 1 else 1 := by rw [drop_cat hk]; rfl
def refTop (p : Pi) (c : Ch) : Pi := if c.thr then ⟨p.y ++ [0], p.edge, joinS p.top c.top, p.cur, p.att⟩ else ⟨p.y ++ [0], c.high, joinS p.top c.top, c.bot, p.att⟩
def refTops (p : Pi) (l : List Ch) : Pi := l.foldl refTop p
theorem refTops_next {l : List Ch} {k : Nat} (p : Pi) (hk : k < l.length) : refTops p (l.take (k + 1)) = refTop (refTops p (l.take k)) (cat l k) := by
  unfold refTops; rw [take_cat hk, List.foldl_append]; rfl
theorem refTop_len (p : Pi) (c : Ch) : (refTop p c).y.length = p.y.length + 1 := by unfold refTop; split <;> simp
theorem refTops_len (p : Pi) (l : List Ch) : (refTops p l).y.length = p.y.length + l.length := by
  induction l generalizing p with
  | nil => rfl
  | cons c l ih => show (refTops (refTop p c) l).y.length = _; rw [ih, refTop_len]; simp; omega
def attB (l : List Ch) (o : Bool) : Bool := o && (decide (topN l o = 0) || (cat l (topN l o - 1)).thr)
theorem topK_last (l : List Ch) : (decide (topK l = 0) || (cat l (topK l - 1)).thr) = l.all (fun c => c.thr) := by
  induction l with
  | nil => rfl
  | cons c l ih =>
    simp only [topK, List.all_cons]
    by_cases hc : c.thr = true
    · simp only [hc, if_true, Bool.true_and, Nat.add_sub_cancel]
      rw [← ih]
      match l with
      | [] => simp [topK, cat, hc]
      | d :: r =>
        have hp : 0 < topK (d :: r) := by simp only [topK]; split <;> omega
        obtain ⟨m, hm⟩ : ∃ m, topK (d :: r) = m + 1 := ⟨topK (d :: r) - 1, by omega⟩
        rw [hm]
        simp [cat]
    · have hc' : c.thr = false := by simpa using hc
      simp [hc', cat]
theorem att_open (l : List Ch) : attB l true = l.all (fun c => c.thr) := by
  unfold attB topN; simp only [if_true, Bool.true_and]; exact topK_last l
theorem att_shut (l : List Ch) : attB l false = false := by unfold attB; simp
def refQ (l : List Ch) (o : Bool) : Pi := refTops ⟨[], 0, zSt, zSt, attB l o⟩ (l.take (topN l o))
def refO (l : List Ch) (o : Bool) : Option Pi := if fitsB (refQ l o).edge then runL (refQ l o) (l.drop (topN l o)) else none
theorem lowP_att (p : Pi) (c : Ch) : (lowP p c).att = p.att := by unfold lowP; split <;> rfl
theorem run_shut (p : Pi) (h : p.att = false) (l : List Ch) : runP p l = runL p l := by
  induction l generalizing p with
  | nil => rfl
  | cons c l ih =>
    have e1 : addB p c = lowB p c := by unfold addB; rw [h]; rfl
    have e2 : addP p c = lowP p c := by unfold addP; rw [h]; rfl
    simp only [runP, runL, e1, e2]
    split
    · exact ih _ (by rw [lowP_att, h])
    · rfl
theorem run_open (y : List Int) (e : Int) (t u : St) (he : fitsB e = true) (l : List Ch) :
    runP ⟨y, e, t, u, true⟩ l = (if fitsB (refTops ⟨y, e, t, u, l.all (fun c => c.thr)⟩ (l.take (topK l))).edge then runL (refTops ⟨y, e, t, u, l.all (fun c => c.thr)⟩ (l.take (topK l))) (l.drop (topK l)) else none) := by
  induction l generalizing y e t u with
  | nil => simp [runP, topK, refTops, runL, he]
  | cons c l ih =>
    cases hc : c.thr
    · have ea : (c :: l).all (fun c => c.thr) = false := by simp [hc]
      have e0 : addB ⟨y, e, t, u, true⟩ c = fitsB c.high := by simp [addB, topB, hc]
      have e1 : addP ⟨y, e, t, u, true⟩ c = ⟨y ++ [0], c.high, joinS t c.top, c.bot, false⟩ := by simp [addP, topP, hc]
      have e2 : refTop ⟨y, e, t, u, false⟩ c = ⟨y ++ [0], c.high, joinS t c.top, c.bot, false⟩ := by simp [refTop, hc]
      have e3 : refTops ⟨y, e, t, u, false⟩ ((c :: l).take (topK (c :: l))) = ⟨y ++ [0], c.high, joinS t c.top, c.bot, false⟩ := by
        simp only [topK, hc, Bool.false_eq_true, if_false, List.take_succ_cons, List.take_zero]
        exact e2
      have e4 : (c :: l).drop (topK (c :: l)) = l := by simp [topK, hc]
      rw [ea, e3, e4]
      simp only [runP, e0, e1]
      rw [run_shut _ rfl]
    · have ea : (c :: l).all (fun c => c.thr) = l.all (fun c => c.thr) := by simp [hc]
      have e0 : addB ⟨y, e, t, u, true⟩ c = true := by simp [addB, topB, hc]
      have e1 : addP ⟨y, e, t, u, true⟩ c = ⟨y ++ [0], e, joinS t c.top, u, true⟩ := by simp [addP, topP, hc]
      have e2 : ∀ b, refTop ⟨y, e, t, u, b⟩ c = ⟨y ++ [0], e, joinS t c.top, u, b⟩ := fun b => by simp [refTop, hc]
      have e3 : ∀ b, refTops ⟨y, e, t, u, b⟩ ((c :: l).take (topK (c :: l))) = refTops ⟨y ++ [0], e, joinS t c.top, u, b⟩ (l.take (topK l)) := fun b => by
        simp only [topK, hc, if_true, List.take_succ_cons]
        show refTops (refTop _ c) _ = _
        rw [e2]
      have e4 : (c :: l).drop (topK (c :: l)) = l.drop (topK l) := by simp [topK, hc]
      rw [ea, e3, e4]
      simp only [runP, e0, e1, if_true]
      exact ih _ _ _ _ he
theorem fits_zero : fitsB 0 = true := by decide
theorem stk_ref (l : List Ch) (o : Bool) : stkO l o = refO l o := by
  unfold stkO refO refQ openP
  cases o
  · rw [att_shut, run_shut _ rfl]
    simp [topN, refTops, fits_zero]
  · rw [att_open]
    exact run_open _ _ _ _ fits_zero l
end Go.Proofs.YtngeaigkafamiaaGreat
namespace Go.Proofs.YtngeaigkafamiaaGreat
open Go.ChangeShapes Go.WideShapes Go.ChangeAt Go.RowKit
set_option maxRecDepth 100000
set_option linter.unusedVariables false
def mx : List Int → Int
  | [] => 0
  | x :: r => max x (mx r)
def mn : List Int → Int
  | [] => 0
  | x :: r => min x (mn r)
theorem mx_pos (l : List Int) : 0 ≤ mx l := by
  induction l with
  | nil => exact Int.le_refl _
  | cons x r ih => simp only [mx]; omega
theorem mn_neg (l : List Int) : mn l ≤ 0 := by
  induction l with
  | nil => exact Int.le_refl _
  | cons x r ih => simp only [mn]; omega
theorem mx_append (a b : List Int) : mx (a ++ b) = max (mx a) (mx b) := by
  have hb := mx_pos b
  induction a with
  | nil => simp only [List.nil_append, mx]; omega
  | cons x r ih => simp only [List.cons_append, mx, ih]; omega
theorem mn_append (a b : List Int) : mn (a ++ b) = min (mn a) (mn b) := by
  have hb := mn_neg b
  induction a with
  | nil => simp only [List.nil_append, mn]; omega
  | cons x r ih => simp only [List.cons_append, mn, ih]; omega
def allS (l : List Int) : St := ⟨mx l, mn l⟩
theorem all_append (a b : List Int) : allS (a ++ b) = joinS (allS a) (allS b) := by
  unfold allS joinS
  rw [mx_append, mn_append]
theorem all_one (m : Int) : allS [m] = ofM m := rfl
theorem take_one {zs : List Int} {k : Nat} (h : k < zs.length) : zs.take (k + 1) = zs.take k ++ [zat zs k] := by
  rw [List.take_succ_eq_append_getElem h, zat_eq h]
theorem mx_next {zs : List Int} {k : Nat} (h : k < zs.length) : mx (zs.take (k + 1)) = max (mx (zs.take k)) (zat zs k) := by
  have := mx_pos (zs.take k)
  rw [take_one h, mx_append]
  simp only [mx]; omega
theorem mn_next {zs : List Int} {k : Nat} (h : k < zs.length) : mn (zs.take (k + 1)) = min (mn (zs.take k)) (zat zs k) := by
  have := mn_neg (zs.take k)
  rw [take_one h, mn_append]
  simp only [mn]; omega
theorem Blk.int2 {w : World} {B : Nat} {a b c d : Int} {t : TypeId} (h : Blk w B [.int .i64 a, .int .i64 b] t) (h1 : a = c) (h2 : b = d) : Blk w B [.int .i64 c, .int .i64 d] t := by
  subst h1 h2; exact h
theorem heap_drewN (w : World) (n : Nat) : (w.drewN n).heap = w.heap := by
  induction n with
  | zero => rfl
  | succ n ih => exact ih
theorem Blk.drewN {w : World} {B : Nat} {l : List Value} {t : TypeId} (h : Blk w B l t) (n : Nat) : Blk (w.drewN n) B l t := by
  unfold Blk; rw [heap_drewN]; exact h
theorem below_drewN {b : Nat} {w v : World} (h : Below b w v) (n : Nat) : Below b w (v.drewN n) := by
  induction n with
  | zero => exact h
  | succ n ih => exact ih.drew
end Go.Proofs.YtngeaigkafamiaaGreat

