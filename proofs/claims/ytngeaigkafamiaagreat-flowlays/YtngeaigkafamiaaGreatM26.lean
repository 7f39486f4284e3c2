/- Texts of the proof, merged: RefSolve. -/
import Derived.Test.YtngeaigkafamiaaGreatM18
namespace Go.Proofs.YtngeaigkafamiaaGreat
open Go.ChangeShapes Go.WideShapes Go.ChangeAt Go.RowKit
set_option maxRecDepth 100000
set_option linter.unusedVariables false
abbrev row5 (b : Bx) : List Value := [.int .i64 b.base, .int .i64 b.ar, .int .i64 (orV b.lf 0), .int .i64 (orV b.wd 0), .int .i64 (orV b.rt 0)]
def okToA (b : Bx) (k : Int) : Bool := (decide (k ≤ 0) || fitsB b.base) && (decide (k ≤ 1) || fitsB b.ar) && (decide (k ≤ 2) || fitsB (orV b.lf 0)) && (decide (k ≤ 3) || fitsB (orV b.wd 0)) && (decide (k ≤ 4) || fitsB (orV b.rt 0))
theorem okTo5 {b : Bx} (h : okToA b 5 = true) : okF b = true ∧ fitsB (orV b.wd 0) = true := by
  unfold okToA at h
  unfold okF
  simp at h ⊢
  simp [h]
theorem sol_no {b : Bx} (h : okF b = false ∨ fitsB (orV b.wd 0) = false) : solB b = false ∧ solO b = zO := by
  have h1 : solB b = false := by
    unfold solB
    cases hf : okF b with
    | false => rfl
    | true =>
      have hw : fitsB (orV b.wd 0) = false := h.elim (fun g => by rw [hf] at g; cases g) id
      have ha : b.wd.au = false := by
        cases g : b.wd.au with
        | false => rfl
        | true => unfold orV at hw; rw [g, if_pos rfl] at hw; exact absurd hw (by decide)
      have hn : fitsB (wN b b.wd) = false := by
        unfold wN
        rw [ha]
        unfold orV at hw
        rw [ha] at hw
        exact hw
      have ht := try_no hf hn
      unfold lastS
      rw [hi_no (fun g => by rw [ht] at g; cases g.1), lo_no (fun g => by rw [ht] at g; cases g.1), ht]
      rfl
  exact ⟨h1, by unfold solO; rw [h1]; rfl⟩
theorem refFor_as (b : Bx) (s : Sz) (w : World) (hok : okF b = true) :
    Calls Tryz.prog 54 #[bxv b, szv s] w fun e w' => e = .returned (.tuple #[o3v (refAO b s), .bool (tryB b s)]) ∧ Seen w w' := by
  rw [(try_is s hok).1]
  exact refFor_any b s w hok
theorem sol_at {b : Bx} {s : Sz} (hok : okF b = true) (hl : lastS b = s) : solB b = tryB b s ∧ solO b = if tryB b s then refAO b s else zO := by
  have h1 : solB b = tryB b s := by unfold solB; rw [hok, hl]; rfl
  refine ⟨h1, ?_⟩
  unfold solO
  rw [h1, hl]
  cases h : tryB b s with
  | false => rfl
  | true => rw [if_pos rfl, if_pos rfl]; exact (try_is s hok).2 h
theorem sol_yes {b : Bx} {s : Sz} (hok : okF b = true) (hl : lastS b = s) (h : tryB b s = true) : Hid (solB b = true ∧ solO b = refAO b s) := by
  obtain ⟨h1, h2⟩ := sol_at hok hl
  rw [h] at h1 h2
  exact Lib.hid ⟨h1, h2⟩
theorem sol_not {b : Bx} {s : Sz} (hok : okF b = true) (hl : lastS b = s) (h : tryB b s = false) : Hid (solB b = false ∧ solO b = zO) := by
  obtain ⟨h1, h2⟩ := sol_at hok hl
  rw [h] at h1 h2
  exact Lib.hid ⟨h1, h2⟩
theorem Blk.rules5 {w : World} {B : Nat} {t : TypeId} {x0 x1 x2 x3 x4 : Value} (h : Blk w B [x0, x1, x2, x3, x4] t) : ∀ w', Seen w w' → w'.cell? ⟨B, 0, none⟩ = some x0 ∧ w'.cell? ⟨B, 1, none⟩ = some x1 ∧ w'.cell? ⟨B, 2, none⟩ = some x2 ∧ w'.cell? ⟨B, 3, none⟩ = some x3 ∧ w'.cell? ⟨B, 4, none⟩ = some x4 :=
  fun _ hs => ⟨(h.seen hs).cell 0, (h.seen hs).cell 1, (h.seen hs).cell 2, (h.seen hs).cell 3, (h.seen hs).cell 4⟩
set_option maxHeartbeats 4000000 in
theorem refSolve_any (b : Bx) (w : World) :
    Calls Tryz.prog 27 #[bxv b] w fun e w' => e = .returned (.tuple #[o3v (solO b), .bool (solB b)]) ∧ Seen w w' := by
  have o1 := fun w => refOr_any b.lf 0 w
  have o2 := fun w => refOr_any b.wd 0 w
  have o3 := fun w => refOr_any b.rt 0 w
  obtain ⟨W, hW⟩ : ∃ W, W = (w.alloc (.cells (bxl b).toArray 105)).alloc (.cells #[.int .i64 0, .int .i64 0, .int .i64 0] 101) := ⟨_, rfl⟩
  have kb : Blk W w.heap.size (bxl b) 105 := by rw [hW]; exact (Blk.new w _ _).alloc _
  have ko : Blk W (w.heap.size + 1) [.int .i64 0, .int .i64 0, .int .i64 0] 101 := by rw [hW]; simpa using Blk.new (w.alloc (.cells (bxl b).toArray 105)) [.int .i64 0, .int .i64 0, .int .i64 0] 101
  have SW : Hid (Seen w W) := by rw [hW]; unfold Hid Seen; go_grown
  have hlt : w.heap.size + 1 < W.heap.size := ko.lt
  have HKB := Lib.hid kb
  have HKO := Lib.hid ko
  have rb := kb.rulesB
  have sr := Seen.refl W
  clear kb ko
  go_enter Tryz.func27, Tryz.ntmps27
  go_upto_region 1 with fail
  rw [← hW]
  clear hW
  go_cut [4] (fun v wx => (∃ D, v = .slice (some ⟨D, 0, none⟩) 5 5 ∧ Blk wx D (row5 b) 2 ∧ Seen W wx) : Value → World → Prop)
  case first =>
    have rk : ∀ w', Seen W w' → w'.cell? ⟨w.heap.size, 0, none⟩ = some (.int .i64 b.base) ∧ w'.cell? ⟨w.heap.size, 1, none⟩ = some (.bool b.lf.au) ∧ w'.cell? ⟨w.heap.size, 2, none⟩ = some (.int .i64 b.lf.n) ∧ w'.cell? ⟨w.heap.size, 3, none⟩ = some (.bool b.wd.au) ∧ w'.cell? ⟨w.heap.size, 4, none⟩ = some (.int .i64 b.wd.n) ∧ w'.cell? ⟨w.heap.size, 5, none⟩ = some (.bool b.rt.au) ∧ w'.cell? ⟨w.heap.size, 6, none⟩ = some (.int .i64 b.rt.n) ∧ w'.cell? ⟨w.heap.size, 7, none⟩ = some (.int .i64 b.ar) := fun w' h => ⟨(rb w' h).1, (rb w' h).2.1, (rb w' h).2.2.1, (rb w' h).2.2.2.1, (rb w' h).2.2.2.2.1, (rb w' h).2.2.2.2.2.1, (rb w' h).2.2.2.2.2.2.1, (rb w' h).2.2.2.2.2.2.2.1⟩
    have acc := sr.drew
    obtain ⟨L, hL⟩ : ∃ x, orV b.lf 0 = x := ⟨_, rfl⟩
    obtain ⟨X, hX⟩ : ∃ x, orV b.wd 0 = x := ⟨_, rfl⟩
    obtain ⟨R, hR⟩ : ∃ x, orV b.rt 0 = x := ⟨_, rfl⟩
    rw [hL] at o1
    rw [hX] at o2
    rw [hR] at o3
    have HL := Lib.hid hL
    have HX := Lib.hid hX
    have HR := Lib.hid hR
    clear rb sr hL hX hR
    go_region_held3 (fun w' => w'.cell? ⟨w.heap.size, 0, none⟩ = some (.int .i64 b.base) ∧ w'.cell? ⟨w.heap.size, 1, none⟩ = some (.bool b.lf.au) ∧ w'.cell? ⟨w.heap.size, 2, none⟩ = some (.int .i64 b.lf.n) ∧ w'.cell? ⟨w.heap.size, 3, none⟩ = some (.bool b.wd.au) ∧ w'.cell? ⟨w.heap.size, 4, none⟩ = some (.int .i64 b.wd.n) ∧ w'.cell? ⟨w.heap.size, 5, none⟩ = some (.bool b.rt.au) ∧ w'.cell? ⟨w.heap.size, 6, none⟩ = some (.int .i64 b.rt.n) ∧ w'.cell? ⟨w.heap.size, 7, none⟩ = some (.int .i64 b.ar))
      (first | exact rk _ acc | exact rk _ (Seen.alloc acc _))
      (first
        | (go_at_call 30; refine (o1 _).mono ?_; clear o1; rintro e w1 ⟨rfl, hb⟩; replace acc := Seen.next acc hb; clear hb)
        | (go_at_call 30; refine (o2 _).mono ?_; clear o2; rintro e w2 ⟨rfl, hb⟩; replace acc := Seen.next acc hb; clear hb)
        | (go_at_call 30; refine (o3 _).mono ?_; clear o3; rintro e w3 ⟨rfl, hb⟩; replace acc := Seen.next acc hb; clear hb))
    go_wp2_with fail
    go_meet
    have er : row5 b = [.int .i64 b.base, .int .i64 b.ar, .int .i64 L, .int .i64 X, .int .i64 R] := by unfold row5; rw [HL.out, HX.out, HR.out]
    rw [er]
    exact ⟨_, rfl, Blk.new w3 _ _, acc.alloc _⟩
  obtain ⟨D, rfl, hD, sD⟩ := hcut
  have f0 := fun w => refFits_eq b.base w
  have f1 := fun w => refFits_eq b.ar w
  have f2 := fun w => refFits_eq (orV b.lf 0) w
  have f3 := fun w => refFits_eq (orV b.wd 0) w
  have f4 := fun w => refFits_eq (orV b.rt 0) w
  have HD := Lib.hid hD
  have KB : Hid (Blk wc w.heap.size (bxl b) 105) := HKB.out.seen sD
  have KO : Hid (Blk wc (w.heap.size + 1) [.int .i64 0, .int .i64 0, .int .i64 0] 101) := HKO.out.seen sD
  have SC : Hid (Seen w wc) := SW.out.trans sD
  clear rb sr o1 o2 o3 HKB HKO SW sD hD hlt
  go_wp2_with fail
  go_loopw [24] (fun i wr => ∃ k : Int, i = .int .i64 k ∧ 0 ≤ k ∧ k ≤ 5 ∧ wr = wc ∧ okToA b k = true) (fun i _ => 5 - (intOf i).toNat)
  case atStart => exact ⟨0, rfl, by omega, by omega, rfl, by simp [okToA]⟩
  case round =>
    obtain ⟨k, rfl, hk0, hk5, hwr, hall⟩ := hrel
    have HA0 := Lib.hid hall
    have rD := HD.out.rules5 _ (Seen.refl _)
    have ro := KO.out.rules3 _ (Seen.refl _)
    rw [hwr]
    clear hall hwr
    rcases (show k = 0 ∨ k = 1 ∨ k = 2 ∨ k = 3 ∨ k = 4 ∨ k = 5 by omega) with rfl | rfl | rfl | rfl | rfl | rfl
    · cases hf : fitsB (b.base) with
      | false =>
        rw [hf] at f0
        have EO : Hid (solB b = false ∧ solO b = zO) := sol_no (Or.inl (by unfold okF; rw [hf]; simp))
        obtain ⟨X, hX⟩ : ∃ x, b.base = x := ⟨_, rfl⟩
        rw [hX] at rD f0
        clear hf HA0 hX
        go_wp2_with (go_at_call 52; refine (f0 _).mono ?_; clear f0; rintro e w5 ⟨rfl, rfl⟩)
        have z := ((KO.out.set 0 (.int .i64 0)).set 1 (.int .i64 0)).set 2 (.int .i64 0)
        have z0 := z.cell 0
        have z1 := z.cell 1
        have z2 := z.cell 2
        refine bodyPost_ret (by simp [results, Tryz.results27, go_sem, z0, z1, z2]; try rfl) rfl ?_
        exact ⟨by rw [EO.out.1, EO.out.2]; rfl, Seen.set3 SC.out (by omega)⟩
      | true =>
        rw [hf] at f0
        have HT : Hid (okToA b (0 + 1) = true) := by have h := HA0.out; unfold Hid okToA at *; simp at h ⊢; simp_all
        obtain ⟨X, hX⟩ : ∃ x, b.base = x := ⟨_, rfl⟩
        rw [hX] at rD f0
        clear hf HA0 hX
        go_wp2_with (go_at_call 52; refine (f0 _).mono ?_; clear f0; rintro e w5 ⟨rfl, rfl⟩)
        go_roundw
        case rel => exact ⟨1, by go_num, by omega, by omega, trivial, HT.out⟩
        case measure => simp [intOf]
    · cases hf : fitsB (b.ar) with
      | false =>
        rw [hf] at f1
        have EO : Hid (solB b = false ∧ solO b = zO) := sol_no (Or.inl (by unfold okF; rw [hf]; simp))
        obtain ⟨X, hX⟩ : ∃ x, b.ar = x := ⟨_, rfl⟩
        rw [hX] at rD f1
        clear hf HA0 hX
        go_wp2_with (go_at_call 52; refine (f1 _).mono ?_; clear f1; rintro e w5 ⟨rfl, rfl⟩)
        have z := ((KO.out.set 0 (.int .i64 0)).set 1 (.int .i64 0)).set 2 (.int .i64 0)
        have z0 := z.cell 0
        have z1 := z.cell 1
        have z2 := z.cell 2
        refine bodyPost_ret (by simp [results, Tryz.results27, go_sem, z0, z1, z2]; try rfl) rfl ?_
        exact ⟨by rw [EO.out.1, EO.out.2]; rfl, Seen.set3 SC.out (by omega)⟩
      | true =>
        rw [hf] at f1
        have HT : Hid (okToA b (1 + 1) = true) := by have h := HA0.out; unfold Hid okToA at *; simp at h ⊢; simp_all
        obtain ⟨X, hX⟩ : ∃ x, b.ar = x := ⟨_, rfl⟩
        rw [hX] at rD f1
        clear hf HA0 hX
        go_wp2_with (go_at_call 52; refine (f1 _).mono ?_; clear f1; rintro e w5 ⟨rfl, rfl⟩)
        go_roundw
        case rel => exact ⟨2, by go_num, by omega, by omega, trivial, HT.out⟩
        case measure => simp [intOf]
    · cases hf : fitsB (orV b.lf 0) with
      | false =>
        rw [hf] at f2
        have EO : Hid (solB b = false ∧ solO b = zO) := sol_no (Or.inl (by unfold okF; rw [hf]; simp))
        obtain ⟨X, hX⟩ : ∃ x, orV b.lf 0 = x := ⟨_, rfl⟩
        rw [hX] at rD f2
        clear hf HA0 hX
        go_wp2_with (go_at_call 52; refine (f2 _).mono ?_; clear f2; rintro e w5 ⟨rfl, rfl⟩)
        have z := ((KO.out.set 0 (.int .i64 0)).set 1 (.int .i64 0)).set 2 (.int .i64 0)
        have z0 := z.cell 0
        have z1 := z.cell 1
        have z2 := z.cell 2
        refine bodyPost_ret (by simp [results, Tryz.results27, go_sem, z0, z1, z2]; try rfl) rfl ?_
        exact ⟨by rw [EO.out.1, EO.out.2]; rfl, Seen.set3 SC.out (by omega)⟩
      | true =>
        rw [hf] at f2
        have HT : Hid (okToA b (2 + 1) = true) := by have h := HA0.out; unfold Hid okToA at *; simp at h ⊢; simp_all
        obtain ⟨X, hX⟩ : ∃ x, orV b.lf 0 = x := ⟨_, rfl⟩
        rw [hX] at rD f2
        clear hf HA0 hX
        go_wp2_with (go_at_call 52; refine (f2 _).mono ?_; clear f2; rintro e w5 ⟨rfl, rfl⟩)
        go_roundw
        case rel => exact ⟨3, by go_num, by omega, by omega, trivial, HT.out⟩
        case measure => simp [intOf]
    · cases hf : fitsB (orV b.wd 0) with
      | false =>
        rw [hf] at f3
        have EO : Hid (solB b = false ∧ solO b = zO) := sol_no (Or.inr hf)
        obtain ⟨X, hX⟩ : ∃ x, orV b.wd 0 = x := ⟨_, rfl⟩
        rw [hX] at rD f3
        clear hf HA0 hX
        go_wp2_with (go_at_call 52; refine (f3 _).mono ?_; clear f3; rintro e w5 ⟨rfl, rfl⟩)
        have z := ((KO.out.set 0 (.int .i64 0)).set 1 (.int .i64 0)).set 2 (.int .i64 0)
        have z0 := z.cell 0
        have z1 := z.cell 1
        have z2 := z.cell 2
        refine bodyPost_ret (by simp [results, Tryz.results27, go_sem, z0, z1, z2]; try rfl) rfl ?_
        exact ⟨by rw [EO.out.1, EO.out.2]; rfl, Seen.set3 SC.out (by omega)⟩
      | true =>
        rw [hf] at f3
        have HT : Hid (okToA b (3 + 1) = true) := by have h := HA0.out; unfold Hid okToA at *; simp at h ⊢; simp_all
        obtain ⟨X, hX⟩ : ∃ x, orV b.wd 0 = x := ⟨_, rfl⟩
        rw [hX] at rD f3
        clear hf HA0 hX
        go_wp2_with (go_at_call 52; refine (f3 _).mono ?_; clear f3; rintro e w5 ⟨rfl, rfl⟩)
        go_roundw
        case rel => exact ⟨4, by go_num, by omega, by omega, trivial, HT.out⟩
        case measure => simp [intOf]
    · cases hf : fitsB (orV b.rt 0) with
      | false =>
        rw [hf] at f4
        have EO : Hid (solB b = false ∧ solO b = zO) := sol_no (Or.inl (by unfold okF; rw [hf]; simp))
        obtain ⟨X, hX⟩ : ∃ x, orV b.rt 0 = x := ⟨_, rfl⟩
        rw [hX] at rD f4
        clear hf HA0 hX
        go_wp2_with (go_at_call 52; refine (f4 _).mono ?_; clear f4; rintro e w5 ⟨rfl, rfl⟩)
        have z := ((KO.out.set 0 (.int .i64 0)).set 1 (.int .i64 0)).set 2 (.int .i64 0)
        have z0 := z.cell 0
        have z1 := z.cell 1
        have z2 := z.cell 2
        refine bodyPost_ret (by simp [results, Tryz.results27, go_sem, z0, z1, z2]; try rfl) rfl ?_
        exact ⟨by rw [EO.out.1, EO.out.2]; rfl, Seen.set3 SC.out (by omega)⟩
      | true =>
        rw [hf] at f4
        have HT : Hid (okToA b (4 + 1) = true) := by have h := HA0.out; unfold Hid okToA at *; simp at h ⊢; simp_all
        obtain ⟨X, hX⟩ : ∃ x, orV b.rt 0 = x := ⟨_, rfl⟩
        rw [hX] at rD f4
        clear hf HA0 hX
        go_wp2_with (go_at_call 52; refine (f4 _).mono ?_; clear f4; rintro e w5 ⟨rfl, rfl⟩)
        go_roundw
        case rel => exact ⟨5, by go_num, by omega, by omega, trivial, HT.out⟩
        case measure => simp [intOf]
    · have hok := (okTo5 HA0.out).1
      clear f0 f1 f2 f3 f4 HD HA0
      have HKB := KB
      have HKO := KO
      have SW := SC
      clear KB KO SC rD ro hk0 hk5
      have rb := HKB.out.rulesB _ (Seen.refl _)
      cases h1 : tryB b b.wd with
      | false =>
        have EO := sol_not hok (show lastS b = b.wd by unfold lastS; rw [hi_no (fun g => by rw [h1] at g; cases g.1), lo_no (fun g => by rw [h1] at g; cases g.1)]) h1
        have C0 := fun w => refFor_as b b.wd w hok
        obtain ⟨a0, ha0⟩ : ∃ x, refAO b b.wd = x := ⟨_, rfl⟩
        rw [ha0, h1] at C0
        obtain ⟨l0, k0, r0⟩ := a0
        clear ha0
        clear h1 hok
        go_upto_region 9 with (go_at_call 54; refine (C0 _).mono ?_; clear C0; rintro e v1 ⟨rfl, hb⟩; have HB := Lib.hid hb; clear hb rb)
        obtain ⟨V, hV⟩ : ∃ V, V = v1.alloc (.cells #[.int .i64 l0, .int .i64 k0, .int .i64 r0] 101) := ⟨_, rfl⟩
        obtain ⟨A, hA⟩ : ∃ A, v1.heap.size = A := ⟨_, rfl⟩
        have kA : Blk V A [.int .i64 l0, .int .i64 k0, .int .i64 r0] 101 := by rw [hV, ← hA]; exact Blk.new v1 _ _
        have kO : Blk V (w.heap.size + 1) [.int .i64 0, .int .i64 0, .int .i64 0] 101 := by rw [hV]; exact (HKO.out.seen HB.out).alloc _
        have kB : Blk V w.heap.size (bxl b) 105 := by rw [hV]; exact (HKB.out.seen HB.out).alloc _
        have sV : Seen w V := by rw [hV]; exact (SW.out.trans HB.out).alloc _
        have n1 : ¬ A = w.heap.size + 1 := by have := HB.out.size; have := HKO.out.lt; omega
        have n2 : ¬ w.heap.size + 1 = A := by omega
        have n3 : w.heap.size ≤ A := by have := HB.out.size; have := HKO.out.lt; omega
        have n4 : ¬ A = w.heap.size := by have := HB.out.size; have := HKO.out.lt; omega
        rw [← hV, hA]
        have HA := Lib.hid kA
        have HO := Lib.hid kO
        have HX := Lib.hid kB
        have HS := Lib.hid sV
        have ra := kA.rules3 _ (Seen.refl _)
        have ro := kO.rules3 _ (Seen.refl _)
        have rb := kB.rulesB _ (Seen.refl _)
        clear hV hA kA kO kB sV HKO HKB SW HB
        go_wp2_with fail
        have z := ((HO.out.set 0 (.int .i64 0)).set 1 (.int .i64 0)).set 2 (.int .i64 0)
        have z0 := z.cell 0
        have z1 := z.cell 1
        have z2 := z.cell 2
        refine bodyPost_ret (by simp [results, Tryz.results27, go_sem, z0, z1, z2]; try rfl) rfl ?_
        exact ⟨by rw [EO.out.1, EO.out.2]; rfl, Seen.set3 HS.out (by omega)⟩
      | true =>
        have t1 := (try_is b.wd hok).2 h1
        by_cases h2 : b.hi < (refAO b b.wd).w
        · have q1 : nextHi b b.wd = ⟨false, b.hi⟩ := hi_yes h1 (by rw [t1]; exact h2)
          cases h3 : tryB b ⟨false, b.hi⟩ with
          | false =>
            have EO := sol_not hok (show lastS b = ⟨false, b.hi⟩ by unfold lastS; rw [q1, lo_no (fun g => by rw [h3] at g; cases g.1)]) h3
            clear t1 q1
            have C0 := fun w => refFor_as b b.wd w hok
            have C1 := fun w => refFor_as b ⟨false, b.hi⟩ w hok
            obtain ⟨a0, ha0⟩ : ∃ x, refAO b b.wd = x := ⟨_, rfl⟩
            obtain ⟨a1, ha1⟩ : ∃ x, refAO b ⟨false, b.hi⟩ = x := ⟨_, rfl⟩
            rw [ha0, h1] at C0
            rw [ha1, h3] at C1
            rw [ha0] at h2
            obtain ⟨l0, k0, r0⟩ := a0
            obtain ⟨l1, k1, r1⟩ := a1
            simp only at h2
            clear ha0 ha1
            clear h1 h3 hok
            go_upto_region 9 with (go_at_call 54; refine (C0 _).mono ?_; clear C0; rintro e v1 ⟨rfl, hb⟩; have HB := Lib.hid hb; clear hb rb)
            obtain ⟨V, hV⟩ : ∃ V, V = v1.alloc (.cells #[.int .i64 l0, .int .i64 k0, .int .i64 r0] 101) := ⟨_, rfl⟩
            obtain ⟨A, hA⟩ : ∃ A, v1.heap.size = A := ⟨_, rfl⟩
            have kA : Blk V A [.int .i64 l0, .int .i64 k0, .int .i64 r0] 101 := by rw [hV, ← hA]; exact Blk.new v1 _ _
            have kO : Blk V (w.heap.size + 1) [.int .i64 0, .int .i64 0, .int .i64 0] 101 := by rw [hV]; exact (HKO.out.seen HB.out).alloc _
            have kB : Blk V w.heap.size (bxl b) 105 := by rw [hV]; exact (HKB.out.seen HB.out).alloc _
            have sV : Seen w V := by rw [hV]; exact (SW.out.trans HB.out).alloc _
            have n1 : ¬ A = w.heap.size + 1 := by have := HB.out.size; have := HKO.out.lt; omega
            have n2 : ¬ w.heap.size + 1 = A := by omega
            have n3 : w.heap.size ≤ A := by have := HB.out.size; have := HKO.out.lt; omega
            have n4 : ¬ A = w.heap.size := by have := HB.out.size; have := HKO.out.lt; omega
            rw [← hV, hA]
            have HA := Lib.hid kA
            have HO := Lib.hid kO
            have HX := Lib.hid kB
            have HS := Lib.hid sV
            have ra := kA.rules3 _ (Seen.refl _)
            have ro := kO.rules3 _ (Seen.refl _)
            have rb := kB.rulesB _ (Seen.refl _)
            clear hV hA kA kO kB sV HKO HKB SW HB
            go_upto_region 11 with (go_at_call 54; refine (C1 _).mono ?_; clear C1; rintro e v2 ⟨rfl, hb⟩; have HB := Lib.hid hb; clear hb; have ra := (HA.out.seen HB.out).rules3 _ (Seen.refl _))
            obtain ⟨V1, hV⟩ : ∃ V, V = (((v2.setCell ⟨A, 0, none⟩ (.int .i64 l1)).setCell ⟨A, 1, none⟩ (.int .i64 k1)).setCell ⟨A, 2, none⟩ (.int .i64 r1)) := ⟨_, rfl⟩
            have kA : Blk V1 A [.int .i64 l1, .int .i64 k1, .int .i64 r1] 101 := by rw [hV]; exact (((HA.out.seen HB.out).set 0 _).set 1 _).set 2 _
            have kO : Blk V1 (w.heap.size + 1) [.int .i64 0, .int .i64 0, .int .i64 0] 101 := by rw [hV]; exact (((HO.out.seen HB.out).other (p := ⟨A, 0, none⟩) n1 _).other (p := ⟨A, 1, none⟩) n1 _).other (p := ⟨A, 2, none⟩) n1 _
            have kB : Blk V1 w.heap.size (bxl b) 105 := by rw [hV]; exact (((HX.out.seen HB.out).other (p := ⟨A, 0, none⟩) n4 _).other (p := ⟨A, 1, none⟩) n4 _).other (p := ⟨A, 2, none⟩) n4 _
            have sV : Seen w V1 := by rw [hV]; exact Seen.set3 (HS.out.trans HB.out) n3
            rw [← hV]
            clear HA HO HS HX ra ro rb
            have HA := Lib.hid kA
            have HO := Lib.hid kO
            have HX := Lib.hid kB
            have HS := Lib.hid sV
            have ra := kA.rules3 _ (Seen.refl _)
            have ro := kO.rules3 _ (Seen.refl _)
            have rb := kB.rulesB _ (Seen.refl _)
            clear hV kA kO kB sV HB
            go_wp2_with fail
            have z := ((HO.out.set 0 (.int .i64 0)).set 1 (.int .i64 0)).set 2 (.int .i64 0)
            have z0 := z.cell 0
            have z1 := z.cell 1
            have z2 := z.cell 2
            refine bodyPost_ret (by simp [results, Tryz.results27, go_sem, z0, z1, z2]; try rfl) rfl ?_
            exact ⟨by rw [EO.out.1, EO.out.2]; rfl, Seen.set3 HS.out (by omega)⟩
          | true =>
            have t2 := (try_is ⟨false, b.hi⟩ hok).2 h3
            by_cases h4 : (refAO b ⟨false, b.hi⟩).w < b.lo
            · have q2 : lastS b = ⟨false, b.lo⟩ := by unfold lastS; rw [q1]; exact lo_yes h3 (by rw [t2]; exact h4)
              cases h5 : tryB b ⟨false, b.lo⟩ with
              | false =>
                have EO := sol_not hok q2 h5
                clear t1 q1 t2 q2
                have C0 := fun w => refFor_as b b.wd w hok
                have C1 := fun w => refFor_as b ⟨false, b.hi⟩ w hok
                have C2 := fun w => refFor_as b ⟨false, b.lo⟩ w hok
                obtain ⟨a0, ha0⟩ : ∃ x, refAO b b.wd = x := ⟨_, rfl⟩
                obtain ⟨a1, ha1⟩ : ∃ x, refAO b ⟨false, b.hi⟩ = x := ⟨_, rfl⟩
                obtain ⟨a2, ha2⟩ : ∃ x, refAO b ⟨false, b.lo⟩ = x := ⟨_, rfl⟩
                rw [ha0, h1] at C0
                rw [ha1, h3] at C1
                rw [ha2, h5] at C2
                rw [ha0] at h2
                rw [ha1] at h4
                obtain ⟨l0, k0, r0⟩ := a0
                obtain ⟨l1, k1, r1⟩ := a1
                obtain ⟨l2, k2, r2⟩ := a2
                simp only at h2 h4
                clear ha0 ha1 ha2
                clear h1 h3 h5 hok
                go_upto_region 9 with (go_at_call 54; refine (C0 _).mono ?_; clear C0; rintro e v1 ⟨rfl, hb⟩; have HB := Lib.hid hb; clear hb rb)
                obtain ⟨V, hV⟩ : ∃ V, V = v1.alloc (.cells #[.int .i64 l0, .int .i64 k0, .int .i64 r0] 101) := ⟨_, rfl⟩
                obtain ⟨A, hA⟩ : ∃ A, v1.heap.size = A := ⟨_, rfl⟩
                have kA : Blk V A [.int .i64 l0, .int .i64 k0, .int .i64 r0] 101 := by rw [hV, ← hA]; exact Blk.new v1 _ _
                have kO : Blk V (w.heap.size + 1) [.int .i64 0, .int .i64 0, .int .i64 0] 101 := by rw [hV]; exact (HKO.out.seen HB.out).alloc _
                have kB : Blk V w.heap.size (bxl b) 105 := by rw [hV]; exact (HKB.out.seen HB.out).alloc _
                have sV : Seen w V := by rw [hV]; exact (SW.out.trans HB.out).alloc _
                have n1 : ¬ A = w.heap.size + 1 := by have := HB.out.size; have := HKO.out.lt; omega
                have n2 : ¬ w.heap.size + 1 = A := by omega
                have n3 : w.heap.size ≤ A := by have := HB.out.size; have := HKO.out.lt; omega
                have n4 : ¬ A = w.heap.size := by have := HB.out.size; have := HKO.out.lt; omega
                rw [← hV, hA]
                have HA := Lib.hid kA
                have HO := Lib.hid kO
                have HX := Lib.hid kB
                have HS := Lib.hid sV
                have ra := kA.rules3 _ (Seen.refl _)
                have ro := kO.rules3 _ (Seen.refl _)
                have rb := kB.rulesB _ (Seen.refl _)
                clear hV hA kA kO kB sV HKO HKB SW HB
                go_upto_region 11 with (go_at_call 54; refine (C1 _).mono ?_; clear C1; rintro e v2 ⟨rfl, hb⟩; have HB := Lib.hid hb; clear hb; have ra := (HA.out.seen HB.out).rules3 _ (Seen.refl _))
                obtain ⟨V1, hV⟩ : ∃ V, V = (((v2.setCell ⟨A, 0, none⟩ (.int .i64 l1)).setCell ⟨A, 1, none⟩ (.int .i64 k1)).setCell ⟨A, 2, none⟩ (.int .i64 r1)) := ⟨_, rfl⟩
                have kA : Blk V1 A [.int .i64 l1, .int .i64 k1, .int .i64 r1] 101 := by rw [hV]; exact (((HA.out.seen HB.out).set 0 _).set 1 _).set 2 _
                have kO : Blk V1 (w.heap.size + 1) [.int .i64 0, .int .i64 0, .int .i64 0] 101 := by rw [hV]; exact (((HO.out.seen HB.out).other (p := ⟨A, 0, none⟩) n1 _).other (p := ⟨A, 1, none⟩) n1 _).other (p := ⟨A, 2, none⟩) n1 _
                have kB : Blk V1 w.heap.size (bxl b) 105 := by rw [hV]; exact (((HX.out.seen HB.out).other (p := ⟨A, 0, none⟩) n4 _).other (p := ⟨A, 1, none⟩) n4 _).other (p := ⟨A, 2, none⟩) n4 _
                have sV : Seen w V1 := by rw [hV]; exact Seen.set3 (HS.out.trans HB.out) n3
                rw [← hV]
                clear HA HO HS HX ra ro rb
                have HA := Lib.hid kA
                have HO := Lib.hid kO
                have HX := Lib.hid kB
                have HS := Lib.hid sV
                have ra := kA.rules3 _ (Seen.refl _)
                have ro := kO.rules3 _ (Seen.refl _)
                have rb := kB.rulesB _ (Seen.refl _)
                clear hV kA kO kB sV HB
                go_upto_region 13 with (go_at_call 54; refine (C2 _).mono ?_; clear C2; rintro e v3 ⟨rfl, hb⟩; have HB := Lib.hid hb; clear hb; have ra := (HA.out.seen HB.out).rules3 _ (Seen.refl _))
                obtain ⟨V2, hV⟩ : ∃ V, V = (((v3.setCell ⟨A, 0, none⟩ (.int .i64 l2)).setCell ⟨A, 1, none⟩ (.int .i64 k2)).setCell ⟨A, 2, none⟩ (.int .i64 r2)) := ⟨_, rfl⟩
                have kA : Blk V2 A [.int .i64 l2, .int .i64 k2, .int .i64 r2] 101 := by rw [hV]; exact (((HA.out.seen HB.out).set 0 _).set 1 _).set 2 _
                have kO : Blk V2 (w.heap.size + 1) [.int .i64 0, .int .i64 0, .int .i64 0] 101 := by rw [hV]; exact (((HO.out.seen HB.out).other (p := ⟨A, 0, none⟩) n1 _).other (p := ⟨A, 1, none⟩) n1 _).other (p := ⟨A, 2, none⟩) n1 _
                have kB : Blk V2 w.heap.size (bxl b) 105 := by rw [hV]; exact (((HX.out.seen HB.out).other (p := ⟨A, 0, none⟩) n4 _).other (p := ⟨A, 1, none⟩) n4 _).other (p := ⟨A, 2, none⟩) n4 _
                have sV : Seen w V2 := by rw [hV]; exact Seen.set3 (HS.out.trans HB.out) n3
                rw [← hV]
                clear HA HO HS HX ra ro rb
                have HA := Lib.hid kA
                have HO := Lib.hid kO
                have HX := Lib.hid kB
                have HS := Lib.hid sV
                have ra := kA.rules3 _ (Seen.refl _)
                have ro := kO.rules3 _ (Seen.refl _)
                have rb := kB.rulesB _ (Seen.refl _)
                clear hV kA kO kB sV HB
                go_wp2_with fail
                have z := ((HO.out.set 0 (.int .i64 0)).set 1 (.int .i64 0)).set 2 (.int .i64 0)
                have z0 := z.cell 0
                have z1 := z.cell 1
                have z2 := z.cell 2
                refine bodyPost_ret (by simp [results, Tryz.results27, go_sem, z0, z1, z2]; try rfl) rfl ?_
                exact ⟨by rw [EO.out.1, EO.out.2]; rfl, Seen.set3 HS.out (by omega)⟩
              | true =>
                have EO := sol_yes hok q2 h5
                clear t1 q1 t2 q2
                have C0 := fun w => refFor_as b b.wd w hok
                have C1 := fun w => refFor_as b ⟨false, b.hi⟩ w hok
                have C2 := fun w => refFor_as b ⟨false, b.lo⟩ w hok
                obtain ⟨a0, ha0⟩ : ∃ x, refAO b b.wd = x := ⟨_, rfl⟩
                obtain ⟨a1, ha1⟩ : ∃ x, refAO b ⟨false, b.hi⟩ = x := ⟨_, rfl⟩
                obtain ⟨a2, ha2⟩ : ∃ x, refAO b ⟨false, b.lo⟩ = x := ⟨_, rfl⟩
                rw [ha0, h1] at C0
                rw [ha1, h3] at C1
                rw [ha2, h5] at C2
                rw [ha0] at h2
                rw [ha1] at h4
                rw [ha2] at EO
                obtain ⟨l0, k0, r0⟩ := a0
                obtain ⟨l1, k1, r1⟩ := a1
                obtain ⟨l2, k2, r2⟩ := a2
                simp only at h2 h4
                clear ha0 ha1 ha2
                clear h1 h3 h5 hok
                go_upto_region 9 with (go_at_call 54; refine (C0 _).mono ?_; clear C0; rintro e v1 ⟨rfl, hb⟩; have HB := Lib.hid hb; clear hb rb)
                obtain ⟨V, hV⟩ : ∃ V, V = v1.alloc (.cells #[.int .i64 l0, .int .i64 k0, .int .i64 r0] 101) := ⟨_, rfl⟩
                obtain ⟨A, hA⟩ : ∃ A, v1.heap.size = A := ⟨_, rfl⟩
                have kA : Blk V A [.int .i64 l0, .int .i64 k0, .int .i64 r0] 101 := by rw [hV, ← hA]; exact Blk.new v1 _ _
                have kO : Blk V (w.heap.size + 1) [.int .i64 0, .int .i64 0, .int .i64 0] 101 := by rw [hV]; exact (HKO.out.seen HB.out).alloc _
                have kB : Blk V w.heap.size (bxl b) 105 := by rw [hV]; exact (HKB.out.seen HB.out).alloc _
                have sV : Seen w V := by rw [hV]; exact (SW.out.trans HB.out).alloc _
                have n1 : ¬ A = w.heap.size + 1 := by have := HB.out.size; have := HKO.out.lt; omega
                have n2 : ¬ w.heap.size + 1 = A := by omega
                have n3 : w.heap.size ≤ A := by have := HB.out.size; have := HKO.out.lt; omega
                have n4 : ¬ A = w.heap.size := by have := HB.out.size; have := HKO.out.lt; omega
                rw [← hV, hA]
                have HA := Lib.hid kA
                have HO := Lib.hid kO
                have HX := Lib.hid kB
                have HS := Lib.hid sV
                have ra := kA.rules3 _ (Seen.refl _)
                have ro := kO.rules3 _ (Seen.refl _)
                have rb := kB.rulesB _ (Seen.refl _)
                clear hV hA kA kO kB sV HKO HKB SW HB
                go_upto_region 11 with (go_at_call 54; refine (C1 _).mono ?_; clear C1; rintro e v2 ⟨rfl, hb⟩; have HB := Lib.hid hb; clear hb; have ra := (HA.out.seen HB.out).rules3 _ (Seen.refl _))
                obtain ⟨V1, hV⟩ : ∃ V, V = (((v2.setCell ⟨A, 0, none⟩ (.int .i64 l1)).setCell ⟨A, 1, none⟩ (.int .i64 k1)).setCell ⟨A, 2, none⟩ (.int .i64 r1)) := ⟨_, rfl⟩
                have kA : Blk V1 A [.int .i64 l1, .int .i64 k1, .int .i64 r1] 101 := by rw [hV]; exact (((HA.out.seen HB.out).set 0 _).set 1 _).set 2 _
                have kO : Blk V1 (w.heap.size + 1) [.int .i64 0, .int .i64 0, .int .i64 0] 101 := by rw [hV]; exact (((HO.out.seen HB.out).other (p := ⟨A, 0, none⟩) n1 _).other (p := ⟨A, 1, none⟩) n1 _).other (p := ⟨A, 2, none⟩) n1 _
                have kB : Blk V1 w.heap.size (bxl b) 105 := by rw [hV]; exact (((HX.out.seen HB.out).other (p := ⟨A, 0, none⟩) n4 _).other (p := ⟨A, 1, none⟩) n4 _).other (p := ⟨A, 2, none⟩) n4 _
                have sV : Seen w V1 := by rw [hV]; exact Seen.set3 (HS.out.trans HB.out) n3
                rw [← hV]
                clear HA HO HS HX ra ro rb
                have HA := Lib.hid kA
                have HO := Lib.hid kO
                have HX := Lib.hid kB
                have HS := Lib.hid sV
                have ra := kA.rules3 _ (Seen.refl _)
                have ro := kO.rules3 _ (Seen.refl _)
                have rb := kB.rulesB _ (Seen.refl _)
                clear hV kA kO kB sV HB
                go_upto_region 13 with (go_at_call 54; refine (C2 _).mono ?_; clear C2; rintro e v3 ⟨rfl, hb⟩; have HB := Lib.hid hb; clear hb; have ra := (HA.out.seen HB.out).rules3 _ (Seen.refl _))
                obtain ⟨V2, hV⟩ : ∃ V, V = (((v3.setCell ⟨A, 0, none⟩ (.int .i64 l2)).setCell ⟨A, 1, none⟩ (.int .i64 k2)).setCell ⟨A, 2, none⟩ (.int .i64 r2)) := ⟨_, rfl⟩
                have kA : Blk V2 A [.int .i64 l2, .int .i64 k2, .int .i64 r2] 101 := by rw [hV]; exact (((HA.out.seen HB.out).set 0 _).set 1 _).set 2 _
                have kO : Blk V2 (w.heap.size + 1) [.int .i64 0, .int .i64 0, .int .i64 0] 101 := by rw [hV]; exact (((HO.out.seen HB.out).other (p := ⟨A, 0, none⟩) n1 _).other (p := ⟨A, 1, none⟩) n1 _).other (p := ⟨A, 2, none⟩) n1 _
                have kB : Blk V2 w.heap.size (bxl b) 105 := by rw [hV]; exact (((HX.out.seen HB.out).other (p := ⟨A, 0, none⟩) n4 _).other (p := ⟨A, 1, none⟩) n4 _).other (p := ⟨A, 2, none⟩) n4 _
                have sV : Seen w V2 := by rw [hV]; exact Seen.set3 (HS.out.trans HB.out) n3
                rw [← hV]
                clear HA HO HS HX ra ro rb
                have HA := Lib.hid kA
                have HO := Lib.hid kO
                have HX := Lib.hid kB
                have HS := Lib.hid sV
                have ra := kA.rules3 _ (Seen.refl _)
                have ro := kO.rules3 _ (Seen.refl _)
                have rb := kB.rulesB _ (Seen.refl _)
                clear hV kA kO kB sV HB
                go_wp2_with fail
                have z := ((HO.out.set 0 (.int .i64 l2)).set 1 (.int .i64 k2)).set 2 (.int .i64 r2)
                have z0 := z.cell 0
                have z1 := z.cell 1
                have z2 := z.cell 2
                refine bodyPost_ret (by simp [results, Tryz.results27, go_sem, z0, z1, z2]; try rfl) rfl ?_
                exact ⟨by rw [EO.out.1, EO.out.2], Seen.set3 HS.out (by omega)⟩
            · have EO := sol_yes hok (show lastS b = ⟨false, b.hi⟩ by unfold lastS; rw [q1]; exact lo_no (fun g => h4 (by rw [← t2]; exact g.2))) h3
              clear t1 q1 t2
              have C0 := fun w => refFor_as b b.wd w hok
              have C1 := fun w => refFor_as b ⟨false, b.hi⟩ w hok
              obtain ⟨a0, ha0⟩ : ∃ x, refAO b b.wd = x := ⟨_, rfl⟩
              obtain ⟨a1, ha1⟩ : ∃ x, refAO b ⟨false, b.hi⟩ = x := ⟨_, rfl⟩
              rw [ha0, h1] at C0
              rw [ha1, h3] at C1
              rw [ha0] at h2
              rw [ha1] at h4
              rw [ha1] at EO
              obtain ⟨l0, k0, r0⟩ := a0
              obtain ⟨l1, k1, r1⟩ := a1
              simp only at h2 h4
              clear ha0 ha1
              clear h1 h3 hok
              go_upto_region 9 with (go_at_call 54; refine (C0 _).mono ?_; clear C0; rintro e v1 ⟨rfl, hb⟩; have HB := Lib.hid hb; clear hb rb)
              obtain ⟨V, hV⟩ : ∃ V, V = v1.alloc (.cells #[.int .i64 l0, .int .i64 k0, .int .i64 r0] 101) := ⟨_, rfl⟩
              obtain ⟨A, hA⟩ : ∃ A, v1.heap.size = A := ⟨_, rfl⟩
              have kA : Blk V A [.int .i64 l0, .int .i64 k0, .int .i64 r0] 101 := by rw [hV, ← hA]; exact Blk.new v1 _ _
              have kO : Blk V (w.heap.size + 1) [.int .i64 0, .int .i64 0, .int .i64 0] 101 := by rw [hV]; exact (HKO.out.seen HB.out).alloc _
              have kB : Blk V w.heap.size (bxl b) 105 := by rw [hV]; exact (HKB.out.seen HB.out).alloc _
              have sV : Seen w V := by rw [hV]; exact (SW.out.trans HB.out).alloc _
              have n1 : ¬ A = w.heap.size + 1 := by have := HB.out.size; have := HKO.out.lt; omega
              have n2 : ¬ w.heap.size + 1 = A := by omega
              have n3 : w.heap.size ≤ A := by have := HB.out.size; have := HKO.out.lt; omega
              have n4 : ¬ A = w.heap.size := by have := HB.out.size; have := HKO.out.lt; omega
              rw [← hV, hA]
              have HA := Lib.hid kA
              have HO := Lib.hid kO
              have HX := Lib.hid kB
              have HS := Lib.hid sV
              have ra := kA.rules3 _ (Seen.refl _)
              have ro := kO.rules3 _ (Seen.refl _)
              have rb := kB.rulesB _ (Seen.refl _)
              clear hV hA kA kO kB sV HKO HKB SW HB
              go_upto_region 11 with (go_at_call 54; refine (C1 _).mono ?_; clear C1; rintro e v2 ⟨rfl, hb⟩; have HB := Lib.hid hb; clear hb; have ra := (HA.out.seen HB.out).rules3 _ (Seen.refl _))
              obtain ⟨V1, hV⟩ : ∃ V, V = (((v2.setCell ⟨A, 0, none⟩ (.int .i64 l1)).setCell ⟨A, 1, none⟩ (.int .i64 k1)).setCell ⟨A, 2, none⟩ (.int .i64 r1)) := ⟨_, rfl⟩
              have kA : Blk V1 A [.int .i64 l1, .int .i64 k1, .int .i64 r1] 101 := by rw [hV]; exact (((HA.out.seen HB.out).set 0 _).set 1 _).set 2 _
              have kO : Blk V1 (w.heap.size + 1) [.int .i64 0, .int .i64 0, .int .i64 0] 101 := by rw [hV]; exact (((HO.out.seen HB.out).other (p := ⟨A, 0, none⟩) n1 _).other (p := ⟨A, 1, none⟩) n1 _).other (p := ⟨A, 2, none⟩) n1 _
              have kB : Blk V1 w.heap.size (bxl b) 105 := by rw [hV]; exact (((HX.out.seen HB.out).other (p := ⟨A, 0, none⟩) n4 _).other (p := ⟨A, 1, none⟩) n4 _).other (p := ⟨A, 2, none⟩) n4 _
              have sV : Seen w V1 := by rw [hV]; exact Seen.set3 (HS.out.trans HB.out) n3
              rw [← hV]
              clear HA HO HS HX ra ro rb
              have HA := Lib.hid kA
              have HO := Lib.hid kO
              have HX := Lib.hid kB
              have HS := Lib.hid sV
              have ra := kA.rules3 _ (Seen.refl _)
              have ro := kO.rules3 _ (Seen.refl _)
              have rb := kB.rulesB _ (Seen.refl _)
              clear hV kA kO kB sV HB
              go_wp2_with fail
              have z := ((HO.out.set 0 (.int .i64 l1)).set 1 (.int .i64 k1)).set 2 (.int .i64 r1)
              have z0 := z.cell 0
              have z1 := z.cell 1
              have z2 := z.cell 2
              refine bodyPost_ret (by simp [results, Tryz.results27, go_sem, z0, z1, z2]; try rfl) rfl ?_
              exact ⟨by rw [EO.out.1, EO.out.2], Seen.set3 HS.out (by omega)⟩
        · have q1 : nextHi b b.wd = b.wd := hi_no (fun g => h2 (by rw [← t1]; exact g.2))
          by_cases h3 : (refAO b b.wd).w < b.lo
          · have q2 : lastS b = ⟨false, b.lo⟩ := by unfold lastS; rw [q1]; exact lo_yes h1 (by rw [t1]; exact h3)
            cases h5 : tryB b ⟨false, b.lo⟩ with
            | false =>
              have EO := sol_not hok q2 h5
              clear t1 q1 q2
              have C0 := fun w => refFor_as b b.wd w hok
              have C1 := fun w => refFor_as b ⟨false, b.lo⟩ w hok
              obtain ⟨a0, ha0⟩ : ∃ x, refAO b b.wd = x := ⟨_, rfl⟩
              obtain ⟨a1, ha1⟩ : ∃ x, refAO b ⟨false, b.lo⟩ = x := ⟨_, rfl⟩
              rw [ha0, h1] at C0
              rw [ha1, h5] at C1
              rw [ha0] at h2
              rw [ha0] at h3
              obtain ⟨l0, k0, r0⟩ := a0
              obtain ⟨l1, k1, r1⟩ := a1
              simp only at h2 h3
              clear ha0 ha1
              clear h1 h5 hok
              go_upto_region 9 with (go_at_call 54; refine (C0 _).mono ?_; clear C0; rintro e v1 ⟨rfl, hb⟩; have HB := Lib.hid hb; clear hb rb)
              obtain ⟨V, hV⟩ : ∃ V, V = v1.alloc (.cells #[.int .i64 l0, .int .i64 k0, .int .i64 r0] 101) := ⟨_, rfl⟩
              obtain ⟨A, hA⟩ : ∃ A, v1.heap.size = A := ⟨_, rfl⟩
              have kA : Blk V A [.int .i64 l0, .int .i64 k0, .int .i64 r0] 101 := by rw [hV, ← hA]; exact Blk.new v1 _ _
              have kO : Blk V (w.heap.size + 1) [.int .i64 0, .int .i64 0, .int .i64 0] 101 := by rw [hV]; exact (HKO.out.seen HB.out).alloc _
              have kB : Blk V w.heap.size (bxl b) 105 := by rw [hV]; exact (HKB.out.seen HB.out).alloc _
              have sV : Seen w V := by rw [hV]; exact (SW.out.trans HB.out).alloc _
              have n1 : ¬ A = w.heap.size + 1 := by have := HB.out.size; have := HKO.out.lt; omega
              have n2 : ¬ w.heap.size + 1 = A := by omega
              have n3 : w.heap.size ≤ A := by have := HB.out.size; have := HKO.out.lt; omega
              have n4 : ¬ A = w.heap.size := by have := HB.out.size; have := HKO.out.lt; omega
              rw [← hV, hA]
              have HA := Lib.hid kA
              have HO := Lib.hid kO
              have HX := Lib.hid kB
              have HS := Lib.hid sV
              have ra := kA.rules3 _ (Seen.refl _)
              have ro := kO.rules3 _ (Seen.refl _)
              have rb := kB.rulesB _ (Seen.refl _)
              clear hV hA kA kO kB sV HKO HKB SW HB
              go_upto_region 13 with (go_at_call 54; refine (C1 _).mono ?_; clear C1; rintro e v2 ⟨rfl, hb⟩; have HB := Lib.hid hb; clear hb; have ra := (HA.out.seen HB.out).rules3 _ (Seen.refl _))
              obtain ⟨V1, hV⟩ : ∃ V, V = (((v2.setCell ⟨A, 0, none⟩ (.int .i64 l1)).setCell ⟨A, 1, none⟩ (.int .i64 k1)).setCell ⟨A, 2, none⟩ (.int .i64 r1)) := ⟨_, rfl⟩
              have kA : Blk V1 A [.int .i64 l1, .int .i64 k1, .int .i64 r1] 101 := by rw [hV]; exact (((HA.out.seen HB.out).set 0 _).set 1 _).set 2 _
              have kO : Blk V1 (w.heap.size + 1) [.int .i64 0, .int .i64 0, .int .i64 0] 101 := by rw [hV]; exact (((HO.out.seen HB.out).other (p := ⟨A, 0, none⟩) n1 _).other (p := ⟨A, 1, none⟩) n1 _).other (p := ⟨A, 2, none⟩) n1 _
              have kB : Blk V1 w.heap.size (bxl b) 105 := by rw [hV]; exact (((HX.out.seen HB.out).other (p := ⟨A, 0, none⟩) n4 _).other (p := ⟨A, 1, none⟩) n4 _).other (p := ⟨A, 2, none⟩) n4 _
              have sV : Seen w V1 := by rw [hV]; exact Seen.set3 (HS.out.trans HB.out) n3
              rw [← hV]
              clear HA HO HS HX ra ro rb
              have HA := Lib.hid kA
              have HO := Lib.hid kO
              have HX := Lib.hid kB
              have HS := Lib.hid sV
              have ra := kA.rules3 _ (Seen.refl _)
              have ro := kO.rules3 _ (Seen.refl _)
              have rb := kB.rulesB _ (Seen.refl _)
              clear hV kA kO kB sV HB
              go_wp2_with fail
              have z := ((HO.out.set 0 (.int .i64 0)).set 1 (.int .i64 0)).set 2 (.int .i64 0)
              have z0 := z.cell 0
              have z1 := z.cell 1
              have z2 := z.cell 2
              refine bodyPost_ret (by simp [results, Tryz.results27, go_sem, z0, z1, z2]; try rfl) rfl ?_
              exact ⟨by rw [EO.out.1, EO.out.2]; rfl, Seen.set3 HS.out (by omega)⟩
            | true =>
              have EO := sol_yes hok q2 h5
              clear t1 q1 q2
              have C0 := fun w => refFor_as b b.wd w hok
              have C1 := fun w => refFor_as b ⟨false, b.lo⟩ w hok
              obtain ⟨a0, ha0⟩ : ∃ x, refAO b b.wd = x := ⟨_, rfl⟩
              obtain ⟨a1, ha1⟩ : ∃ x, refAO b ⟨false, b.lo⟩ = x := ⟨_, rfl⟩
              rw [ha0, h1] at C0
              rw [ha1, h5] at C1
              rw [ha0] at h2
              rw [ha0] at h3
              rw [ha1] at EO
              obtain ⟨l0, k0, r0⟩ := a0
              obtain ⟨l1, k1, r1⟩ := a1
              simp only at h2 h3
              clear ha0 ha1
              clear h1 h5 hok
              go_upto_region 9 with (go_at_call 54; refine (C0 _).mono ?_; clear C0; rintro e v1 ⟨rfl, hb⟩; have HB := Lib.hid hb; clear hb rb)
              obtain ⟨V, hV⟩ : ∃ V, V = v1.alloc (.cells #[.int .i64 l0, .int .i64 k0, .int .i64 r0] 101) := ⟨_, rfl⟩
              obtain ⟨A, hA⟩ : ∃ A, v1.heap.size = A := ⟨_, rfl⟩
              have kA : Blk V A [.int .i64 l0, .int .i64 k0, .int .i64 r0] 101 := by rw [hV, ← hA]; exact Blk.new v1 _ _
              have kO : Blk V (w.heap.size + 1) [.int .i64 0, .int .i64 0, .int .i64 0] 101 := by rw [hV]; exact (HKO.out.seen HB.out).alloc _
              have kB : Blk V w.heap.size (bxl b) 105 := by rw [hV]; exact (HKB.out.seen HB.out).alloc _
              have sV : Seen w V := by rw [hV]; exact (SW.out.trans HB.out).alloc _
              have n1 : ¬ A = w.heap.size + 1 := by have := HB.out.size; have := HKO.out.lt; omega
              have n2 : ¬ w.heap.size + 1 = A := by omega
              have n3 : w.heap.size ≤ A := by have := HB.out.size; have := HKO.out.lt; omega
              have n4 : ¬ A = w.heap.size := by have := HB.out.size; have := HKO.out.lt; omega
              rw [← hV, hA]
              have HA := Lib.hid kA
              have HO := Lib.hid kO
              have HX := Lib.hid kB
              have HS := Lib.hid sV
              have ra := kA.rules3 _ (Seen.refl _)
              have ro := kO.rules3 _ (Seen.refl _)
              have rb := kB.rulesB _ (Seen.refl _)
              clear hV hA kA kO kB sV HKO HKB SW HB
              go_upto_region 13 with (go_at_call 54; refine (C1 _).mono ?_; clear C1; rintro e v2 ⟨rfl, hb⟩; have HB := Lib.hid hb; clear hb; have ra := (HA.out.seen HB.out).rules3 _ (Seen.refl _))
              obtain ⟨V1, hV⟩ : ∃ V, V = (((v2.setCell ⟨A, 0, none⟩ (.int .i64 l1)).setCell ⟨A, 1, none⟩ (.int .i64 k1)).setCell ⟨A, 2, none⟩ (.int .i64 r1)) := ⟨_, rfl⟩
              have kA : Blk V1 A [.int .i64 l1, .int .i64 k1, .int .i64 r1] 101 := by rw [hV]; exact (((HA.out.seen HB.out).set 0 _).set 1 _).set 2 _
              have kO : Blk V1 (w.heap.size + 1) [.int .i64 0, .int .i64 0, .int .i64 0] 101 := by rw [hV]; exact (((HO.out.seen HB.out).other (p := ⟨A, 0, none⟩) n1 _).other (p := ⟨A, 1, none⟩) n1 _).other (p := ⟨A, 2, none⟩) n1 _
              have kB : Blk V1 w.heap.size (bxl b) 105 := by rw [hV]; exact (((HX.out.seen HB.out).other (p := ⟨A, 0, none⟩) n4 _).other (p := ⟨A, 1, none⟩) n4 _).other (p := ⟨A, 2, none⟩) n4 _
              have sV : Seen w V1 := by rw [hV]; exact Seen.set3 (HS.out.trans HB.out) n3
              rw [← hV]
              clear HA HO HS HX ra ro rb
              have HA := Lib.hid kA
              have HO := Lib.hid kO
              have HX := Lib.hid kB
              have HS := Lib.hid sV
              have ra := kA.rules3 _ (Seen.refl _)
              have ro := kO.rules3 _ (Seen.refl _)
              have rb := kB.rulesB _ (Seen.refl _)
              clear hV kA kO kB sV HB
              go_wp2_with fail
              have z := ((HO.out.set 0 (.int .i64 l1)).set 1 (.int .i64 k1)).set 2 (.int .i64 r1)
              have z0 := z.cell 0
              have z1 := z.cell 1
              have z2 := z.cell 2
              refine bodyPost_ret (by simp [results, Tryz.results27, go_sem, z0, z1, z2]; try rfl) rfl ?_
              exact ⟨by rw [EO.out.1, EO.out.2], Seen.set3 HS.out (by omega)⟩
          · have EO := sol_yes hok (show lastS b = b.wd by unfold lastS; rw [q1]; exact lo_no (fun g => h3 (by rw [← t1]; exact g.2))) h1
            clear t1 q1
            have C0 := fun w => refFor_as b b.wd w hok
            obtain ⟨a0, ha0⟩ : ∃ x, refAO b b.wd = x := ⟨_, rfl⟩
            rw [ha0, h1] at C0
            rw [ha0] at h2
            rw [ha0] at h3
            rw [ha0] at EO
            obtain ⟨l0, k0, r0⟩ := a0
            simp only at h2 h3
            clear ha0
            clear h1 hok
            go_upto_region 9 with (go_at_call 54; refine (C0 _).mono ?_; clear C0; rintro e v1 ⟨rfl, hb⟩; have HB := Lib.hid hb; clear hb rb)
            obtain ⟨V, hV⟩ : ∃ V, V = v1.alloc (.cells #[.int .i64 l0, .int .i64 k0, .int .i64 r0] 101) := ⟨_, rfl⟩
            obtain ⟨A, hA⟩ : ∃ A, v1.heap.size = A := ⟨_, rfl⟩
            have kA : Blk V A [.int .i64 l0, .int .i64 k0, .int .i64 r0] 101 := by rw [hV, ← hA]; exact Blk.new v1 _ _
            have kO : Blk V (w.heap.size + 1) [.int .i64 0, .int .i64 0, .int .i64 0] 101 := by rw [hV]; exact (HKO.out.seen HB.out).alloc _
            have kB : Blk V w.heap.size (bxl b) 105 := by rw [hV]; exact (HKB.out.seen HB.out).alloc _
            have sV : Seen w V := by rw [hV]; exact (SW.out.trans HB.out).alloc _
            have n1 : ¬ A = w.heap.size + 1 := by have := HB.out.size; have := HKO.out.lt; omega
            have n2 : ¬ w.heap.size + 1 = A := by omega
            have n3 : w.heap.size ≤ A := by have := HB.out.size; have := HKO.out.lt; omega
            have n4 : ¬ A = w.heap.size := by have := HB.out.size; have := HKO.out.lt; omega
            rw [← hV, hA]
            have HA := Lib.hid kA
            have HO := Lib.hid kO
            have HX := Lib.hid kB
            have HS := Lib.hid sV
            have ra := kA.rules3 _ (Seen.refl _)
            have ro := kO.rules3 _ (Seen.refl _)
            have rb := kB.rulesB _ (Seen.refl _)
            clear hV hA kA kO kB sV HKO HKB SW HB
            go_wp2_with fail
            have z := ((HO.out.set 0 (.int .i64 l0)).set 1 (.int .i64 k0)).set 2 (.int .i64 r0)
            have z0 := z.cell 0
            have z1 := z.cell 1
            have z2 := z.cell 2
            refine bodyPost_ret (by simp [results, Tryz.results27, go_sem, z0, z1, z2]; try rfl) rfl ?_
            exact ⟨by rw [EO.out.1, EO.out.2], Seen.set3 HS.out (by omega)⟩
end Go.Proofs.YtngeaigkafamiaaGreat

