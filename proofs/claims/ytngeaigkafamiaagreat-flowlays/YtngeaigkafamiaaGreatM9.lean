/- Texts of the proof, merged: Fill. -/
import Derived.Test.YtngeaigkafamiaaGreatM5
import Derived.Deep.DeepCutAuto
namespace Go.Proofs.YtngeaigkafamiaaGreat
open Go.ChangeShapes Go.WideShapes Go.ChangeAt Go.RowKit
set_option maxRecDepth 100000
set_option linter.unusedVariables false
theorem Seen.set3 {W w' : World} {A : Nat} {x y z : Value} (h : Seen W w') (hA : W.heap.size ≤ A) : Seen W (((w'.setCell ⟨A, 0, none⟩ x).setCell ⟨A, 1, none⟩ y).setCell ⟨A, 2, none⟩ z) := ((Below.setCell h hA _).setCell hA _).setCell hA _
set_option maxHeartbeats 2000000 in
theorem fill_any (b : Bx) (s : Sz) (w : World) :
    Calls Tryz.prog 112 #[bxv b, szv s] w fun e w' => e = .returned (o3v (fillW b s)) ∧ Seen w w' := by
  have o1 := fun w => or_any b.lf 0 w
  have o2 := fun w => or_any s 0 w
  have o3 := fun w => or_any b.rt 0 w
  obtain ⟨L, hL⟩ : ∃ x, orV b.lf 0 = x := ⟨_, rfl⟩
  obtain ⟨X, hX⟩ : ∃ x, orV s 0 = x := ⟨_, rfl⟩
  obtain ⟨R, hR⟩ : ∃ x, orV b.rt 0 = x := ⟨_, rfl⟩
  obtain ⟨r1, h1⟩ : ∃ x, wrap64 (b.base - b.ar) = x := ⟨_, rfl⟩
  obtain ⟨r2, h2⟩ : ∃ x, wrap64 (r1 - L) = x := ⟨_, rfl⟩
  obtain ⟨r3, h3⟩ : ∃ x, wrap64 (r2 - X) = x := ⟨_, rfl⟩
  obtain ⟨t, h4⟩ : ∃ x, wrap64 (r3 - R) = x := ⟨_, rfl⟩
  have hf : fillW b s = if s.au then ⟨L, t, R⟩ else if tkL b t then (if tkR b t then ⟨halfI t, X, wrap64 (t - halfI t)⟩ else ⟨wrap64 (L + t), X, R⟩) else ⟨L, X, wrap64 (R + t)⟩ := by
    unfold fillW restW fillR
    rw [hL, hX, hR, h1, h2, h3, h4]
  have tk := fun w => takers_any b t w
  obtain ⟨p, hp⟩ : ∃ x, tkL b t = x := ⟨_, rfl⟩
  obtain ⟨q, hq⟩ : ∃ x, tkR b t = x := ⟨_, rfl⟩
  obtain ⟨H, hH⟩ : ∃ x, halfI t = x := ⟨_, rfl⟩
  have hf' := fun w => half_eq t w
  rw [hp, hq] at tk hf
  rw [hH] at hf hf'
  rw [hL] at o1
  rw [hX] at o2
  rw [hR] at o3
  obtain ⟨o, ho⟩ : ∃ x, fillW b s = x := ⟨_, rfl⟩
  rw [ho] at hf ⊢
  have HF := Lib.hid hf
  clear hf ho hL hX hR hp hq hH
  obtain ⟨W, hW⟩ : ∃ W, W = ((w.alloc (.cells (bxl b).toArray 185)).alloc (.cells #[.bool s.au, .int .i64 s.n] 24)).alloc (.cells #[.int .i64 0, .int .i64 0, .int .i64 0] 159) := ⟨_, rfl⟩
  have kb : Blk W w.heap.size (bxl b) 185 := by rw [hW]; exact ((Blk.new w _ _).alloc _).alloc _
  have ks : Blk W (w.heap.size + 1) [.bool s.au, .int .i64 s.n] 24 := by rw [hW]; simpa using (Blk.new (w.alloc (.cells (bxl b).toArray 185)) [.bool s.au, .int .i64 s.n] 24).alloc _
  have ko : Blk W (w.heap.size + 1 + 1) [.int .i64 0, .int .i64 0, .int .i64 0] 159 := by rw [hW]; simpa using Blk.new ((w.alloc (.cells (bxl b).toArray 185)).alloc (.cells #[.bool s.au, .int .i64 s.n] 24)) [.int .i64 0, .int .i64 0, .int .i64 0] 159
  have SW : Seen w W := by rw [hW]; unfold Seen; go_grown
  have HKB := Lib.hid kb
  have HKS := Lib.hid ks
  have HKO := Lib.hid ko
  have HSW := Lib.hid SW
  have rb := kb.rulesB
  have rs := ks.rules2
  have sr := Seen.refl W
  clear kb ks ko SW
  go_enter Tryz.func112, Tryz.ntmps112
  go_upto_region 1 with fail
  rw [← hW]
  clear hW
  go_cut [5] (fun v wx => (∃ A, v = .pointer (some ⟨A, 0, none⟩) ∧ W.heap.size ≤ A ∧ Blk wx A [.int .i64 L, .int .i64 X, .int .i64 R] 159 ∧ Seen W wx) : Value → World → Prop)
  case first =>
    have rk : ∀ w', Seen W w' → w'.cell? ⟨w.heap.size, 1, none⟩ = some (.bool b.lf.au) ∧ w'.cell? ⟨w.heap.size, 2, none⟩ = some (.int .i64 b.lf.n) ∧ w'.cell? ⟨w.heap.size, 5, none⟩ = some (.bool b.rt.au) ∧ w'.cell? ⟨w.heap.size, 6, none⟩ = some (.int .i64 b.rt.n) ∧ w'.cell? ⟨w.heap.size + 1, 0, none⟩ = some (.bool s.au) ∧ w'.cell? ⟨w.heap.size + 1, 1, none⟩ = some (.int .i64 s.n) := fun w' h => ⟨(rb w' h).2.1, (rb w' h).2.2.1, (rb w' h).2.2.2.2.2.1, (rb w' h).2.2.2.2.2.2.1, (rs w' h).1, (rs w' h).2.1⟩
    have acc := sr.drew
    have SR := Lib.hid sr
    have fn : ∀ (w : World) (x y z : Value), (w.alloc (.cells #[x, y, z] 159)).cell? ⟨w.heap.size, 0, none⟩ = some x ∧ (w.alloc (.cells #[x, y, z] 159)).cell? ⟨w.heap.size, 1, none⟩ = some y ∧ (w.alloc (.cells #[x, y, z] 159)).cell? ⟨w.heap.size, 2, none⟩ = some z ∧ ∀ o, (w.alloc (.cells #[x, y, z] 159)).frozen? ⟨w.heap.size, o, none⟩ = false := fun w x y z => (Blk.new w [x, y, z] 159).rules3 _ (Seen.refl _)
    clear rb rs sr
    go_region_held3 (fun w' => w'.cell? ⟨w.heap.size, 1, none⟩ = some (.bool b.lf.au) ∧ w'.cell? ⟨w.heap.size, 2, none⟩ = some (.int .i64 b.lf.n) ∧ w'.cell? ⟨w.heap.size, 5, none⟩ = some (.bool b.rt.au) ∧ w'.cell? ⟨w.heap.size, 6, none⟩ = some (.int .i64 b.rt.n) ∧ w'.cell? ⟨w.heap.size + 1, 0, none⟩ = some (.bool s.au) ∧ w'.cell? ⟨w.heap.size + 1, 1, none⟩ = some (.int .i64 s.n))
      (first | exact rk _ acc | exact rk _ (Seen.drew (Seen.alloc SR.out _)) | exact rk _ (Seen.alloc acc _) | exact rk _ (Seen.set3 acc hA) | exact rk _ (Seen.set3 (Seen.alloc acc _) acc.size))
      (first | (go_at_call 40; refine (o1 _).mono ?_; clear o1; rintro e w1 ⟨rfl, hb⟩; (first | (replace acc := Seen.next acc hb; try replace kA := Blk.seen kA hb) | (have hA := Nat.le_refl W.heap.size; have kA : Blk w1 W.heap.size [.int .i64 0, .int .i64 0, .int .i64 0] 159 := Blk.seen (Blk.drew (Blk.new W [.int .i64 0, .int .i64 0, .int .i64 0] 159)) hb; replace acc := Seen.next (Seen.drew (Seen.alloc SR.out _)) hb) | (have hA := acc.size; have kA := Blk.seen (Blk.new _ [.int .i64 0, .int .i64 0, .int .i64 0] 159) hb; replace acc := Seen.next (Seen.alloc acc _) hb)); clear hb; (try have kr := Blk.rules3 kA _ (Seen.refl _))) | (go_at_call 40; refine (o2 _).mono ?_; clear o2; rintro e w2 ⟨rfl, hb⟩; (first | (replace acc := Seen.next acc hb; try replace kA := Blk.seen kA hb) | (have hA := acc.size; have kA := Blk.seen (Blk.new _ [.int .i64 0, .int .i64 0, .int .i64 0] 159) hb; replace acc := Seen.next (Seen.alloc acc _) hb)); clear hb; (try have kr := Blk.rules3 kA _ (Seen.refl _))) | (go_at_call 40; refine (o3 _).mono ?_; clear o3; rintro e w3 ⟨rfl, hb⟩; (first | (replace acc := Seen.next acc hb; try replace kA := Blk.seen kA hb) | (have hA := acc.size; have kA := Blk.seen (Blk.new _ [.int .i64 0, .int .i64 0, .int .i64 0] 159) hb; replace acc := Seen.next (Seen.alloc acc _) hb)); clear hb; (try have kr := Blk.rules3 kA _ (Seen.refl _))))
    all_goals
      clear rk fn tk hf'
      go_wp2_with fail
      go_meet
    · exact ⟨_, rfl, acc.size, Blk.new w3 [.int .i64 L, .int .i64 X, .int .i64 R] 159, acc.alloc _⟩
    · exact ⟨_, rfl, hA, ((kA.set 0 _).set 1 _).set 2 _, Seen.set3 acc hA⟩
    · exact ⟨_, rfl, hA, ((kA.set 0 _).set 1 _).set 2 _, Seen.set3 acc hA⟩
    · exact ⟨_, rfl, hA, ((kA.set 0 _).set 1 _).set 2 _, Seen.set3 acc hA⟩
  obtain ⟨A, rfl, hA, kA, sA⟩ := hcut
  clear o1 o2 o3
  have HA := Lib.hid kA
  have HKO' : Hid (Blk wc (w.heap.size + 1 + 1) [.int .i64 0, .int .i64 0, .int .i64 0] 159) := HKO.out.seen sA
  have hWA : w.heap.size + 1 + 1 < A := by have := HKO.out.lt; omega
  have n1 : ¬ A = w.heap.size + 1 + 1 := by omega
  have n2 : ¬ w.heap.size + 1 + 1 = A := by omega
  have n3 : ¬ A = w.heap.size + 1 := by omega
  have n4 : ¬ A = w.heap.size := by omega
  have ro := HKO'.out.rules3
  have HSA : Hid (Seen w wc) := HSW.out.trans sA
  have ra := kA.rules3
  have rb' := fun w' (h : Seen wc w') => rb w' (sA.trans h)
  have rs' := fun w' (h : Seen wc w') => rs w' (sA.trans h)
  have sr := Seen.refl wc
  clear rb rs kA sA HKO HSW
  cases hau : s.au with
  | true =>
    rw [hau] at HF rs'
    clear tk hf' hau
    go_wp2_with fail
    have z := ((Blk.set (Blk.other HKO'.out (p := ⟨A, 1, none⟩) n1 (.int .i64 t)) 0 (.int .i64 L)).set 1 (.int .i64 t)).set 2 (.int .i64 R)
    have z0 := z.cell 0
    have z1 := z.cell 1
    have z2 := z.cell 2
    refine bodyPost_ret (by simp [results, Tryz.results112, go_sem, z0, z1, z2]; try rfl) rfl ?_
    exact ⟨by rw [HF.out]; rfl, Seen.set3 (Below.setCell HSA.out (show w.heap.size ≤ A by omega) _) (by omega)⟩
  | false =>
    rw [hau] at HF rs'
    clear hau
    cases p with
    | true =>
      cases q with
      | true =>
        go_wp2_with (first | (go_at_call 114; refine (tk _).mono ?_; clear tk; rintro e w4 ⟨rfl, hb⟩; have s4 : Seen wc w4 := sr.next hb; clear hb) | (go_at_call 115; refine (hf' _).mono ?_; clear hf'; rintro e w5 ⟨rfl, rfl⟩))
        have z := ((Blk.set (Blk.other (Blk.other (HKO'.out.seen s4) (p := ⟨A, 0, none⟩) n1 (.int .i64 H)) (p := ⟨A, 2, none⟩) n1 (.int .i64 (wrap64 (t - H)))) 0 (.int .i64 H)).set 1 (.int .i64 X)).set 2 (.int .i64 (wrap64 (t - H)))
        have z0 := z.cell 0
        have z1 := z.cell 1
        have z2 := z.cell 2
        refine bodyPost_ret (by simp [results, Tryz.results112, go_sem, z0, z1, z2]; try rfl) rfl ?_
        exact ⟨by rw [HF.out]; rfl, Seen.set3 (Below.setCell (Below.setCell (HSA.out.trans s4) (show w.heap.size ≤ A by omega) _) (show w.heap.size ≤ A by omega) _) (by omega)⟩
      | false =>
        clear hf'
        go_wp2_with (first | (go_at_call 114; refine (tk _).mono ?_; clear tk; rintro e w4 ⟨rfl, hb⟩; have s4 : Seen wc w4 := sr.next hb; clear hb))
        have z := ((Blk.set (Blk.other (HKO'.out.seen s4) (p := ⟨A, 0, none⟩) n1 (.int .i64 (wrap64 (L + t)))) 0 (.int .i64 (wrap64 (L + t)))).set 1 (.int .i64 X)).set 2 (.int .i64 R)
        have z0 := z.cell 0
        have z1 := z.cell 1
        have z2 := z.cell 2
        refine bodyPost_ret (by simp [results, Tryz.results112, go_sem, z0, z1, z2]; try rfl) rfl ?_
        exact ⟨by rw [HF.out]; rfl, Seen.set3 (Below.setCell (HSA.out.trans s4) (show w.heap.size ≤ A by omega) _) (by omega)⟩
    | false =>
      clear hf'
      go_wp2_with (first | (go_at_call 114; refine (tk _).mono ?_; clear tk; rintro e w4 ⟨rfl, hb⟩; have s4 : Seen wc w4 := sr.next hb; clear hb))
      have z := ((Blk.set (Blk.other (HKO'.out.seen s4) (p := ⟨A, 2, none⟩) n1 (.int .i64 (wrap64 (R + t)))) 0 (.int .i64 L)).set 1 (.int .i64 X)).set 2 (.int .i64 (wrap64 (R + t)))
      have z0 := z.cell 0
      have z1 := z.cell 1
      have z2 := z.cell 2
      refine bodyPost_ret (by simp [results, Tryz.results112, go_sem, z0, z1, z2]; try rfl) rfl ?_
      exact ⟨by rw [HF.out]; rfl, Seen.set3 (Below.setCell (HSA.out.trans s4) (show w.heap.size ≤ A by omega) _) (by omega)⟩
end Go.Proofs.YtngeaigkafamiaaGreat

