/- Texts of the proof, merged: AWithin. -/
import Derived.Test.YtngeaigkafamiaaGreatM10
namespace Go.Proofs.YtngeaigkafamiaaGreat
open Go.ChangeShapes Go.WideShapes Go.ChangeAt Go.RowKit
set_option maxRecDepth 100000
set_option linter.unusedVariables false
abbrev askv (b : Bx) : Value := .func (.func 111) #[.agg #[.func (.func 103) #[bxv b] #[]]] #[]
theorem tryN_t {b : Bx} {s : Sz} (h : tryB b s = true) : tryN b s = (fillW b s).w := by unfold tryN; rw [if_pos h]
set_option maxHeartbeats 2000000 in
theorem within_1 (b : Bx) (w : World) (h1 : tryB b b.wd = false) :
    Calls Tryz.prog 110 #[askv b, szv b.wd, .int .i64 b.lo, .int .i64 b.hi] w fun e w' => e = .returned (.tuple #[o3v (tryO b b.wd), .bool (tryB b b.wd)]) ∧ Seen w w' := by
  have C0 := fun w => ask_any b b.wd w
  obtain ⟨a0, ha0⟩ : ∃ x, tryO b b.wd = x := ⟨_, rfl⟩
  obtain ⟨m0, hm0⟩ : ∃ x, tryN b b.wd = x := ⟨_, rfl⟩
  rw [ha0, hm0, h1] at C0
  rw [ha0, h1]
  obtain ⟨l0, k0, r0⟩ := a0
  clear ha0 hm0
  obtain ⟨W, hW⟩ : ∃ W, W = (w.alloc (.cells #[.bool b.wd.au, .int .i64 b.wd.n] 24)).alloc (.cells #[.int .i64 0, .int .i64 0, .int .i64 0] 159) := ⟨_, rfl⟩
  have ks : Blk W w.heap.size [.bool b.wd.au, .int .i64 b.wd.n] 24 := by rw [hW]; exact (Blk.new w _ _).alloc _
  have ko : Blk W (w.heap.size + 1) [.int .i64 0, .int .i64 0, .int .i64 0] 159 := by rw [hW]; simpa using Blk.new (w.alloc (.cells #[.bool b.wd.au, .int .i64 b.wd.n] 24)) [.int .i64 0, .int .i64 0, .int .i64 0] 159
  have SW : Hid (Seen w W) := by rw [hW]; unfold Hid Seen; go_grown
  have HKO := Lib.hid ko
  have rs := ks.rules2 _ (Seen.refl W)
  clear ks ko
  go_enter Tryz.func110, Tryz.ntmps110
  go_upto_region 1 with fail
  rw [← hW]
  clear hW
  go_upto_region 2 with (go_at_call 111; refine (C0 _).mono ?_; clear C0; rintro e w1 ⟨rfl, hb⟩; have HB := Lib.hid hb; clear hb)
  obtain ⟨V, hV⟩ : ∃ V, V = w1.alloc (.cells #[.int .i64 l0, .int .i64 k0, .int .i64 r0] 159) := ⟨_, rfl⟩
  obtain ⟨A, hA⟩ : ∃ A, w1.heap.size = A := ⟨_, rfl⟩
  have kA : Blk V A [.int .i64 l0, .int .i64 k0, .int .i64 r0] 159 := by rw [hV, ← hA]; exact Blk.new w1 _ _
  have kO : Blk V (w.heap.size + 1) [.int .i64 0, .int .i64 0, .int .i64 0] 159 := by rw [hV]; exact (HKO.out.seen HB.out).alloc _
  have sV : Seen w V := by rw [hV]; exact (SW.out.trans HB.out).alloc _
  have n1 : ¬ A = w.heap.size + 1 := by have := HB.out.size; have := HKO.out.lt; omega
  have n2 : ¬ w.heap.size + 1 = A := by omega
  have n3 : w.heap.size ≤ A := by have := HB.out.size; have := HKO.out.lt; omega
  rw [← hV, hA]
  have HA := Lib.hid kA
  have HO := Lib.hid kO
  have HS := Lib.hid sV
  have ra := kA.rules3 _ (Seen.refl _)
  have ro := kO.rules3 _ (Seen.refl _)
  clear hV hA kA kO sV HKO SW HB rs
  go_wp2_with fail
  have z := ((HO.out.set 0 (.int .i64 l0)).set 1 (.int .i64 k0)).set 2 (.int .i64 r0)
  have z0 := z.cell 0
  have z1 := z.cell 1
  have z2 := z.cell 2
  refine bodyPost_ret (by simp [results, Tryz.results110, go_sem, z0, z1, z2]; try rfl) rfl ?_
  exact ⟨rfl, Seen.set3 HS.out (by omega)⟩
set_option maxHeartbeats 2000000 in
theorem within_2 (b : Bx) (w : World) (h1 : tryB b b.wd = true) (h2 : ¬ b.hi < tryN b b.wd) (h3 : ¬ tryN b b.wd < b.lo) :
    Calls Tryz.prog 110 #[askv b, szv b.wd, .int .i64 b.lo, .int .i64 b.hi] w fun e w' => e = .returned (.tuple #[o3v (tryO b b.wd), .bool (tryB b b.wd)]) ∧ Seen w w' := by
  have C0 := fun w => ask_any b b.wd w
  obtain ⟨a0, ha0⟩ : ∃ x, tryO b b.wd = x := ⟨_, rfl⟩
  obtain ⟨m0, hm0⟩ : ∃ x, tryN b b.wd = x := ⟨_, rfl⟩
  rw [ha0, hm0, h1] at C0
  rw [hm0] at h2
  rw [hm0] at h3
  rw [ha0, h1]
  obtain ⟨l0, k0, r0⟩ := a0
  clear ha0 hm0
  obtain ⟨W, hW⟩ : ∃ W, W = (w.alloc (.cells #[.bool b.wd.au, .int .i64 b.wd.n] 24)).alloc (.cells #[.int .i64 0, .int .i64 0, .int .i64 0] 159) := ⟨_, rfl⟩
  have ks : Blk W w.heap.size [.bool b.wd.au, .int .i64 b.wd.n] 24 := by rw [hW]; exact (Blk.new w _ _).alloc _
  have ko : Blk W (w.heap.size + 1) [.int .i64 0, .int .i64 0, .int .i64 0] 159 := by rw [hW]; simpa using Blk.new (w.alloc (.cells #[.bool b.wd.au, .int .i64 b.wd.n] 24)) [.int .i64 0, .int .i64 0, .int .i64 0] 159
  have SW : Hid (Seen w W) := by rw [hW]; unfold Hid Seen; go_grown
  have HKO := Lib.hid ko
  have rs := ks.rules2 _ (Seen.refl W)
  clear ks ko
  go_enter Tryz.func110, Tryz.ntmps110
  go_upto_region 1 with fail
  rw [← hW]
  clear hW
  go_upto_region 2 with (go_at_call 111; refine (C0 _).mono ?_; clear C0; rintro e w1 ⟨rfl, hb⟩; have HB := Lib.hid hb; clear hb)
  obtain ⟨V, hV⟩ : ∃ V, V = w1.alloc (.cells #[.int .i64 l0, .int .i64 k0, .int .i64 r0] 159) := ⟨_, rfl⟩
  obtain ⟨A, hA⟩ : ∃ A, w1.heap.size = A := ⟨_, rfl⟩
  have kA : Blk V A [.int .i64 l0, .int .i64 k0, .int .i64 r0] 159 := by rw [hV, ← hA]; exact Blk.new w1 _ _
  have kO : Blk V (w.heap.size + 1) [.int .i64 0, .int .i64 0, .int .i64 0] 159 := by rw [hV]; exact (HKO.out.seen HB.out).alloc _
  have sV : Seen w V := by rw [hV]; exact (SW.out.trans HB.out).alloc _
  have n1 : ¬ A = w.heap.size + 1 := by have := HB.out.size; have := HKO.out.lt; omega
  have n2 : ¬ w.heap.size + 1 = A := by omega
  have n3 : w.heap.size ≤ A := by have := HB.out.size; have := HKO.out.lt; omega
  rw [← hV, hA]
  have HA := Lib.hid kA
  have HO := Lib.hid kO
  have HS := Lib.hid sV
  have ra := kA.rules3 _ (Seen.refl _)
  have ro := kO.rules3 _ (Seen.refl _)
  clear hV hA kA kO sV HKO SW HB rs
  go_wp2_with fail
  have z := ((HO.out.set 0 (.int .i64 l0)).set 1 (.int .i64 k0)).set 2 (.int .i64 r0)
  have z0 := z.cell 0
  have z1 := z.cell 1
  have z2 := z.cell 2
  refine bodyPost_ret (by simp [results, Tryz.results110, go_sem, z0, z1, z2]; try rfl) rfl ?_
  exact ⟨rfl, Seen.set3 HS.out (by omega)⟩
set_option maxHeartbeats 2000000 in
theorem within_3 (b : Bx) (w : World) (h1 : tryB b b.wd = true) (h2 : ¬ b.hi < tryN b b.wd) (h3 : tryN b b.wd < b.lo) :
    Calls Tryz.prog 110 #[askv b, szv b.wd, .int .i64 b.lo, .int .i64 b.hi] w fun e w' => e = .returned (.tuple #[o3v (tryO b ⟨false, b.lo⟩), .bool (tryB b ⟨false, b.lo⟩)]) ∧ Seen w w' := by
  have C0 := fun w => ask_any b b.wd w
  have C1 := fun w => ask_any b ⟨false, b.lo⟩ w
  obtain ⟨a0, ha0⟩ : ∃ x, tryO b b.wd = x := ⟨_, rfl⟩
  obtain ⟨m0, hm0⟩ : ∃ x, tryN b b.wd = x := ⟨_, rfl⟩
  obtain ⟨a1, ha1⟩ : ∃ x, tryO b ⟨false, b.lo⟩ = x := ⟨_, rfl⟩
  obtain ⟨m1, hm1⟩ : ∃ x, tryN b ⟨false, b.lo⟩ = x := ⟨_, rfl⟩
  obtain ⟨p1, hp1⟩ : ∃ x, tryB b ⟨false, b.lo⟩ = x := ⟨_, rfl⟩
  rw [ha0, hm0, h1] at C0
  rw [ha1, hm1, hp1] at C1
  rw [hm0] at h2
  rw [hm0] at h3
  rw [ha1, hp1]
  obtain ⟨l0, k0, r0⟩ := a0
  obtain ⟨l1, k1, r1⟩ := a1
  clear ha0 hm0 ha1 hm1 hp1
  obtain ⟨W, hW⟩ : ∃ W, W = (w.alloc (.cells #[.bool b.wd.au, .int .i64 b.wd.n] 24)).alloc (.cells #[.int .i64 0, .int .i64 0, .int .i64 0] 159) := ⟨_, rfl⟩
  have ks : Blk W w.heap.size [.bool b.wd.au, .int .i64 b.wd.n] 24 := by rw [hW]; exact (Blk.new w _ _).alloc _
  have ko : Blk W (w.heap.size + 1) [.int .i64 0, .int .i64 0, .int .i64 0] 159 := by rw [hW]; simpa using Blk.new (w.alloc (.cells #[.bool b.wd.au, .int .i64 b.wd.n] 24)) [.int .i64 0, .int .i64 0, .int .i64 0] 159
  have SW : Hid (Seen w W) := by rw [hW]; unfold Hid Seen; go_grown
  have HKO := Lib.hid ko
  have rs := ks.rules2 _ (Seen.refl W)
  clear ks ko
  go_enter Tryz.func110, Tryz.ntmps110
  go_upto_region 1 with fail
  rw [← hW]
  clear hW
  go_upto_region 2 with (go_at_call 111; refine (C0 _).mono ?_; clear C0; rintro e w1 ⟨rfl, hb⟩; have HB := Lib.hid hb; clear hb)
  obtain ⟨V, hV⟩ : ∃ V, V = w1.alloc (.cells #[.int .i64 l0, .int .i64 k0, .int .i64 r0] 159) := ⟨_, rfl⟩
  obtain ⟨A, hA⟩ : ∃ A, w1.heap.size = A := ⟨_, rfl⟩
  have kA : Blk V A [.int .i64 l0, .int .i64 k0, .int .i64 r0] 159 := by rw [hV, ← hA]; exact Blk.new w1 _ _
  have kO : Blk V (w.heap.size + 1) [.int .i64 0, .int .i64 0, .int .i64 0] 159 := by rw [hV]; exact (HKO.out.seen HB.out).alloc _
  have sV : Seen w V := by rw [hV]; exact (SW.out.trans HB.out).alloc _
  have n1 : ¬ A = w.heap.size + 1 := by have := HB.out.size; have := HKO.out.lt; omega
  have n2 : ¬ w.heap.size + 1 = A := by omega
  have n3 : w.heap.size ≤ A := by have := HB.out.size; have := HKO.out.lt; omega
  rw [← hV, hA]
  have HA := Lib.hid kA
  have HO := Lib.hid kO
  have HS := Lib.hid sV
  have ra := kA.rules3 _ (Seen.refl _)
  have ro := kO.rules3 _ (Seen.refl _)
  clear hV hA kA kO sV HKO SW HB rs
  go_upto_region 6 with (go_at_call 111; refine (C1 _).mono ?_; clear C1; rintro e w2 ⟨rfl, hb⟩; have HB := Lib.hid hb; clear hb; have ra := (HA.out.seen HB.out).rules3 _ (Seen.refl _))
  obtain ⟨V1, hV⟩ : ∃ V, V = (((w2.setCell ⟨A, 0, none⟩ (.int .i64 l1)).setCell ⟨A, 1, none⟩ (.int .i64 k1)).setCell ⟨A, 2, none⟩ (.int .i64 r1)) := ⟨_, rfl⟩
  have kA : Blk V1 A [.int .i64 l1, .int .i64 k1, .int .i64 r1] 159 := by rw [hV]; exact (((HA.out.seen HB.out).set 0 _).set 1 _).set 2 _
  have kO : Blk V1 (w.heap.size + 1) [.int .i64 0, .int .i64 0, .int .i64 0] 159 := by rw [hV]; exact (((HO.out.seen HB.out).other (p := ⟨A, 0, none⟩) n1 _).other (p := ⟨A, 1, none⟩) n1 _).other (p := ⟨A, 2, none⟩) n1 _
  have sV : Seen w V1 := by rw [hV]; exact Seen.set3 (HS.out.trans HB.out) n3
  rw [← hV]
  clear HA HO HS ra ro
  have HA := Lib.hid kA
  have HO := Lib.hid kO
  have HS := Lib.hid sV
  have ra := kA.rules3 _ (Seen.refl _)
  have ro := kO.rules3 _ (Seen.refl _)
  clear hV kA kO sV HB
  go_wp2_with fail
  have z := ((HO.out.set 0 (.int .i64 l1)).set 1 (.int .i64 k1)).set 2 (.int .i64 r1)
  have z0 := z.cell 0
  have z1 := z.cell 1
  have z2 := z.cell 2
  refine bodyPost_ret (by simp [results, Tryz.results110, go_sem, z0, z1, z2]; try rfl) rfl ?_
  exact ⟨rfl, Seen.set3 HS.out (by omega)⟩
set_option maxHeartbeats 2000000 in
theorem within_4 (b : Bx) (w : World) (h1 : tryB b b.wd = true) (h2 : b.hi < tryN b b.wd) (h3 : tryB b ⟨false, b.hi⟩ = false) :
    Calls Tryz.prog 110 #[askv b, szv b.wd, .int .i64 b.lo, .int .i64 b.hi] w fun e w' => e = .returned (.tuple #[o3v (tryO b ⟨false, b.hi⟩), .bool (tryB b ⟨false, b.hi⟩)]) ∧ Seen w w' := by
  have C0 := fun w => ask_any b b.wd w
  have C1 := fun w => ask_any b ⟨false, b.hi⟩ w
  obtain ⟨a0, ha0⟩ : ∃ x, tryO b b.wd = x := ⟨_, rfl⟩
  obtain ⟨m0, hm0⟩ : ∃ x, tryN b b.wd = x := ⟨_, rfl⟩
  obtain ⟨a1, ha1⟩ : ∃ x, tryO b ⟨false, b.hi⟩ = x := ⟨_, rfl⟩
  obtain ⟨m1, hm1⟩ : ∃ x, tryN b ⟨false, b.hi⟩ = x := ⟨_, rfl⟩
  rw [ha0, hm0, h1] at C0
  rw [ha1, hm1, h3] at C1
  rw [hm0] at h2
  rw [ha1, h3]
  obtain ⟨l0, k0, r0⟩ := a0
  obtain ⟨l1, k1, r1⟩ := a1
  clear ha0 hm0 ha1 hm1
  obtain ⟨W, hW⟩ : ∃ W, W = (w.alloc (.cells #[.bool b.wd.au, .int .i64 b.wd.n] 24)).alloc (.cells #[.int .i64 0, .int .i64 0, .int .i64 0] 159) := ⟨_, rfl⟩
  have ks : Blk W w.heap.size [.bool b.wd.au, .int .i64 b.wd.n] 24 := by rw [hW]; exact (Blk.new w _ _).alloc _
  have ko : Blk W (w.heap.size + 1) [.int .i64 0, .int .i64 0, .int .i64 0] 159 := by rw [hW]; simpa using Blk.new (w.alloc (.cells #[.bool b.wd.au, .int .i64 b.wd.n] 24)) [.int .i64 0, .int .i64 0, .int .i64 0] 159
  have SW : Hid (Seen w W) := by rw [hW]; unfold Hid Seen; go_grown
  have HKO := Lib.hid ko
  have rs := ks.rules2 _ (Seen.refl W)
  clear ks ko
  go_enter Tryz.func110, Tryz.ntmps110
  go_upto_region 1 with fail
  rw [← hW]
  clear hW
  go_upto_region 2 with (go_at_call 111; refine (C0 _).mono ?_; clear C0; rintro e w1 ⟨rfl, hb⟩; have HB := Lib.hid hb; clear hb)
  obtain ⟨V, hV⟩ : ∃ V, V = w1.alloc (.cells #[.int .i64 l0, .int .i64 k0, .int .i64 r0] 159) := ⟨_, rfl⟩
  obtain ⟨A, hA⟩ : ∃ A, w1.heap.size = A := ⟨_, rfl⟩
  have kA : Blk V A [.int .i64 l0, .int .i64 k0, .int .i64 r0] 159 := by rw [hV, ← hA]; exact Blk.new w1 _ _
  have kO : Blk V (w.heap.size + 1) [.int .i64 0, .int .i64 0, .int .i64 0] 159 := by rw [hV]; exact (HKO.out.seen HB.out).alloc _
  have sV : Seen w V := by rw [hV]; exact (SW.out.trans HB.out).alloc _
  have n1 : ¬ A = w.heap.size + 1 := by have := HB.out.size; have := HKO.out.lt; omega
  have n2 : ¬ w.heap.size + 1 = A := by omega
  have n3 : w.heap.size ≤ A := by have := HB.out.size; have := HKO.out.lt; omega
  rw [← hV, hA]
  have HA := Lib.hid kA
  have HO := Lib.hid kO
  have HS := Lib.hid sV
  have ra := kA.rules3 _ (Seen.refl _)
  have ro := kO.rules3 _ (Seen.refl _)
  clear hV hA kA kO sV HKO SW HB rs
  go_upto_region 4 with (go_at_call 111; refine (C1 _).mono ?_; clear C1; rintro e w2 ⟨rfl, hb⟩; have HB := Lib.hid hb; clear hb; have ra := (HA.out.seen HB.out).rules3 _ (Seen.refl _))
  obtain ⟨V1, hV⟩ : ∃ V, V = (((w2.setCell ⟨A, 0, none⟩ (.int .i64 l1)).setCell ⟨A, 1, none⟩ (.int .i64 k1)).setCell ⟨A, 2, none⟩ (.int .i64 r1)) := ⟨_, rfl⟩
  have kA : Blk V1 A [.int .i64 l1, .int .i64 k1, .int .i64 r1] 159 := by rw [hV]; exact (((HA.out.seen HB.out).set 0 _).set 1 _).set 2 _
  have kO : Blk V1 (w.heap.size + 1) [.int .i64 0, .int .i64 0, .int .i64 0] 159 := by rw [hV]; exact (((HO.out.seen HB.out).other (p := ⟨A, 0, none⟩) n1 _).other (p := ⟨A, 1, none⟩) n1 _).other (p := ⟨A, 2, none⟩) n1 _
  have sV : Seen w V1 := by rw [hV]; exact Seen.set3 (HS.out.trans HB.out) n3
  rw [← hV]
  clear HA HO HS ra ro
  have HA := Lib.hid kA
  have HO := Lib.hid kO
  have HS := Lib.hid sV
  have ra := kA.rules3 _ (Seen.refl _)
  have ro := kO.rules3 _ (Seen.refl _)
  clear hV kA kO sV HB
  go_wp2_with fail
  have z := ((HO.out.set 0 (.int .i64 l1)).set 1 (.int .i64 k1)).set 2 (.int .i64 r1)
  have z0 := z.cell 0
  have z1 := z.cell 1
  have z2 := z.cell 2
  refine bodyPost_ret (by simp [results, Tryz.results110, go_sem, z0, z1, z2]; try rfl) rfl ?_
  exact ⟨rfl, Seen.set3 HS.out (by omega)⟩
set_option maxHeartbeats 2000000 in
theorem within_5 (b : Bx) (w : World) (h1 : tryB b b.wd = true) (h2 : b.hi < tryN b b.wd) (h3 : tryB b ⟨false, b.hi⟩ = true) (h4 : ¬ tryN b ⟨false, b.hi⟩ < b.lo) :
    Calls Tryz.prog 110 #[askv b, szv b.wd, .int .i64 b.lo, .int .i64 b.hi] w fun e w' => e = .returned (.tuple #[o3v (tryO b ⟨false, b.hi⟩), .bool (tryB b ⟨false, b.hi⟩)]) ∧ Seen w w' := by
  have C0 := fun w => ask_any b b.wd w
  have C1 := fun w => ask_any b ⟨false, b.hi⟩ w
  obtain ⟨a0, ha0⟩ : ∃ x, tryO b b.wd = x := ⟨_, rfl⟩
  obtain ⟨m0, hm0⟩ : ∃ x, tryN b b.wd = x := ⟨_, rfl⟩
  obtain ⟨a1, ha1⟩ : ∃ x, tryO b ⟨false, b.hi⟩ = x := ⟨_, rfl⟩
  obtain ⟨m1, hm1⟩ : ∃ x, tryN b ⟨false, b.hi⟩ = x := ⟨_, rfl⟩
  rw [ha0, hm0, h1] at C0
  rw [ha1, hm1, h3] at C1
  rw [hm0] at h2
  rw [hm1] at h4
  rw [ha1, h3]
  obtain ⟨l0, k0, r0⟩ := a0
  obtain ⟨l1, k1, r1⟩ := a1
  clear ha0 hm0 ha1 hm1
  obtain ⟨W, hW⟩ : ∃ W, W = (w.alloc (.cells #[.bool b.wd.au, .int .i64 b.wd.n] 24)).alloc (.cells #[.int .i64 0, .int .i64 0, .int .i64 0] 159) := ⟨_, rfl⟩
  have ks : Blk W w.heap.size [.bool b.wd.au, .int .i64 b.wd.n] 24 := by rw [hW]; exact (Blk.new w _ _).alloc _
  have ko : Blk W (w.heap.size + 1) [.int .i64 0, .int .i64 0, .int .i64 0] 159 := by rw [hW]; simpa using Blk.new (w.alloc (.cells #[.bool b.wd.au, .int .i64 b.wd.n] 24)) [.int .i64 0, .int .i64 0, .int .i64 0] 159
  have SW : Hid (Seen w W) := by rw [hW]; unfold Hid Seen; go_grown
  have HKO := Lib.hid ko
  have rs := ks.rules2 _ (Seen.refl W)
  clear ks ko
  go_enter Tryz.func110, Tryz.ntmps110
  go_upto_region 1 with fail
  rw [← hW]
  clear hW
  go_upto_region 2 with (go_at_call 111; refine (C0 _).mono ?_; clear C0; rintro e w1 ⟨rfl, hb⟩; have HB := Lib.hid hb; clear hb)
  obtain ⟨V, hV⟩ : ∃ V, V = w1.alloc (.cells #[.int .i64 l0, .int .i64 k0, .int .i64 r0] 159) := ⟨_, rfl⟩
  obtain ⟨A, hA⟩ : ∃ A, w1.heap.size = A := ⟨_, rfl⟩
  have kA : Blk V A [.int .i64 l0, .int .i64 k0, .int .i64 r0] 159 := by rw [hV, ← hA]; exact Blk.new w1 _ _
  have kO : Blk V (w.heap.size + 1) [.int .i64 0, .int .i64 0, .int .i64 0] 159 := by rw [hV]; exact (HKO.out.seen HB.out).alloc _
  have sV : Seen w V := by rw [hV]; exact (SW.out.trans HB.out).alloc _
  have n1 : ¬ A = w.heap.size + 1 := by have := HB.out.size; have := HKO.out.lt; omega
  have n2 : ¬ w.heap.size + 1 = A := by omega
  have n3 : w.heap.size ≤ A := by have := HB.out.size; have := HKO.out.lt; omega
  rw [← hV, hA]
  have HA := Lib.hid kA
  have HO := Lib.hid kO
  have HS := Lib.hid sV
  have ra := kA.rules3 _ (Seen.refl _)
  have ro := kO.rules3 _ (Seen.refl _)
  clear hV hA kA kO sV HKO SW HB rs
  go_upto_region 4 with (go_at_call 111; refine (C1 _).mono ?_; clear C1; rintro e w2 ⟨rfl, hb⟩; have HB := Lib.hid hb; clear hb; have ra := (HA.out.seen HB.out).rules3 _ (Seen.refl _))
  obtain ⟨V1, hV⟩ : ∃ V, V = (((w2.setCell ⟨A, 0, none⟩ (.int .i64 l1)).setCell ⟨A, 1, none⟩ (.int .i64 k1)).setCell ⟨A, 2, none⟩ (.int .i64 r1)) := ⟨_, rfl⟩
  have kA : Blk V1 A [.int .i64 l1, .int .i64 k1, .int .i64 r1] 159 := by rw [hV]; exact (((HA.out.seen HB.out).set 0 _).set 1 _).set 2 _
  have kO : Blk V1 (w.heap.size + 1) [.int .i64 0, .int .i64 0, .int .i64 0] 159 := by rw [hV]; exact (((HO.out.seen HB.out).other (p := ⟨A, 0, none⟩) n1 _).other (p := ⟨A, 1, none⟩) n1 _).other (p := ⟨A, 2, none⟩) n1 _
  have sV : Seen w V1 := by rw [hV]; exact Seen.set3 (HS.out.trans HB.out) n3
  rw [← hV]
  clear HA HO HS ra ro
  have HA := Lib.hid kA
  have HO := Lib.hid kO
  have HS := Lib.hid sV
  have ra := kA.rules3 _ (Seen.refl _)
  have ro := kO.rules3 _ (Seen.refl _)
  clear hV kA kO sV HB
  go_wp2_with fail
  have z := ((HO.out.set 0 (.int .i64 l1)).set 1 (.int .i64 k1)).set 2 (.int .i64 r1)
  have z0 := z.cell 0
  have z1 := z.cell 1
  have z2 := z.cell 2
  refine bodyPost_ret (by simp [results, Tryz.results110, go_sem, z0, z1, z2]; try rfl) rfl ?_
  exact ⟨rfl, Seen.set3 HS.out (by omega)⟩
set_option maxHeartbeats 2000000 in
theorem within_6 (b : Bx) (w : World) (h1 : tryB b b.wd = true) (h2 : b.hi < tryN b b.wd) (h3 : tryB b ⟨false, b.hi⟩ = true) (h4 : tryN b ⟨false, b.hi⟩ < b.lo) :
    Calls Tryz.prog 110 #[askv b, szv b.wd, .int .i64 b.lo, .int .i64 b.hi] w fun e w' => e = .returned (.tuple #[o3v (tryO b ⟨false, b.lo⟩), .bool (tryB b ⟨false, b.lo⟩)]) ∧ Seen w w' := by
  have C0 := fun w => ask_any b b.wd w
  have C1 := fun w => ask_any b ⟨false, b.hi⟩ w
  have C2 := fun w => ask_any b ⟨false, b.lo⟩ w
  obtain ⟨a0, ha0⟩ : ∃ x, tryO b b.wd = x := ⟨_, rfl⟩
  obtain ⟨m0, hm0⟩ : ∃ x, tryN b b.wd = x := ⟨_, rfl⟩
  obtain ⟨a1, ha1⟩ : ∃ x, tryO b ⟨false, b.hi⟩ = x := ⟨_, rfl⟩
  obtain ⟨m1, hm1⟩ : ∃ x, tryN b ⟨false, b.hi⟩ = x := ⟨_, rfl⟩
  obtain ⟨a2, ha2⟩ : ∃ x, tryO b ⟨false, b.lo⟩ = x := ⟨_, rfl⟩
  obtain ⟨m2, hm2⟩ : ∃ x, tryN b ⟨false, b.lo⟩ = x := ⟨_, rfl⟩
  obtain ⟨p2, hp2⟩ : ∃ x, tryB b ⟨false, b.lo⟩ = x := ⟨_, rfl⟩
  rw [ha0, hm0, h1] at C0
  rw [ha1, hm1, h3] at C1
  rw [ha2, hm2, hp2] at C2
  rw [hm0] at h2
  rw [hm1] at h4
  rw [ha2, hp2]
  obtain ⟨l0, k0, r0⟩ := a0
  obtain ⟨l1, k1, r1⟩ := a1
  obtain ⟨l2, k2, r2⟩ := a2
  clear ha0 hm0 ha1 hm1 ha2 hm2 hp2
  obtain ⟨W, hW⟩ : ∃ W, W = (w.alloc (.cells #[.bool b.wd.au, .int .i64 b.wd.n] 24)).alloc (.cells #[.int .i64 0, .int .i64 0, .int .i64 0] 159) := ⟨_, rfl⟩
  have ks : Blk W w.heap.size [.bool b.wd.au, .int .i64 b.wd.n] 24 := by rw [hW]; exact (Blk.new w _ _).alloc _
  have ko : Blk W (w.heap.size + 1) [.int .i64 0, .int .i64 0, .int .i64 0] 159 := by rw [hW]; simpa using Blk.new (w.alloc (.cells #[.bool b.wd.au, .int .i64 b.wd.n] 24)) [.int .i64 0, .int .i64 0, .int .i64 0] 159
  have SW : Hid (Seen w W) := by rw [hW]; unfold Hid Seen; go_grown
  have HKO := Lib.hid ko
  have rs := ks.rules2 _ (Seen.refl W)
  clear ks ko
  go_enter Tryz.func110, Tryz.ntmps110
  go_upto_region 1 with fail
  rw [← hW]
  clear hW
  go_upto_region 2 with (go_at_call 111; refine (C0 _).mono ?_; clear C0; rintro e w1 ⟨rfl, hb⟩; have HB := Lib.hid hb; clear hb)
  obtain ⟨V, hV⟩ : ∃ V, V = w1.alloc (.cells #[.int .i64 l0, .int .i64 k0, .int .i64 r0] 159) := ⟨_, rfl⟩
  obtain ⟨A, hA⟩ : ∃ A, w1.heap.size = A := ⟨_, rfl⟩
  have kA : Blk V A [.int .i64 l0, .int .i64 k0, .int .i64 r0] 159 := by rw [hV, ← hA]; exact Blk.new w1 _ _
  have kO : Blk V (w.heap.size + 1) [.int .i64 0, .int .i64 0, .int .i64 0] 159 := by rw [hV]; exact (HKO.out.seen HB.out).alloc _
  have sV : Seen w V := by rw [hV]; exact (SW.out.trans HB.out).alloc _
  have n1 : ¬ A = w.heap.size + 1 := by have := HB.out.size; have := HKO.out.lt; omega
  have n2 : ¬ w.heap.size + 1 = A := by omega
  have n3 : w.heap.size ≤ A := by have := HB.out.size; have := HKO.out.lt; omega
  rw [← hV, hA]
  have HA := Lib.hid kA
  have HO := Lib.hid kO
  have HS := Lib.hid sV
  have ra := kA.rules3 _ (Seen.refl _)
  have ro := kO.rules3 _ (Seen.refl _)
  clear hV hA kA kO sV HKO SW HB rs
  go_upto_region 4 with (go_at_call 111; refine (C1 _).mono ?_; clear C1; rintro e w2 ⟨rfl, hb⟩; have HB := Lib.hid hb; clear hb; have ra := (HA.out.seen HB.out).rules3 _ (Seen.refl _))
  obtain ⟨V1, hV⟩ : ∃ V, V = (((w2.setCell ⟨A, 0, none⟩ (.int .i64 l1)).setCell ⟨A, 1, none⟩ (.int .i64 k1)).setCell ⟨A, 2, none⟩ (.int .i64 r1)) := ⟨_, rfl⟩
  have kA : Blk V1 A [.int .i64 l1, .int .i64 k1, .int .i64 r1] 159 := by rw [hV]; exact (((HA.out.seen HB.out).set 0 _).set 1 _).set 2 _
  have kO : Blk V1 (w.heap.size + 1) [.int .i64 0, .int .i64 0, .int .i64 0] 159 := by rw [hV]; exact (((HO.out.seen HB.out).other (p := ⟨A, 0, none⟩) n1 _).other (p := ⟨A, 1, none⟩) n1 _).other (p := ⟨A, 2, none⟩) n1 _
  have sV : Seen w V1 := by rw [hV]; exact Seen.set3 (HS.out.trans HB.out) n3
  rw [← hV]
  clear HA HO HS ra ro
  have HA := Lib.hid kA
  have HO := Lib.hid kO
  have HS := Lib.hid sV
  have ra := kA.rules3 _ (Seen.refl _)
  have ro := kO.rules3 _ (Seen.refl _)
  clear hV kA kO sV HB
  go_upto_region 6 with (go_at_call 111; refine (C2 _).mono ?_; clear C2; rintro e w3 ⟨rfl, hb⟩; have HB := Lib.hid hb; clear hb; have ra := (HA.out.seen HB.out).rules3 _ (Seen.refl _))
  obtain ⟨V2, hV⟩ : ∃ V, V = (((w3.setCell ⟨A, 0, none⟩ (.int .i64 l2)).setCell ⟨A, 1, none⟩ (.int .i64 k2)).setCell ⟨A, 2, none⟩ (.int .i64 r2)) := ⟨_, rfl⟩
  have kA : Blk V2 A [.int .i64 l2, .int .i64 k2, .int .i64 r2] 159 := by rw [hV]; exact (((HA.out.seen HB.out).set 0 _).set 1 _).set 2 _
  have kO : Blk V2 (w.heap.size + 1) [.int .i64 0, .int .i64 0, .int .i64 0] 159 := by rw [hV]; exact (((HO.out.seen HB.out).other (p := ⟨A, 0, none⟩) n1 _).other (p := ⟨A, 1, none⟩) n1 _).other (p := ⟨A, 2, none⟩) n1 _
  have sV : Seen w V2 := by rw [hV]; exact Seen.set3 (HS.out.trans HB.out) n3
  rw [← hV]
  clear HA HO HS ra ro
  have HA := Lib.hid kA
  have HO := Lib.hid kO
  have HS := Lib.hid sV
  have ra := kA.rules3 _ (Seen.refl _)
  have ro := kO.rules3 _ (Seen.refl _)
  clear hV kA kO sV HB
  go_wp2_with fail
  have z := ((HO.out.set 0 (.int .i64 l2)).set 1 (.int .i64 k2)).set 2 (.int .i64 r2)
  have z0 := z.cell 0
  have z1 := z.cell 1
  have z2 := z.cell 2
  refine bodyPost_ret (by simp [results, Tryz.results110, go_sem, z0, z1, z2]; try rfl) rfl ?_
  exact ⟨rfl, Seen.set3 HS.out (by omega)⟩
theorem hi_no {b : Bx} {s : Sz} (h : ¬ (tryB b s = true ∧ b.hi < (fillW b s).w)) : nextHi b s = s := if_neg h
theorem hi_yes {b : Bx} {s : Sz} (h : tryB b s = true) (h2 : b.hi < (fillW b s).w) : nextHi b s = ⟨false, b.hi⟩ := if_pos ⟨h, h2⟩
theorem lo_no {b : Bx} {s : Sz} (h : ¬ (tryB b s = true ∧ (fillW b s).w < b.lo)) : nextLo b s = s := if_neg h
theorem lo_yes {b : Bx} {s : Sz} (h : tryB b s = true) (h2 : (fillW b s).w < b.lo) : nextLo b s = ⟨false, b.lo⟩ := if_pos ⟨h, h2⟩
theorem within_any (b : Bx) (w : World) :
    Calls Tryz.prog 110 #[askv b, szv b.wd, .int .i64 b.lo, .int .i64 b.hi] w fun e w' => e = .returned (.tuple #[o3v (tryO b (lastS b)), .bool (tryB b (lastS b))]) ∧ Seen w w' := by
  unfold lastS
  cases h1 : tryB b b.wd with
  | false =>
    rw [hi_no (fun h => by rw [h1] at h; cases h.1), lo_no (fun h => by rw [h1] at h; cases h.1)]
    exact within_1 b w h1
  | true =>
    have e1 := tryN_t h1
    by_cases h2 : b.hi < tryN b b.wd
    · rw [hi_yes h1 (e1 ▸ h2)]
      cases h3 : tryB b ⟨false, b.hi⟩ with
      | false =>
        rw [lo_no (fun h => by rw [h3] at h; cases h.1)]
        exact within_4 b w h1 h2 h3
      | true =>
        have e2 := tryN_t h3
        by_cases h4 : tryN b ⟨false, b.hi⟩ < b.lo
        · rw [lo_yes h3 (e2 ▸ h4)]
          exact within_6 b w h1 h2 h3 h4
        · rw [lo_no (fun h => h4 (e2 ▸ h.2))]
          exact within_5 b w h1 h2 h3 h4
    · rw [hi_no (fun h => h2 (e1 ▸ h.2))]
      by_cases h3 : tryN b b.wd < b.lo
      · rw [lo_yes h1 (e1 ▸ h3)]
        exact within_3 b w h1 h2 h3
      · rw [lo_no (fun h => h3 (e1 ▸ h.2))]
        exact within_2 b w h1 h2 h3
end Go.Proofs.YtngeaigkafamiaaGreat

