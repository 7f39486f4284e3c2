/- Texts of the proof, merged: Ask. -/
import Derived.Test.YteplmjgohnbpbaaM19
import Derived.Defers
import Derived.Recover
/- Contracts of the guard of package bound around tryWide; no conditions beyond those written in each theorem. -/
namespace Go.Proofs.Yteplmjgohnbpbaa
open Go.ChangeShapes Go.WideShapes Go.ChangeAt Go.RowKit
set_option maxRecDepth 100000
set_option linter.unusedVariables false
theorem caught22 (w : World) : CallsD Try.prog 101 #[] .returning w fun e u' w' => e = .returned (.tuple #[]) ∧ u' = .returning ∧ w' = w := by
  refine callsD_of_wpS Try.func101 rfl fun c₀ cs hu => ?_
  apply wpS_region
  simp [wpOpsS, go_sem, recoverD, hu, Try.ntmps101, bodyPostS, results, Try.results101]
  rw [← hu]
set_option maxHeartbeats 2000000 in
theorem ask_any (b : Bx) (s : Sz) (w : World) :
    Calls Try.prog 99 #[.agg #[.func (.func 94) #[bxv b] #[]], szv s] w fun e w' => e = .returned (.tuple #[o3v (tryO b s), .int .i64 (tryN b s), .bool (tryB b s)]) ∧ Seen w w' := by
  have hn : ∀ (f : Fn) (a c : Array Value) (w : World), (binOp .eql 160 (.func f a c) .nilFunc).run Try.prog w = .ok (.bool false) w := fun _ _ _ _ => by kernel_rfl
  have HT := Lib.hid (show tryO b s = (if tryB b s then fillW b s else zO) ∧ tryN b s = (if tryB b s then (fillW b s).w else 0) from ⟨rfl, rfl⟩)
  have tw := fun w => tryWide_any b s w
  obtain ⟨o, ho⟩ : ∃ x, fillW b s = x := ⟨_, rfl⟩
  obtain ⟨p, hp⟩ : ∃ x, tryB b s = x := ⟨_, rfl⟩
  rw [hp, ho] at tw HT
  rw [hp, HT.out.1, HT.out.2]
  clear hp ho HT
  obtain ⟨l, m, r⟩ := o
  obtain ⟨W, hW⟩ : ∃ W, W = ((w.alloc (.cells #[.func (.func 94) #[bxv b] #[]] 168)).alloc (.cells #[.bool s.au, .int .i64 s.n] 24)).alloc (.cells #[.int .i64 0, .int .i64 0, .int .i64 0] 130) := ⟨_, rfl⟩
  have kg : Blk W w.heap.size [.func (.func 94) #[bxv b] #[]] 168 := by rw [hW]; exact ((Blk.new w _ _).alloc _).alloc _
  have ks : Blk W (w.heap.size + 1) [.bool s.au, .int .i64 s.n] 24 := by rw [hW]; simpa using (Blk.new (w.alloc (.cells #[.func (.func 94) #[bxv b] #[]] 168)) [.bool s.au, .int .i64 s.n] 24).alloc _
  have ko : Blk W (w.heap.size + 1 + 1) [.int .i64 0, .int .i64 0, .int .i64 0] 130 := by rw [hW]; simpa using Blk.new ((w.alloc (.cells #[.func (.func 94) #[bxv b] #[]] 168)).alloc (.cells #[.bool s.au, .int .i64 s.n] 24)) [.int .i64 0, .int .i64 0, .int .i64 0] 130
  have SW : Hid (Seen w W) := by rw [hW]; unfold Hid Seen; go_grown
  have HKO := Lib.hid ko
  have c0 : W.cell? ⟨w.heap.size, 0, none⟩ = some (.func (.func 94) #[bxv b] #[]) := kg.cell 0
  have rs := ks.rules2 _ (Seen.refl W)
  have hlt : w.heap.size + 1 + 1 < W.heap.size := ko.lt
  clear kg ks ko
  cases p
  all_goals
    go_enter_defers Try.func99, Try.ntmps99
    go_upto_region 1 with fail
    rw [← hW]
    clear hW
    go_upto_region 5 with (go_at_call 94; refine (tw _).mono ?_; clear tw; rintro e w1 ⟨rfl, hb⟩; have HB := Lib.hid hb; clear hb)
    obtain ⟨V, hV⟩ : ∃ V, V = w1.alloc (.cells #[.int .i64 l, .int .i64 m, .int .i64 r] 130) := ⟨_, rfl⟩
    obtain ⟨A, hA⟩ : ∃ A, w1.heap.size = A := ⟨_, rfl⟩
    have kA : Blk V A [.int .i64 l, .int .i64 m, .int .i64 r] 130 := by rw [hV, ← hA]; exact Blk.new w1 _ _
    have kO : Blk V (w.heap.size + 1 + 1) [.int .i64 0, .int .i64 0, .int .i64 0] 130 := by rw [hV]; exact (HKO.out.seen HB.out).alloc _
    have sV : Seen w V := by rw [hV]; exact (SW.out.trans HB.out).alloc _
    have n1 : ¬ A = w.heap.size + 1 + 1 := by have := HB.out.size; omega
    have n2 : ¬ w.heap.size + 1 + 1 = A := by omega
    rw [← hV, hA]
    have HSV := Lib.hid sV
    have HO := Lib.hid kO
    have ra := kA.rules3 _ (Seen.refl _)
    have ro := kO.rules3 _ (Seen.refl _)
    clear hV hA kA kO sV HKO SW HB c0 rs hlt
    go_wp2_with fail
    refine leaves_cons (f := 101) (args := #[]) (by simp) (by simp [go_sem]) ?_
    refine (caught22 _).mono ?_
    rintro e u' w2 ⟨rfl, rfl, rfl⟩
  · have z := ((HO.out.set 0 (.int .i64 0)).set 1 (.int .i64 0)).set 2 (.int .i64 0)
    have z0 := z.cell 0
    have z1 := z.cell 1
    have z2 := z.cell 2
    simp [Leaves, settle, results, Try.results99, go_sem, z0, z1, z2]
    exact ⟨⟨rfl, rfl, rfl⟩, Seen.set3 HSV.out (by omega)⟩
  · have z := ((HO.out.set 0 (.int .i64 l)).set 1 (.int .i64 m)).set 2 (.int .i64 r)
    have z0 := z.cell 0
    have z1 := z.cell 1
    have z2 := z.cell 2
    simp [Leaves, settle, results, Try.results99, go_sem, z0, z1, z2]
    exact Seen.set3 HSV.out (by omega)
end Go.Proofs.Yteplmjgohnbpbaa
