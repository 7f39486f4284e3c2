/- Contracts of bound.Solve around tryWide, of across.Solve and of the law package's own check; no conditions beyond those written in each theorem. -/
import Derived.Test.YtimnhognjkgohaaWithin
namespace Go.Proofs.Ytimnhognjkgohaa
open Go.ChangeShapes Go.WideShapes Go.ChangeAt Go.RowKit
set_option maxRecDepth 100000
set_option linter.unusedVariables false
set_option maxHeartbeats 2000000 in
theorem bsolve_any (b : Bx) (w : World) :
    Calls Try.prog 11 #[.func (.func 12) #[bxv b] #[], szv b.wd, .int .i64 b.lo, .int .i64 b.hi] w fun e w' => e = .returned (.tuple #[o3v (tryO b (lastS b)), .bool (tryB b (lastS b))]) ∧ Seen w w' := by
  have hmf : ∀ (fn : Fn) (first cap : Array Value) (w : World), (Instr.makeFunc fn first cap).run Try.prog w = .ok (.func fn first cap) w := fun _ _ _ _ => rfl
  have C := fun w => within_any b w
  obtain ⟨o, ho⟩ : ∃ x, tryO b (lastS b) = x := ⟨_, rfl⟩
  obtain ⟨p, hp⟩ : ∃ x, tryB b (lastS b) = x := ⟨_, rfl⟩
  rw [ho, hp] at C
  rw [ho, hp]
  clear ho hp
  obtain ⟨l, m, r⟩ := o
  obtain ⟨W, hW⟩ : ∃ W, W = (w.alloc (.cells #[.bool b.wd.au, .int .i64 b.wd.n] 23)).alloc (.cells #[.int .i64 0, .int .i64 0, .int .i64 0] 28) := ⟨_, rfl⟩
  have ks : Blk W w.heap.size [.bool b.wd.au, .int .i64 b.wd.n] 23 := by rw [hW]; exact (Blk.new w _ _).alloc _
  have ko : Blk W (w.heap.size + 1) [.int .i64 0, .int .i64 0, .int .i64 0] 28 := by rw [hW]; simpa using Blk.new (w.alloc (.cells #[.bool b.wd.au, .int .i64 b.wd.n] 23)) [.int .i64 0, .int .i64 0, .int .i64 0] 28
  have SW : Hid (Seen w W) := by rw [hW]; unfold Hid Seen; go_grown
  have HKO := Lib.hid ko
  have rs := ks.rules2 _ (Seen.refl W)
  clear ks ko
  go_enter Try.func11, Try.ntmps11
  go_upto_region 1 with fail
  rw [← hW]
  clear hW
  go_wp2_with (go_at_call 18; refine (C _).mono ?_; clear C; rintro e w1 ⟨rfl, hb⟩; have HB := Lib.hid hb; clear hb; have ro := (HKO.out.seen HB.out).rules3 _ (Seen.refl _))
  have z := (((HKO.out.seen HB.out).set 0 (.int .i64 l)).set 1 (.int .i64 m)).set 2 (.int .i64 r)
  have z0 := z.cell 0
  have z1 := z.cell 1
  have z2 := z.cell 2
  refine bodyPost_ret (by simp [results, Try.results11, go_sem, z0, z1, z2]; try rfl) rfl ?_
  exact ⟨rfl, Seen.set3 (SW.out.trans HB.out) (by omega)⟩
set_option maxHeartbeats 2000000 in
theorem solve_any (b : Bx) (w : World) :
    Calls Try.prog 7 #[bxv b] w fun e w' => e = .returned (.tuple #[o3v (solO b), .bool (solB b)]) ∧ Seen w w' := by
  have hmf : ∀ (fn : Fn) (first cap : Array Value) (w : World), (Instr.makeFunc fn first cap).run Try.prog w = .ok (.func fn first cap) w := fun _ _ _ _ => rfl
  have HF := Lib.hid (show solB b = (okF b && tryB b (lastS b)) ∧ solO b = (if okF b && tryB b (lastS b) then fillW b (lastS b) else zO) from ⟨rfl, rfl⟩)
  have HT := Lib.hid (show tryO b (lastS b) = if tryB b (lastS b) then fillW b (lastS b) else zO from rfl)
  have F := fun w => fitsIn_any b w
  have C := fun w => bsolve_any b w
  rw [HT.out] at C
  obtain ⟨f, hf⟩ : ∃ x, okF b = x := ⟨_, rfl⟩
  rw [HF.out.1, HF.out.2]
  rw [hf] at F
  rw [hf]
  clear hf HF HT
  obtain ⟨W, hW⟩ : ∃ W, W = (w.alloc (.cells (bxl b).toArray 25)).alloc (.cells #[.int .i64 0, .int .i64 0, .int .i64 0] 28) := ⟨_, rfl⟩
  have kb : Blk W w.heap.size (bxl b) 25 := by rw [hW]; exact (Blk.new w _ _).alloc _
  have ko : Blk W (w.heap.size + 1) [.int .i64 0, .int .i64 0, .int .i64 0] 28 := by rw [hW]; simpa using Blk.new (w.alloc (.cells (bxl b).toArray 25)) [.int .i64 0, .int .i64 0, .int .i64 0] 28
  have SW : Hid (Seen w W) := by rw [hW]; unfold Hid Seen; go_grown
  have HKO := Lib.hid ko
  have rb := kb.rulesB
  have sr := Seen.refl W
  clear ko
  cases f with
  | false =>
    have H0 := Lib.hid (show (if (false && tryB b (lastS b)) = true then fillW b (lastS b) else zO) = zO from rfl)
    rw [H0.out]
    clear C H0
    go_enter Try.func7, Try.ntmps7
    go_upto_region 1 with fail
    rw [← hW]
    clear hW
    go_wp2_with (go_at_call 10; refine (F _).mono ?_; clear F; rintro e w1 ⟨rfl, hb⟩; have HB := Lib.hid hb; clear hb; have ro := (HKO.out.seen HB.out).rules3 _ (Seen.refl _))
    have z := (((HKO.out.seen HB.out).set 0 (.int .i64 0)).set 1 (.int .i64 0)).set 2 (.int .i64 0)
    have z0 := z.cell 0
    have z1 := z.cell 1
    have z2 := z.cell 2
    refine bodyPost_ret (by simp [results, Try.results7, go_sem, z0, z1, z2]; try rfl) rfl ?_
    exact ⟨rfl, Seen.set3 (SW.out.trans HB.out) (by omega)⟩
  | true =>
    rw [Bool.true_and]
    obtain ⟨o, ho⟩ : ∃ x, (if tryB b (lastS b) = true then fillW b (lastS b) else zO) = x := ⟨_, rfl⟩
    obtain ⟨p, hp⟩ : ∃ x, tryB b (lastS b) = x := ⟨_, rfl⟩
    rw [ho, hp] at C
    rw [ho, hp]
    clear ho hp
    obtain ⟨l, m, r⟩ := o
    go_enter Try.func7, Try.ntmps7
    go_upto_region 1 with fail
    rw [← hW]
    clear hW
    go_wp2_with (first
      | (go_at_call 10; refine (F _).mono ?_; clear F; rintro e w1 ⟨rfl, hb⟩; have HB := Lib.hid hb; replace sr : Seen W w1 := hb; clear hb)
      | (go_at_call 11; refine (C _).mono ?_; clear C; rintro e w2 ⟨rfl, hb⟩; replace HB := Lib.hid (HB.out.trans hb); clear hb; have ro := (HKO.out.seen HB.out).rules3 _ (Seen.refl _)))
    have z := (((HKO.out.seen HB.out).set 0 (.int .i64 l)).set 1 (.int .i64 m)).set 2 (.int .i64 r)
    have z0 := z.cell 0
    have z1 := z.cell 1
    have z2 := z.cell 2
    refine bodyPost_ret (by simp [results, Try.results7, go_sem, z0, z1, z2]; try rfl) rfl ?_
    exact ⟨rfl, Seen.set3 (SW.out.trans HB.out) (by omega)⟩
/-- Two triples are alike. -/
def eqO (a b : O3) : Bool := decide (a.l = b.l ∧ a.w = b.w ∧ a.r = b.r)
theorem eqO_self (a : O3) : eqO a a = true := by simp [eqO]
theorem run_eql28 (w : World) (a b c x y z : Int) : (binOp .eql 28 (.agg #[.int .i64 a, .int .i64 b, .int .i64 c]) (.agg #[.int .i64 x, .int .i64 y, .int .i64 z])).run Try.prog w = .ok (.bool (eqO ⟨a, b, c⟩ ⟨x, y, z⟩)) w := by
  unfold eqO
  by_cases h1 : a = x
  · by_cases h2 : b = y
    · by_cases h3 : c = z
      · subst h1 h2 h3; go_simp
      · subst h1 h2; go_simp
    · subst h1; go_simp
  · go_simp
def auS : Sz := ⟨true, 0⟩
def boxA : Bx := ⟨100, ⟨true, 0⟩, ⟨false, 40⟩, ⟨true, 0⟩, 0, false, 0, 1000⟩
set_option maxHeartbeats 2000000 in
theorem awake_any (w : World) : Calls Try.prog 6 #[] w fun e w' => e = .returned (.bool true) ∧ Seen w w' := by
  have C := fun w => solve_any boxA w
  rw [show solO boxA = ⟨30, 40, 30⟩ by kernel_rfl, show solB boxA = true by kernel_rfl] at C
  have ee := run_eql28
  have hb0 : eqO ⟨30, 40, 30⟩ ⟨30, 40, 30⟩ = true := eqO_self _
  have acc := Seen.refl w
  go_enter Try.func6, Try.ntmps6
  go_wp2_with (go_at_call 7; refine (C _).mono ?_; clear C; rintro e w1 ⟨rfl, hb⟩; replace acc := acc.trans hb; clear hb)
  go_ret
  exact ⟨rfl, acc.alloc _⟩
end Go.Proofs.Ytimnhognjkgohaa
