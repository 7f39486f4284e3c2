/- Contracts of small functions that layer 15 calls; no conditions. -/
import Derived.Test.YtlnnaegmcopiiaaPfM
import Derived.Test.YtlnnaegmcopiiaaBlk
import Derived.Deep.DeepCutAuto
namespace Go.Proofs.Ytlnnaegmcopiiaa
open Go.ChangeShapes Go.WideShapes Go.ChangeAt Go.RowKit
set_option maxRecDepth 100000
theorem clamp_seen (n l m : Int) (w : World) :
    Calls Try.prog 21 #[.int .i64 n, .int .i64 l, .int .i64 m] w fun e w' => e = .returned (.int .i64 (clampI n l m)) ∧ Seen w w' := by
  have H := Lib.hid (show clampI n l m = max (min n m) l from rfl)
  go_enter Try.func21, Try.ntmps21
  go_wp2
  all_goals
    go_ret
    exact ⟨ret_int (by rw [H.out]; omega), Seen.refl _⟩
theorem refClamp_seen (n l m : Int) (w : World) :
    Calls Try.prog 27 #[.int .i64 n, .int .i64 l, .int .i64 m] w fun e w' => e = .returned (.int .i64 (clampI n l m)) ∧ Seen w w' := by
  have H := Lib.hid (show clampI n l m = max (min n m) l from rfl)
  go_enter Try.func27, Try.ntmps27
  go_wp2
  all_goals
    go_ret
    exact ⟨ret_int (by rw [H.out]; omega), Seen.refl _⟩
theorem units_in (k n o : Int) (w : World) :
    Calls Try.prog 22 #[.agg #[.int .i64 k, .int .i64 n], .int .i64 o] w fun e w' => e = .returned (.int .i64 (uN ⟨k, n⟩ o)) ∧ Seen w w' := by
  have HV := Lib.hid (show uN ⟨k, n⟩ o = if k = 1 then n else o from rfl)
  obtain ⟨W, hW⟩ : ∃ W, W = w.alloc (.cells #[.int .i64 k, .int .i64 n] 35) := ⟨_, rfl⟩
  have r := (show Blk W w.heap.size [.int .i64 k, .int .i64 n] 35 by rw [hW]; exact Blk.new w _ _).rules2 W (Seen.refl W)
  have SW : Hid (Seen w W) := by rw [hW]; exact (Seen.refl w).alloc _
  by_cases hk : k = 1
  · rw [HV.out, if_pos hk]
    subst hk
    go_enter Try.func22, Try.ntmps22
    go_upto_region 1 with fail
    rw [← hW]
    clear hW
    go_wp2_with fail
    go_ret
    exact ⟨rfl, SW.out⟩
  · rw [HV.out, if_neg hk]
    have hkb : (k == 1) = false := by simpa using hk
    go_enter Try.func22, Try.ntmps22
    go_upto_region 1 with fail
    rw [← hW]
    clear hW
    go_wp2_with fail
    go_ret
    exact ⟨rfl, SW.out⟩
theorem units_ref (k n o : Int) (w : World) :
    Calls Try.prog 26 #[.agg #[.int .i64 k, .int .i64 n], .int .i64 o] w fun e w' => e = .returned (.int .i64 (uN ⟨k, n⟩ o)) ∧ Seen w w' := by
  have HV := Lib.hid (show uN ⟨k, n⟩ o = if k = 1 then n else o from rfl)
  obtain ⟨W, hW⟩ : ∃ W, W = w.alloc (.cells #[.int .i64 k, .int .i64 n] 35) := ⟨_, rfl⟩
  have r := (show Blk W w.heap.size [.int .i64 k, .int .i64 n] 35 by rw [hW]; exact Blk.new w _ _).rules2 W (Seen.refl W)
  have SW : Hid (Seen w W) := by rw [hW]; exact (Seen.refl w).alloc _
  by_cases hk : k = 1
  · rw [HV.out, if_pos hk]
    subst hk
    go_enter Try.func26, Try.ntmps26
    go_upto_region 1 with fail
    rw [← hW]
    clear hW
    go_wp2_with fail
    go_ret
    exact ⟨rfl, SW.out⟩
  · rw [HV.out, if_neg hk]
    have hkb : (k == 1) = false := by simpa using hk
    go_enter Try.func26, Try.ntmps26
    go_upto_region 1 with fail
    rw [← hW]
    clear hW
    go_wp2_with fail
    go_ret
    exact ⟨rfl, SW.out⟩
end Go.Proofs.Ytlnnaegmcopiiaa
