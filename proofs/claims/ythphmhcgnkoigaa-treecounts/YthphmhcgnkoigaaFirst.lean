/- Contract of fromFirstByte; no conditions beyond those written in each theorem. -/
import Derived.Test.YthphmhcgnkoigaaAwake
namespace Go.Proofs.Ythphmhcgnkoigaa
open Go.ChangeShapes Go.WideShapes Go.ChangeAt Go.RowKit
set_option maxRecDepth 100000
theorem and_bit {b : Int} (h0 : 0 ≤ b) (h1 : b < 256) : (bits .and .u8 b 1 != 0) = (b % 2 == 1) ∧ (bits .and .u8 b 8 != 0) = (b / 8 % 2 == 1) ∧ (bits .and .u8 b 16 != 0) = (b / 16 % 2 == 1) ∧ (bits .and .u8 b 32 != 0) = (b / 32 % 2 == 1) := by
  rw [u8_and b 1 h0 h1 (by omega) (by omega), u8_and b 8 h0 h1 (by omega) (by omega), u8_and b 16 h0 h1 (by omega) (by omega), u8_and b 32 h0 h1 (by omega) (by omega)]
  obtain ⟨n, rfl⟩ := Int.eq_ofNat_of_zero_le h0
  have hn : n < 256 := by omega
  have key : ∀ m : Fin 256, ((((m.val &&& 1 : Nat) : Int) != 0) = ((m.val : Int) % 2 == 1)) ∧ ((((m.val &&& 8 : Nat) : Int) != 0) = ((m.val : Int) / 8 % 2 == 1)) ∧ ((((m.val &&& 16 : Nat) : Int) != 0) = ((m.val : Int) / 16 % 2 == 1)) ∧ ((((m.val &&& 32 : Nat) : Int) != 0) = ((m.val : Int) / 32 % 2 == 1)) := by decide +kernel
  exact key ⟨n, hn⟩
theorem pos_bits (b : Int) : b % 8 / 2 = b / 2 % 4 := by omega
theorem mk_lit (f : Int) : (#[.bool (f % 2 == 1), .int .i64 (f / 2 % 4), .int .i64 0, .int .i64 0, .int .i64 0, .int .i64 0, .int .i64 0, .int .i64 0, .int .i64 0, .int .i64 0, .int .i64 0, .int .i64 0, .int .i64 0, .int .i64 0, .int .i64 0, .int .i64 0, .int .i64 0, .int .i64 0, .int .i64 0, .int .i64 0, .int .i64 0, .int .i64 0, .int .i64 0, .int .i64 0, .int .i64 0, .int .i64 0, .int .i64 0, .int .i64 0, .int .i64 0, .int .i64 0, .int .i64 0, .int .i64 0, .int .i64 0, .int .i64 0, .int .i64 0, .int .i64 0, .int .i64 0, .int .i64 0, .int .i64 0, .int .i64 0, .int .i64 0, .int .i64 0, .bool (f / 8 % 2 == 1), .bool (f / 16 % 2 == 1), .int .i64 0, .bool (f / 32 % 2 == 1), .int .i64 0, .int .i64 0] : Array Value) = (stl (mkS f [] [] 0 0 0)).toArray := rfl
set_option maxRecDepth 100000 in
set_option maxHeartbeats 4000000 in
theorem first_any (b : Int) (h0 : 0 ≤ b) (h1 : b < 256) (w : World) : Calls Try.prog 64 #[.int .u8 b] w fun e w' => e = .returned (sv (mkS b [] [] 0 0 0)) ∧ Seen w w' := by
  obtain ⟨e1, e2, e3, e4⟩ := and_bit h0 h1
  have e5 := pos_bits b
  obtain ⟨W, hW⟩ : ∃ W, W = w.alloc (.cells (stl zeroS).toArray 47) := ⟨_, rfl⟩
  have HZ : Hid (Hs W w.heap.size zeroS) := by rw [hW]; exact hs_new w zeroS
  have SW : Hid (Seen w W) := by rw [hW]; exact (Seen.refl w).alloc _
  go_enter Try.func64, Try.ntmps64
  go_wp2_with (rw [zero_lit, ← hW]; refine wpList_storeS rfl _ _ rfl w.heap.size zeroS (mkS b [] [] 0 0 0) rfl rfl (mkS_full (by simp) (by simp)) zero_full HZ.out ?_; intro w1 hs1 ht1; have R1 := Lib.hid (And.intro hs1 ht1); clear hs1 ht1 hW)
  refine bodyPost_ret (results_cell Try.results64 rfl (run_loadS R1.out.1 (mkS_full (by simp) (by simp)))) rfl ?_
  exact ⟨rfl, SW.out.turns R1.out.2 (Nat.le_refl _)⟩
end Go.Proofs.Ythphmhcgnkoigaa
