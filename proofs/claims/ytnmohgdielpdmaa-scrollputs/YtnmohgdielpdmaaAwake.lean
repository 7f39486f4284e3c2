/- Contract of awake: it answers true and turns nothing that was there. -/
import Derived.Test.YtnmohgdielpdmaaTake
namespace Go.Proofs.Ytnmohgdielpdmaa
open Go.ChangeShapes Go.WideShapes Go.ChangeAt Go.RowKit
theorem Turns.below {B n : Nat} {w w' : World} (h : Turns B w w') (hn : n ≤ w.heap.size) (hB : n ≤ B) : Below n w w' := Moves.below h hn (fun k hk => by rw [hk]; exact hB)
theorem be258 : be (258 % 18446744073709551616) 4 = [0, 0, 1, 2] := by decide
set_option maxHeartbeats 4000000 in
theorem awake_any (w : World) : Calls Try.prog 7 #[] w fun e w' => e = .returned (.bool true) ∧ Below w.heap.size w w' := by
  obtain ⟨W, hW⟩ : ∃ W, W = w.alloc (.cells #[.slice none 0 0] 26) := ⟨_, rfl⟩
  have H0 : Hid (OS w.heap.size w.heap.size (fun k => k = w.heap.size) [] W) := by rw [hW]; exact os_new w _
  have HB : Hid (Below w.heap.size w W) := by rw [hW]; exact (Seen.refl w).alloc _
  have HWS : Hid (w.heap.size ≤ W.heap.size) := HB.out.size
  go_enter Try.func7, Try.ntmps7
  go_wp2_with (first
    | (go_at_call 9; rw [← hW]; clear hW; refine (oFour_any w.heap.size w.heap.size (fun k => k = w.heap.size) [] 258 W H0.out HWS.out (by simp)).mono ?_; rintro e w1 ⟨rfl, T1, mv1, hs1⟩; rw [be258] at hs1; have H1 := Lib.hid hs1; have M1 := Lib.hid mv1; clear mv1 hs1)
    | (go_at_call 12; refine (bytes_any _ _ T1 _ w1 H1.out (by simp)).mono ?_; rintro e w2 ⟨⟨v2, rfl, ho2⟩, hs2⟩; obtain ⟨a2, c2, rfl, hb2, _, hc2⟩ := bs_of_own ho2 rfl; have S2 := Lib.hid hs2; have B2 := Lib.hid (And.intro hb2 hc2); clear hs2 ho2 hb2 hc2)
    | (go_at_call 13; refine (newIn_any a2 4 c2 [0, 0, 1, 2] w2 B2.out.1 (by unfold Bytes8; decide) B2.out.2 (by omega)).mono ?_; rintro e w3 ⟨B, K, rfl, hi3, hk3, hs3⟩; have I3 := Lib.hid hi3; have K3 := Lib.hid (And.intro hk3 hs3); clear hi3 hk3 hs3)
    | (go_at_call 16; refine (iFour_any I3.out).mono ?_; rintro e w4 ⟨rfl, ht4, hi4⟩; have e4 : tkV 4 [0, 0, 1, 2] = 258 := by decide
       rw [e4]
       have I4 : Hid (IS K B [] false w4) := hi4
       have T4 := Lib.hid ht4; clear ht4 hi4 e4)
    | (go_at_call 21; refine (done_any I4.out).mono ?_; rintro e w5 ⟨rfl, rfl⟩))
  go_ret
  have b1 : w.heap.size ≤ w1.heap.size := Nat.le_trans HWS.out M1.out.size
  have b2 : w.heap.size ≤ w2.heap.size := Nat.le_trans b1 S2.out.size
  have b3 : w.heap.size ≤ w3.heap.size := Nat.le_trans b2 K3.out.2.size
  refine ⟨rfl, (((HB.out.trans (M1.out.below HWS.out (fun k hk => Nat.le_of_eq hk.symm))).trans (S2.out.mono b1)).trans (K3.out.2.mono b2)).trans (T4.out.below b3 (Nat.le_trans b2 (K3.out.1 _ I3.out.1)))⟩
end Go.Proofs.Ytnmohgdielpdmaa
