/- Contract of firstMeeting: the first element that has a point in common with a rectangle. -/
import Derived.Test.YtckfdlolmenigaaStack
namespace Go.Proofs.Ytckfdlolmenigaa
open Go.ChangeShapes Go.WideShapes Go.ChangeAt Go.RowKit
theorem ret_int {a b : Int} (h : a = b) : Ending.returned (.int .i64 a) = .returned (.int .i64 b) := by rw [h]
set_option maxHeartbeats 4000000 in
theorem fm_any (r : R4) (ad : Option Addr) (n c : Nat) (rs : List R4) (w : World) (h : RS w ad n rs) (hn : n ≤ 4000000) :
    Calls Try.prog 23 #[.agg #[.int .i64 r.x0, .int .i64 r.y0, .int .i64 r.x1, .int .i64 r.y1], .slice ad n c] w fun e w' => e = .returned (.int .i64 (fmN r rs : Int)) ∧ Below w.heap.size w w' := by
  have HR := Lib.hid h
  clear h
  obtain ⟨W0, hW0⟩ : ∃ W0, W0 = w.alloc (.cells #[.int .i64 r.x0, .int .i64 r.y0, .int .i64 r.x1, .int .i64 r.y1] 23) := ⟨_, rfl⟩
  have br := Box.rules (show Box W0 w.heap.size r by rw [hW0]; exact box_new w r)
  have s0 : Seen w W0 := by rw [hW0]; exact (Seen.refl w).alloc _
  go_enter Try.func23, Try.ntmps23
  go_wp2_with fail
  rw [← hW0]
  clear hW0
  go_loopw [9] (fun i wr => ∃ k : Nat, k ≤ n ∧ i = .int .i64 k ∧ (∀ j, j < k → meetsB r (rat rs j) = false) ∧ Seen W0 wr) (fun i _ => n - (intOf i).toNat)
  case atStart => exact ⟨0, Nat.zero_le _, rfl, fun j hj => absurd hj (Nat.not_lt_zero _), Seen.refl _⟩
  case round =>
    obtain ⟨k, hk, rfl, hno, hs⟩ := hrel
    have HN := Lib.hid hno
    clear hno
    by_cases hlt : k < n
    · obtain ⟨b1, o1, rfl, hc1⟩ := HR.out.2 (by omega)
      obtain ⟨p0, p1, p2, p3⟩ := (s0.trans hs).at4 (hc1 k hlt)
      clear hc1
      obtain ⟨W, hW⟩ : ∃ W, W = wr.alloc (.cells #[.int .i64 (rat rs k).x0, .int .i64 (rat rs k).y0, .int .i64 (rat rs k).x1, .int .i64 (rat rs k).y1] 23) := ⟨_, rfl⟩
      have hsW : Seen W0 W := by rw [hW]; exact hs.alloc _
      have be := Box.rules (show Box W wr.heap.size (rat rs k) by rw [hW]; exact box_new wr _)
      have sW := Seen.refl W
      have HW : Hid (W = wr.alloc (.cells #[.int .i64 (rat rs k).x0, .int .i64 (rat rs k).y0, .int .i64 (rat rs k).x1, .int .i64 (rat rs k).y1] 23)) := hW
      clear hW
      obtain ⟨q0, q1, q2, q3⟩ := br _ (hs.alloc (.cells #[.int .i64 (rat rs k).x0, .int .i64 (rat rs k).y0, .int .i64 (rat rs k).x1, .int .i64 (rat rs k).y1] 23))
      go_wp2_with fail
      rw [← HW.out]
      clear HW p0 p1 p2 p3 q0 q1 q2 q3 hs
      refine (meet_any r (rat rs k) _).mono ?_
      rintro e wA ⟨rfl, hA⟩
      have sA : Seen W wA := hA
      have tA : Seen W0 wA := hsW.trans sA
      clear hA
      go_wp2_with fail
      cases hm : meetsB r (rat rs k) with
      | true =>
        have HE : Hid (emptyB (meetR r (rat rs k)) = false) := by unfold Hid; unfold meetsB at hm; simpa using hm
        have HF : Hid ((fmN r rs : Int) = (k : Int)) := by unfold Hid; rw [fmN_at (by rw [HR.out.1]; exact hlt) hm HN.out]
        clear hm
        refine (isB (empty_any (meetR r (rat rs k)) _) HE.out).mono ?_
        rintro e wB ⟨rfl, hB⟩
        have tB : Seen W0 wB := tA.next hB
        clear hB
        go_wp2_with fail
        go_ret
        exact ⟨ret_int HF.out.symm, s0.trans tB⟩
      | false =>
        have HE : Hid (emptyB (meetR r (rat rs k)) = true) := by unfold Hid; unfold meetsB at hm; simpa using hm
        have HN2 : Hid (∀ j, j < k + 1 → meetsB r (rat rs j) = false) := fun j hj => by
          rcases Nat.lt_succ_iff_lt_or_eq.1 hj with h1 | h1
          · exact HN.out j h1
          · rw [h1]; exact hm
        clear hm
        refine (isB (empty_any (meetR r (rat rs k)) _) HE.out).mono ?_
        rintro e wB ⟨rfl, hB⟩
        have tB : Seen W0 wB := tA.next hB
        clear hB
        go_wp2_with fail
        go_roundw
        case rel => exact ⟨k + 1, by omega, by go_num, HN2.out, tB⟩
        case measure => simp [intOf]; omega
    · have HF : Hid ((fmN r rs : Int) = (n : Int)) := by
        unfold Hid
        rw [fmN_end (fun i hi => HN.out i (by rw [HR.out.1] at hi; omega)), HR.out.1]
      go_wp2_with fail
      go_ret
      exact ⟨ret_int HF.out.symm, s0.trans hs⟩
end Go.Proofs.Ytckfdlolmenigaa
