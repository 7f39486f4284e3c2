/- Contract of Apart. -/
import Derived.Test.YtckfdlolmenigaaCovered
namespace Go.Proofs.Ytckfdlolmenigaa
open Go.ChangeShapes Go.WideShapes Go.ChangeAt Go.RowKit
def headA (ad : Option Addr) (c : Nat) : Option Addr := if c = 0 then ad else ad.map (·.add (0 * 4))
theorem run_head (ad : Option Addr) (n c k : Nat) (hk : k ≤ c) (w : World) : (Instr.slice 24 (.slice ad n c) none (some (.int .i64 (k : Int))) none).run Try.prog w = .ok (.slice (headA ad c) k c) w := by
  unfold headA
  go_simp
theorem run_headAt (ad : Option Addr) (n c k : Nat) (hk : k ≤ c) (w : World) : (Instr.sliceAt 24 (.slice ad n c) none (some (.int .i64 (k : Int))) none).run Try.prog w = .ok (.slice (headA ad c) k c) w := by
  unfold headA
  go_simp
theorem rat_take {rs : List R4} {k i : Nat} (h : i < k) : rat (rs.take k) i = rat rs i := by
  unfold rat; rw [List.getD_eq_getElem?_getD, List.getD_eq_getElem?_getD, List.getElem?_take, if_pos h]
theorem RS.head {W : World} {ad : Option Addr} {n k : Nat} {rs : List R4} (h : RS W ad n rs) (hk : k ≤ n) (c : Nat) : RS W (headA ad c) k (rs.take k) := by
  refine ⟨by rw [List.length_take, h.1]; omega, fun h0 => ?_⟩
  obtain ⟨b, off, rfl, hcs⟩ := h.2 (by omega)
  refine ⟨b, off, ?_, fun i hi => ?_⟩
  · unfold headA; split
    · rfl
    · rw [Option.map_some, add_plain]; simp
  · rw [rat_take hi]; exact hcs i (by omega)
theorem apart_no {rs : List R4} {k : Nat} (hk : k < rs.length) (hf : fmN (rat rs k) (rs.take k) < k) : apartB rs = false := by
  cases h : apartB rs with
  | false => rfl
  | true =>
    rw [apartB_iff] at h
    have h1 := fmN_hit (r := rat rs k) (l := rs.take k) (by rw [List.length_take]; omega)
    rw [rat_take hf] at h1
    have h2 := h k hk _ hf
    unfold meetsB at h1; rw [h2] at h1; cases h1
theorem apart_step {rs : List R4} {k : Nat} (hk : k < rs.length) (hf : ¬ fmN (rat rs k) (rs.take k) < k) (hb : ∀ j, j < k → ∀ i, i < j → emptyB (meetR (rat rs j) (rat rs i)) = true) : ∀ j, j < k + 1 → ∀ i, i < j → emptyB (meetR (rat rs j) (rat rs i)) = true := by
  intro j hj i hi
  rcases Nat.lt_succ_iff_lt_or_eq.1 hj with h | rfl
  · exact hb j h i hi
  · have h1 := fmN_none (r := rat rs j) (l := rs.take j) (k := i) (by omega)
    rw [rat_take hi] at h1
    unfold meetsB at h1; simpa using h1
set_option maxHeartbeats 4000000 in
theorem apart_any (ad : Option Addr) (n c : Nat) (rs : List R4) (w : World) (h : RS w ad n rs) (hn : n ≤ 1000000) (hc : n ≤ c) :
    Calls Try.prog 13 #[.slice ad n c] w fun e w' => e = .returned (.bool (apartB rs)) ∧ Below w.heap.size w w' := by
  have HR := Lib.hid h
  clear h
  go_enter Try.func13, Try.ntmps13
  go_wp2_with fail
  go_loopw [7] (fun i wr => ∃ k : Nat, k ≤ n ∧ i = .int .i64 k ∧ (∀ j, j < k → ∀ i, i < j → emptyB (meetR (rat rs j) (rat rs i)) = true) ∧ Seen w wr) (fun i _ => n - (intOf i).toNat)
  case atStart => exact ⟨0, Nat.zero_le _, rfl, fun j hj => absurd hj (Nat.not_lt_zero _), Seen.refl _⟩
  case round =>
    obtain ⟨k, hk, rfl, hno, hs⟩ := hrel
    have HN := Lib.hid hno
    clear hno
    by_cases hlt : k < n
    · obtain ⟨b1, o1, rfl, hc1⟩ := HR.out.2 (by omega)
      obtain ⟨p0, p1, p2, p3⟩ := hs.at4 (hc1 k hlt)
      clear hc1
      obtain ⟨W, hW⟩ : ∃ W, W = wr.alloc (.cells #[.int .i64 (rat rs k).x0, .int .i64 (rat rs k).y0, .int .i64 (rat rs k).x1, .int .i64 (rat rs k).y1] 23) := ⟨_, rfl⟩
      have hsW : Seen w W := by rw [hW]; exact hs.alloc _
      have be := Box.rules (show Box W wr.heap.size (rat rs k) by rw [hW]; exact box_new wr _)
      have HW := Lib.hid hW
      have HRH := Lib.hid ((HR.out.seen hsW).head (Nat.le_of_lt hlt) c)
      obtain ⟨f, hf⟩ : ∃ f, fmN (rat rs k) (rs.take k) = f := ⟨_, rfl⟩
      have HF := Lib.hid hf
      have hkl : k < rs.length := by rw [HR.out.1]; exact hlt
      have htl := run_head (some ⟨b1, o1, none⟩) n c k (by omega)
      have htl2 := run_headAt (some ⟨b1, o1, none⟩) n c k (by omega)
      by_cases hfk : f < k
      · have HA : Hid (apartB rs = false) := apart_no hkl (hf ▸ hfk)
        clear hW hf
        go_wp2_with fail
        rw [← HW.out]
        clear HW p0 p1 p2 p3 hs
        refine wp_region_quiet (C := Seen W) (by kernel_rfl) (by kernel_rfl) (Seen.drew (Seen.refl _)) ?_
        simp only []
        repeat (first
          | go_big_quiet_skip
          | (go_big_quiet_want
             apply Exists.intro
             refine ⟨fun w1 h1 => ?_, ?_⟩
             focus
               go_simp
               first | done | rfl | (go_at_call 23; with_reducible exact quiet_call h1 (isI (fm_any (rat rs k) _ _ _ (rs.take k) _ (HRH.out.seen h1) (by omega)) (congrArg Nat.cast HF.out)))
             (try simp only [Act.put, List.setIfInBounds_toArray, List.set_cons_zero, List.set_cons_succ])
             go_big_quiet_on))
        refine wpQuiet_nil ?_
        intro w3 h3
        clear htl htl2
        go_wp2_with fail
        go_ret
        exact ⟨ret_bool HA.out.symm, hsW.trans h3⟩
      · have HN2 := Lib.hid (apart_step hkl (hf ▸ hfk) HN.out)
        clear hW hf
        go_wp2_with fail
        rw [← HW.out]
        clear HW p0 p1 p2 p3 hs
        refine wp_region_quiet (C := Seen W) (by kernel_rfl) (by kernel_rfl) (Seen.drew (Seen.refl _)) ?_
        simp only []
        repeat (first
          | go_big_quiet_skip
          | (go_big_quiet_want
             apply Exists.intro
             refine ⟨fun w1 h1 => ?_, ?_⟩
             focus
               go_simp
               first | done | rfl | (go_at_call 23; with_reducible exact quiet_call h1 (isI (fm_any (rat rs k) _ _ _ (rs.take k) _ (HRH.out.seen h1) (by omega)) (congrArg Nat.cast HF.out)))
             (try simp only [Act.put, List.setIfInBounds_toArray, List.set_cons_zero, List.set_cons_succ])
             go_big_quiet_on))
        refine wpQuiet_nil ?_
        intro w3 h3
        clear htl htl2
        go_wp2_with fail
        go_roundw
        case rel => exact ⟨k + 1, by omega, by go_num, HN2.out, hsW.trans h3⟩
        case measure => simp [intOf]; omega
    · have HA : Hid (apartB rs = true) := by
        unfold Hid
        rw [apartB_iff]
        intro j hj i hi
        exact HN.out j (by rw [HR.out.1] at hj; omega) i hi
      go_wp2_with fail
      go_ret
      exact ⟨ret_bool HA.out.symm, hs⟩
end Go.Proofs.Ytckfdlolmenigaa
