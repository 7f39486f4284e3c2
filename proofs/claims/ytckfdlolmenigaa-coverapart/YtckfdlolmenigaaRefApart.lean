/- Contract of Apart's reference twin. -/
import Derived.Test.YtckfdlolmenigaaApart
import Derived.Test.YtckfdlolmenigaaRefMeet
namespace Go.Proofs.Ytckfdlolmenigaa
open Go.ChangeShapes Go.WideShapes Go.ChangeAt Go.RowKit
set_option maxHeartbeats 4000000 in
theorem refApart_any (ad : Option Addr) (n c : Nat) (rs : List R4) (w : World) (h : RS w ad n rs) (hn : n ≤ 1000000) :
    Calls Try.prog 16 #[.slice ad n c] w fun e w' => e = .returned (.bool (apartB rs)) ∧ Below w.heap.size w w' := by
  have HR := Lib.hid h
  clear h
  go_enter Try.func16, Try.ntmps16
  go_wp2_with fail
  go_loopw [7] (fun i wr => ∃ k : Nat, k ≤ n ∧ i = .int .i64 k ∧ (∀ j, j < k → ∀ i, i < j → emptyB (meetR (rat rs j) (rat rs i)) = true) ∧ Seen w wr) (fun i _ => n - (intOf i).toNat)
  case atStart => exact ⟨0, Nat.zero_le _, rfl, fun j hj => absurd hj (Nat.not_lt_zero _), Seen.refl _⟩
  case round =>
    obtain ⟨k, hk, rfl, hno, hs⟩ := hrel
    have HN := Lib.hid hno
    have HS := Lib.hid hs
    clear hno hs
    by_cases hlt : k < n
    · obtain ⟨b1, o1, rfl, hc1⟩ := HR.out.2 (by omega)
      have rk := At4.rules (hc1 k hlt)
      have HC := Lib.hid hc1
      clear hc1
      go_wp2_with fail
      go_loopw [11] (fun i wr2 => ∃ j : Nat, j ≤ k ∧ i = .int .i64 j ∧ (∀ i, i < j → emptyB (meetR (rat rs k) (rat rs i)) = true) ∧ Seen w wr2) (fun i _ => k - (intOf i).toNat)
      case atStart => exact ⟨0, Nat.zero_le _, rfl, fun j hj => absurd hj (Nat.not_lt_zero _), HS.out⟩
      case round =>
        rename_i wr2 _
        obtain ⟨j, hj, rfl, hno2, hs2⟩ := hrel
        have HN2 := Lib.hid hno2
        clear hno2
        by_cases hjk : j < k
        · have hjn : j < n := by omega
          have rj := At4.rules (HC.out j hjn)
          have hsd := hs2.drew
          cases hm : emptyB (meetR (rat rs j) (rat rs k)) with
          | false =>
            have HE := Lib.hid hm
            have HA : Hid (apartB rs = false) := by
              unfold Hid
              cases h : apartB rs with
              | false => rfl
              | true =>
                rw [apartB_iff] at h
                have h2 := h k (by rw [HR.out.1]; exact hlt) j hjk
                rw [meet_empty_comm, hm] at h2; cases h2
            clear hm
            go_wp2_with fail
            refine wp_region_quiet (C := Seen w) (by kernel_rfl) (by kernel_rfl) hsd ?_
            simp only []
            repeat (first
              | go_big_quiet_skip
              | (go_big_quiet_want
                 apply Exists.intro
                 refine ⟨fun w1 h1 => ?_, ?_⟩
                 focus
                   go_simp
                   first | done | rfl | (go_at_call 25; with_reducible exact quiet_call h1 (refMeet_any (rat rs j) (rat rs k) _)) | (go_at_call 21; with_reducible exact quiet_call h1 (isB (refEmpty_any (meetR (rat rs j) (rat rs k)) _) HE.out))
                 (try simp only [Act.put, List.setIfInBounds_toArray, List.set_cons_zero, List.set_cons_succ])
                 go_big_quiet_on))
            refine wpQuiet_nil ?_
            intro w3 h3
            go_wp2_with fail
            go_ret
            exact ⟨ret_bool HA.out.symm, h3⟩
          | true =>
            have HE := Lib.hid hm
            have HN3 : Hid (∀ i, i < j + 1 → emptyB (meetR (rat rs k) (rat rs i)) = true) := fun i hi => by
              rcases Nat.lt_succ_iff_lt_or_eq.1 hi with h | rfl
              · exact HN2.out i h
              · rw [meet_empty_comm]; exact hm
            clear hm
            go_wp2_with fail
            refine wp_region_quiet (C := Seen w) (by kernel_rfl) (by kernel_rfl) hsd ?_
            simp only []
            repeat (first
              | go_big_quiet_skip
              | (go_big_quiet_want
                 apply Exists.intro
                 refine ⟨fun w1 h1 => ?_, ?_⟩
                 focus
                   go_simp
                   first | done | rfl | (go_at_call 25; with_reducible exact quiet_call h1 (refMeet_any (rat rs j) (rat rs k) _)) | (go_at_call 21; with_reducible exact quiet_call h1 (isB (refEmpty_any (meetR (rat rs j) (rat rs k)) _) HE.out))
                 (try simp only [Act.put, List.setIfInBounds_toArray, List.set_cons_zero, List.set_cons_succ])
                 go_big_quiet_on))
            refine wpQuiet_nil ?_
            intro w3 h3
            go_wp2_with fail
            go_roundw
            case rel => exact ⟨j + 1, by omega, by go_num, HN3.out, h3⟩
            case measure => simp [intOf]; omega
        · have HN4 : Hid (∀ j, j < k + 1 → ∀ i, i < j → emptyB (meetR (rat rs j) (rat rs i)) = true) := fun j' hj' i hi => by
            rcases Nat.lt_succ_iff_lt_or_eq.1 hj' with h | rfl
            · exact HN.out j' h i hi
            · exact HN2.out i (by omega)
          go_wp2_with fail
          go_roundw
          case rel => exact ⟨k + 1, by omega, by go_num, HN4.out, hs2⟩
          case measure => simp [intOf]; omega
    · have HA : Hid (apartB rs = true) := by
        unfold Hid
        rw [apartB_iff]
        intro j hj i hi
        exact HN.out j (by rw [HR.out.1] at hj; omega) i hi
      go_wp2_with fail
      go_ret
      exact ⟨ret_bool HA.out.symm, HS.out⟩
end Go.Proofs.Ytckfdlolmenigaa
