/- Contracts of Join and of its reference twin, for up to 8 rectangles. -/
import Derived.Test.YtckfdlolmenigaaRefRest
namespace Go.Proofs.Ytckfdlolmenigaa
open Go.ChangeShapes Go.WideShapes Go.ChangeAt Go.RowKit
theorem row_capJ {w : World} {base e size m : Nat} {a : Option Addr} {c : Nat} {xs : List Value} (h : w.ownsRow base e size (.slice a m c) m xs) : m ≤ c := by
  rcases h.2 with ⟨h1, h2⟩ | ⟨g, cap, cur, h1, _, _, h2, _⟩
  · cases h1; omega
  · cases h1; exact h2
theorem join_small {rs : List R4} {k n : Nat} (h : rs.length = n) (hk : k ≤ n) (hn : n ≤ 8) : (joinTo rs k).length ≤ 256 := by
  have h1 := join_length rs k (by omega)
  have h2 : (2 * rs.length) * (2 * rs.length) ≤ 16 * 16 := Nat.mul_le_mul (by omega) (by omega)
  omega
theorem rest_small {r : R4} {l : List R4} (h : l.length ≤ 256) : (restOf r l).length ≤ 264196 := by
  have h1 := restOf_length r l
  have h2 : (2 * l.length + 2) * (2 * l.length + 2) ≤ 514 * 514 := Nat.mul_le_mul (by omega) (by omega)
  omega
set_option maxHeartbeats 4000000 in
theorem join_any (ad : Option Addr) (n c : Nat) (rs : List R4) (w : World) (h : RS w ad n rs) (hn : n ≤ 8) :
    Calls Try.prog 17 #[.slice ad n c] w (RowPost (joinTo rs n) w) := by
  obtain ⟨i0, hi0, hz0, hz1, hz2⟩ := info_parts info23
  have HR := Lib.hid h
  clear h
  go_enter Try.func17, Try.ntmps17
  go_wp2_with fail
  go_loopw [3, 8] (fun v i wr => ∃ k : Nat, k ≤ n ∧ i = .int .i64 k ∧ wr.ownsRow w.heap.size 23 4 v (joinTo rs k).length (flat (joinTo rs k)) ∧ Seen w wr) (fun _ i _ => n - (intOf i).toNat)
  case atStart => exact ⟨0, Nat.zero_le _, rfl, World.ownsRow_nil _ _ _ _, Seen.refl _⟩
  case round =>
    obtain ⟨k, hk, rfl, hown, hs⟩ := hrel
    by_cases hlt : k < n
    · obtain ⟨b1, o1, rfl, hc1⟩ := HR.out.2 (by omega)
      obtain ⟨p0, p1, p2, p3⟩ := hs.at4 (hc1 k hlt)
      clear hc1
      obtain ⟨m, hm⟩ : ∃ m, (joinTo rs k).length = m := ⟨_, rfl⟩
      have hm4 : m ≤ 256 := by rw [← hm]; exact join_small HR.out.1 hk hn
      rw [hm] at hown
      obtain ⟨a3, c3, rfl, hrs3⟩ := rs_of_own hown hm
      have hmc : m ≤ c3 := row_capJ hown
      have HO := Lib.hid hown
      have HM := Lib.hid hm
      have HR3 := Lib.hid hrs3
      obtain ⟨W, hW⟩ : ∃ W, W = wr.alloc (.cells #[.int .i64 (rat rs k).x0, .int .i64 (rat rs k).y0, .int .i64 (rat rs k).x1, .int .i64 (rat rs k).y1] 23) := ⟨_, rfl⟩
      have hsW : Seen wr W := by rw [hW]; exact (Seen.refl wr).alloc _
      have be := Box.rules (show Box W wr.heap.size (rat rs k) by rw [hW]; exact box_new wr _)
      have sW := Seen.refl W
      have HW := Lib.hid hW
      clear hW hown hm hrs3
      go_wp2_with fail
      rw [← HW.out]
      clear HW p0 p1 p2 p3
      refine (rest_any (rat rs k) a3 m c3 (joinTo rs k) _ (HR3.out.seen hsW) (by omega) hmc).mono ?_
      rintro e w4 ⟨⟨v4, rfl, hown4⟩, hb4⟩
      have s4 : Seen wr w4 := hsW.next hb4
      have hr4 : (restOf (rat rs k) (joinTo rs k)).length ≤ 264196 := rest_small (by rw [HM.out]; exact hm4)
      have HN4 := Lib.hid hown4
      clear hown4 hb4
      go_wp2_with (at_builtin; refine wpList_append_rows _ rfl _ _ 24 rfl 23 i0 (.agg #[.int .i64 0, .int .i64 0, .int .i64 0, .int .i64 0]) 4 32 Try.underlying24 hi0 hz0 hz1 hz2 rfl (by decide) w.heap.size W.heap.size (.slice a3 m c3) _ _ rfl (row_seen HO.out s4) v4 _ _ rfl HN4.out (flat_one _) (by unfold maxLen; omega) (by omega) (Nat.le_trans hs.size s4.size) ?_; intro v5 w5 hown5 hgr5 hat5; have HN5 := Lib.hid (And.intro hown5 hgr5); clear hown5 hgr5 hat5)
      go_roundw
      case rel =>
        obtain ⟨hown5, hgr5⟩ := HN5.out
        refine ⟨k + 1, by omega, by go_num, ?_, ?_⟩
        · show World.ownsRow _ _ _ _ _ (joinTo rs k ++ restOf (rat rs k) (joinTo rs k)).length (flat (joinTo rs k ++ restOf (rat rs k) (joinTo rs k)))
          rw [flat_append, List.length_append, HM.out]; exact hown5
        · exact Below.grown (hs.trans s4) hgr5 (Nat.le_trans hs.size s4.size) (fun j hj => (HO.out.lt j hj).1)
      case measure => simp [intOf]; omega
    · obtain rfl : k = n := by omega
      have HO := Lib.hid hown
      clear hown
      go_wp2_with fail
      go_ret
      exact ⟨⟨_, rfl, HO.out⟩, hs⟩
set_option maxHeartbeats 4000000 in
theorem refJoin_any (ad : Option Addr) (n c : Nat) (rs : List R4) (w : World) (h : RS w ad n rs) (hn : n ≤ 8) :
    Calls Try.prog 18 #[.slice ad n c] w (RowPost (joinTo rs n) w) := by
  obtain ⟨i0, hi0, hz0, hz1, hz2⟩ := info_parts info23
  have HR := Lib.hid h
  clear h
  go_enter Try.func18, Try.ntmps18
  go_wp2_with fail
  go_loopw [3, 7] (fun v i wr => ∃ k : Nat, k ≤ n ∧ i = .int .i64 k ∧ wr.ownsRow w.heap.size 23 4 v (joinTo rs k).length (flat (joinTo rs k)) ∧ Seen w wr) (fun _ i _ => n - (intOf i).toNat)
  case atStart => exact ⟨0, Nat.zero_le _, rfl, World.ownsRow_nil _ _ _ _, Seen.refl _⟩
  case round =>
    obtain ⟨k, hk, rfl, hown, hs⟩ := hrel
    by_cases hlt : k < n
    · obtain ⟨b1, o1, rfl, hc1⟩ := HR.out.2 (by omega)
      obtain ⟨p0, p1, p2, p3⟩ := hs.at4 (hc1 k hlt)
      clear hc1
      obtain ⟨m, hm⟩ : ∃ m, (joinTo rs k).length = m := ⟨_, rfl⟩
      have hm4 : m ≤ 256 := by rw [← hm]; exact join_small HR.out.1 hk hn
      rw [hm] at hown
      obtain ⟨a3, c3, rfl, hrs3⟩ := rs_of_own hown hm
      have hmc : m ≤ c3 := row_capJ hown
      have HO := Lib.hid hown
      have HM := Lib.hid hm
      have HR3 := Lib.hid hrs3
      clear hown hm hrs3
      go_wp2_with fail
      refine (refRest_any (rat rs k) m a3 c3 (joinTo rs k) _ HR3.out (by omega) hmc).mono ?_
      rintro e w4 ⟨⟨v4, rfl, hown4⟩, hb4⟩
      have s4 : Seen wr w4 := (Seen.refl wr).next hb4
      have hr4 : (restOf (rat rs k) (joinTo rs k)).length ≤ 264196 := rest_small (by rw [HM.out]; exact hm4)
      have HN4 := Lib.hid hown4
      clear hown4 hb4 p0 p1 p2 p3
      go_wp2_with (at_builtin; refine wpList_append_rows _ rfl _ _ 24 rfl 23 i0 (.agg #[.int .i64 0, .int .i64 0, .int .i64 0, .int .i64 0]) 4 32 Try.underlying24 hi0 hz0 hz1 hz2 rfl (by decide) w.heap.size wr.heap.size (.slice a3 m c3) _ _ rfl (row_seen HO.out s4) v4 _ _ rfl HN4.out (flat_one _) (by unfold maxLen; omega) (by omega) (Nat.le_trans hs.size s4.size) ?_; intro v5 w5 hown5 hgr5 hat5; have HN5 := Lib.hid (And.intro hown5 hgr5); clear hown5 hgr5 hat5)
      go_roundw
      case rel =>
        obtain ⟨hown5, hgr5⟩ := HN5.out
        refine ⟨k + 1, by omega, by go_num, ?_, ?_⟩
        · show World.ownsRow _ _ _ _ _ (joinTo rs k ++ restOf (rat rs k) (joinTo rs k)).length (flat (joinTo rs k ++ restOf (rat rs k) (joinTo rs k)))
          rw [flat_append, List.length_append, HM.out]; exact hown5
        · exact Below.grown (hs.trans s4) hgr5 (Nat.le_trans hs.size s4.size) (fun j hj => (HO.out.lt j hj).1)
      case measure => simp [intOf]; omega
    · obtain rfl : k = n := by omega
      have HO := Lib.hid hown
      clear hown
      go_wp2_with fail
      go_ret
      exact ⟨⟨_, rfl, HO.out⟩, hs⟩
end Go.Proofs.Ytckfdlolmenigaa
