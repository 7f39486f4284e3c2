/- Contract of Rest's reference twin, which calls itself. -/
import Derived.Test.YtckfdlolmenigaaApart
import Derived.Test.YtckfdlolmenigaaRefCut
import Derived.Test.YtckfdlolmenigaaAppRows
import Derived.Deep.RegionLaw
namespace Go.Proofs.Ytckfdlolmenigaa
open Go.ChangeShapes Go.WideShapes Go.ChangeAt Go.RowKit
/-- What k elements of l leave, each without b. -/
def cutsTo (l : List R4) (b : R4) (k : Nat) : List R4 := (l.take k).flatMap fun p => cutL p b
theorem cutsTo_step {l : List R4} {b : R4} {k : Nat} (h : k < l.length) : cutsTo l b (k + 1) = cutsTo l b k ++ cutL (rat l k) b := by
  unfold cutsTo
  rw [List.take_succ_eq_append_getElem h, List.flatMap_append, rat_eq h]; simp
theorem cutsTo_len (l : List R4) (b : R4) : ∀ k, (cutsTo l b k).length ≤ 4 * k
  | 0 => by simp [cutsTo]
  | k + 1 => by
    by_cases h : k < l.length
    · rw [cutsTo_step h, List.length_append]
      have := cutsTo_len l b k
      have := cut_short (rat l k) b
      omega
    · have h1 := cutsTo_len l b k
      have : cutsTo l b (k + 1) = cutsTo l b k := by
        unfold cutsTo; rw [List.take_of_length_le (by omega), List.take_of_length_le (by omega)]
      rw [this]; omega
theorem row_more {w : World} {base base' : Nat} {e : TypeId} {size : Nat} {v : Value} {n : Nat} {xs : List Value} (h : w.ownsRow base e size v n xs) (hb : base' ≤ base) : w.ownsRow base' e size v n xs := by
  rcases h with ⟨h1, h2 | ⟨g, cap, cur, h3, h4, h5⟩⟩
  · exact ⟨h1, .inl h2⟩
  · exact ⟨h1, .inr ⟨g, cap, cur, h3, Nat.le_trans hb h4, h5⟩⟩
theorem row_seen {W w' : World} {base : Nat} {e : TypeId} {size : Nat} {v : Value} {n : Nat} {xs : List Value} (h : W.ownsRow base e size v n xs) (hs : Seen W w') : w'.ownsRow base e size v n xs :=
  ownsRow_keeps h (fun g hg => hs.block g (h.lt g hg).2)
theorem flat_len_pos (l : List R4) : (flat l).length = l.length * 4 := flat_length l
set_option maxRecDepth 100000 in
set_option maxHeartbeats 4000000 in
theorem refRest_any (r : R4) : ∀ (n : Nat) (ad : Option Addr) (c : Nat) (rs : List R4) (w : World), RS w ad n rs → n ≤ 1000 → n ≤ c →
    Calls Try.prog 12 #[.agg #[.int .i64 r.x0, .int .i64 r.y0, .int .i64 r.x1, .int .i64 r.y1], .slice ad n c] w (RowPost (restOf r rs) w) := by
  intro n
  induction n with
  | zero =>
    intro ad c rs w hR _ _
    obtain rfl : rs = [] := List.eq_nil_of_length_eq_zero hR.1
    clear hR
    cases he : emptyB r with
    | true =>
      have HE := Lib.hid he
      clear he
      go_enter Try.func12, Try.ntmps12
      go_wp2_with fail
      refine (isB (refEmpty_any r _) HE.out).mono ?_
      rintro e w1 ⟨rfl, h1⟩
      have s1 : Seen w w1 := ((Seen.refl w).alloc _).next h1
      clear h1
      go_wp2_with fail
      go_ret
      exact ⟨⟨_, rfl, by rw [restOf_empty HE.out]; exact World.ownsRow_nil _ _ _ _⟩, s1⟩
    | false =>
      have HE := Lib.hid he
      clear he
      go_enter Try.func12, Try.ntmps12
      go_wp2_with fail
      refine (isB (refEmpty_any r _) HE.out).mono ?_
      rintro e w1 ⟨rfl, h1⟩
      have s1 : Seen w w1 := ((Seen.refl w).alloc _).next h1
      have b1 := Box.rules (Seen.box h1 (box_new w r))
      have sr := Seen.refl w1
      clear h1
      go_wp2_with fail
      go_ret
      refine ⟨⟨_, rfl, ?_⟩, s1.alloc _⟩
      rw [restOf_nil HE.out]
      exact own_one w1 r _ s1.size
  | succ n ih =>
    intro ad c rs w hR hn hc
    cases he : emptyB r with
    | true =>
      have HE := Lib.hid he
      clear he hR ih
      go_enter Try.func12, Try.ntmps12
      go_wp2_with fail
      refine (isB (refEmpty_any r _) HE.out).mono ?_
      rintro e w1 ⟨rfl, h1⟩
      have s1 : Seen w w1 := ((Seen.refl w).alloc _).next h1
      clear h1
      go_wp2_with fail
      go_ret
      exact ⟨⟨_, rfl, by rw [restOf_empty HE.out]; exact World.ownsRow_nil _ _ _ _⟩, s1⟩
    | false =>
      obtain ⟨i0, hi0, hz0, hz1, hz2⟩ := info_parts info23
      have HE := Lib.hid he
      have HR := Lib.hid hR
      have HI := Lib.hid ih
      clear he hR ih
      have htl := run_head ad (n + 1) c n (by omega)
      have htl2 := run_headAt ad (n + 1) c n (by omega)
      go_enter Try.func12, Try.ntmps12
      go_wp2_with fail
      refine (isB (refEmpty_any r _) HE.out).mono ?_
      rintro e w1 ⟨rfl, h1⟩
      have s1 : Seen w w1 := ((Seen.refl w).alloc _).next h1
      have b1 := Box.rules (Seen.box h1 (box_new w r))
      have sr := Seen.refl w1
      have sd : Seen w1 w1.drew := sr.drew
      have HRH := Lib.hid ((HR.out.seen s1).head (Nat.le_succ n) c)
      clear h1
      obtain ⟨A, hA⟩ : ∃ A, restOf r (rs.take n) = A := ⟨_, rfl⟩
      obtain ⟨m, hm⟩ : ∃ m, A.length = m := ⟨_, rfl⟩
      have hm4 : m ≤ 4008004 := by
        have h1 := restOf_length r (rs.take n)
        have h2 : (rs.take n).length ≤ n := List.length_take_le _ _
        have h3 : (2 * (rs.take n).length + 2) * (2 * (rs.take n).length + 2) ≤ 2002 * 2002 := Nat.mul_le_mul (by omega) (by omega)
        rw [hA, hm] at h1
        omega
      have HA := Lib.hid hA
      have HM := Lib.hid hm
      clear hA hm
      go_wp2_with fail
      go_region_with (first
        | (go_at_call 12; refine (HI.out (headA ad c) c (rs.take n) _ (HRH.out.seen sd) (by omega) (by omega)).mono ?_; rintro e w2 ⟨⟨v2, rfl, hown2⟩, hb2⟩; rw [HA.out, HM.out] at hown2; obtain ⟨a2, c2, rfl, hrs2⟩ := rs_of_own hown2 HM.out; have s2 : Seen w w2 := s1.trans (sd.next hb2); have HN2 := Lib.hid hrs2; clear hown2 hb2 hrs2))
      clear htl htl2 b1 sr sd
      have hrsB := HR.out.seen s2
      obtain ⟨b1, o1, rfl, hcB⟩ := hrsB.2 (by omega)
      have rB := At4.rules (hcB n (by omega))
      clear hcB hrsB
      go_wp2_with fail
      go_loopw [7, 26] (fun v i wr => ∃ k : Nat, k ≤ m ∧ i = .int .i64 k ∧ wr.ownsRow w2.heap.size 23 4 v (cutsTo A (rat rs n) k).length (flat (cutsTo A (rat rs n) k)) ∧ Seen w2 wr) (fun _ i _ => m - (intOf i).toNat)
      case atStart => exact ⟨0, Nat.zero_le _, rfl, World.ownsRow_nil _ _ _ _, Seen.refl _⟩
      case round =>
        obtain ⟨k, hk, rfl, hown, hs⟩ := hrel
        have HO := Lib.hid hown
        have hsd : Seen w2 wr.drew := hs.drew
        clear hown
        by_cases hlt : k < m
        · obtain ⟨b3, o3, rfl, hc3⟩ := HN2.out.2 (by omega)
          have rk := At4.rules (hc3 k hlt)
          clear hc3
          have hlen := cutsTo_len A (rat rs n) k
          have hcs := cut_short (rat A k) (rat rs n)
          have hnn : (n : Int) < (n : Int) + 1 := by omega
          go_wp2_with fail
          go_region_law (first
            | (go_simp; go_at_call 22; refine (refCut_any (rat A k) (rat rs n) _).mono ?_; rintro e w4 ⟨⟨v4, rfl, hown4⟩, hb4⟩; have s4 : Seen wr w4 := (Seen.refl wr).drew.next hb4; have HN4 := Lib.hid hown4; clear hown4 hb4)
            | (refine step_append_rows _ rfl _ _ 24 rfl 23 i0 (.agg #[.int .i64 0, .int .i64 0, .int .i64 0, .int .i64 0]) 4 32 Try.underlying24 hi0 hz0 hz1 hz2 rfl (by decide) w2.heap.size wr.drew.heap.size u7 _ _ rfl (row_seen HO.out s4) v4 _ _ rfl HN4.out (flat_one _) (by unfold maxLen; omega) (by omega) (Nat.le_trans hs.size s4.size) ?_; intro v5 w5 hown5 hgr5 hat5; have HN5 := Lib.hid (And.intro hown5 hgr5); clear hown5 hgr5 hat5))
          all_goals
            clear rk hsd
            go_wp2_with fail
            go_roundw
            case rel =>
              obtain ⟨hown5, hgr5⟩ := HN5.out
              refine ⟨k + 1, by omega, by go_num, ?_, ?_⟩
              · rw [cutsTo_step (by rw [HM.out]; exact hlt), flat_append, List.length_append]; exact hown5
              · exact Below.grown (hs.trans s4) hgr5 (Nat.le_trans hs.size s4.size) (fun j hj => (HO.out.lt j hj).1)
            case measure => simp [intOf]; omega
        · have hk' : k = m := by omega
          have HF : Hid (restOf r rs = cutsTo A (rat rs n) k) := by
            unfold Hid
            have hl : n < rs.length := by rw [HR.out.1]; omega
            have h1 : rs = rs.take n ++ [rat rs n] := by
              rw [rat_eq hl, ← List.take_succ_eq_append_getElem hl, List.take_of_length_le (by rw [HR.out.1]; omega)]
            have h2 : A.take k = A := List.take_of_length_le (by rw [HM.out]; omega)
            rw [h1, restOf_snoc, HA.out, ← h1]
            unfold cutsTo
            rw [h2]
          clear hk'
          go_wp2_with fail
          go_ret
          refine ⟨⟨_, rfl, ?_⟩, s2.trans hs⟩
          rw [HF.out]
          exact row_more HO.out s2.size
end Go.Proofs.Ytckfdlolmenigaa
