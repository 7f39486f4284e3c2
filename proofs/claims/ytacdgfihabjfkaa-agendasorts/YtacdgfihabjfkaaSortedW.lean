/- Contract of agenda.Sorted: a new row with the entries in ascending order. -/
import Derived.Test.YtacdgfihabjfkaaSorted
namespace Go.Proofs.Ytacdgfihabjfkaa
open Go.ChangeShapes Go.WideShapes Go.ChangeAt Go.RowKit
theorem Seen.trans'' {w W W' : World} (h : Seen w W) (k : Below w.heap.size W W') : Seen w W' := Below.trans h k
theorem ltfun : (fun x y : E3 => !(ltOf cmpE) y x) = fun x y => !ltE y x := by
  funext x y; rw [ltOf_eq]
set_option maxHeartbeats 2000000 in
theorem sorted_any (ad : Option Addr) (n c : Nat) (l : List E3) (w : World) (h : ES w ad n l) (hc : ad = none → c = 0) (hn : n ≤ 1000000) :
    Calls Try.prog 14 #[.slice ad n c] w fun e w' => (∃ v, e = .returned v ∧ w'.ownsRow w.heap.size 31 3 v n (flatE (srt l))) ∧ Below w.heap.size w w' := by
  obtain ⟨i0, hi, hz0, hz1, hz2⟩ := info_parts info31
  have HS := Lib.hid (src_of_es h hc)
  have HL : Hid (l.length = n) := h.1
  clear h hc
  go_enter Try.func14, Try.ntmps14
  go_wp2_with (first
    | (at_builtin; refine wpList_append_src _ rfl (.const (.slice none 0 0)) (.tmp 4) 24 rfl 31 i0 (.agg #[.int .i64 0, .int .i64 0, .int .i64 0]) 3 24 Try.underlying24 hi hz0 hz1 hz2 rfl (by decide) w.heap.size _ 0 [] rfl (World.ownsRow_nil _ _ _ _) (.slice ad n c) n (flatE l) rfl HS.out (flatE_one _) (by unfold maxLen; omega) (by omega) (Nat.le_refl _) ?_
       intro v1 w1 hown1 hgrow1 hat1
       have s1 : Seen w w1 := Below.grown (Below.refl _ w) hgrow1 (Nat.le_refl _) (fun k hk => by cases hk)
       rw [Nat.zero_add, List.nil_append] at hown1
       obtain ⟨a1, c1, rfl, he1, hc1⟩ := es_of_own hown1 HL.out
       have H1 := Lib.hid hown1
       have E1 := Lib.hid he1
       clear hown1 hgrow1 hat1 he1 HS))
  refine (isSorted_any a1 n c1 l w1 E1.out hn).mono ?_
  rintro e w2 ⟨r, rfl, hr, h0, hb2⟩
  have s2 : Seen w w2 := s1.next hb2
  have H2 := Lib.hid (row_seen H1.out hb2)
  clear hb2
  cases r with
  | true =>
    have HO : Hid (l = srt l) := srt_unique (List.Perm.refl _) (inOrder_pairwise (hr rfl))
    clear hr h0
    go_wp2_with fail
    go_ret
    exact ⟨⟨_, rfl, by rw [← HO.out]; exact H2.out⟩, s2⟩
  | false =>
    have hpos : n ≠ 0 := fun e => by cases h0 e
    obtain ⟨m, rfl⟩ : ∃ m, n = m + 1 := ⟨n - 1, by omega⟩
    obtain ⟨g, cap, e⟩ := ownsRow_succ H2.out
    cases e
    have HG : Hid (w.heap.size ≤ g ∧ g < w2.heap.size) := H2.out.lt g rfl
    have hcon := sortFunc_any g c1 l.toArray w2 (holds_of_row H2.out HL.out) HG.out.2 (by simp; have := HL.out; omega)
    rw [ltfun, show l.toArray.size = m + 1 by simpa using HL.out] at hcon
    have HC := Lib.hid hcon
    clear hr h0 hcon
    go_wp2_with (go_at_call 21; refine HC.out.mono ?_; rintro e w3 ⟨rfl, q, os, hw3⟩; have HW := Lib.hid hw3; clear hw3)
    go_ret
    refine ⟨⟨_, rfl, ?_⟩, s2.trans'' (by rw [HW.out]; exact sort_below HG.out.1 s2.size)⟩
    rw [HW.out]
    exact row_of_sort H2.out ((srt_length l).trans HL.out) q os
end Go.Proofs.Ytacdgfihabjfkaa
