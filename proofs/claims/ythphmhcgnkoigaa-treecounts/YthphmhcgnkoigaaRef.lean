/- Contracts of the reference's Number and Take; bytes as a string; no conditions beyond those written in each theorem. -/
import Derived.Test.YthphmhcgnkoigaaBackMath
namespace Go.Proofs.Ythphmhcgnkoigaa
open Go.ChangeShapes Go.WideShapes Go.ChangeAt Go.RowKit
set_option maxRecDepth 100000
set_option maxHeartbeats 2000000 in
theorem number_any : ∀ (n : Nat) (v : Int) (w : World), 0 ≤ v → v < 18446744073709551616 → n ≤ 8 → Calls Try.prog 19 #[.int .u64 v, .int .i64 n] w (RowPost (be v n) w) := by
  intro n
  induction n with
  | zero =>
    intro v w hv hv' _
    go_enter Try.func19, Try.ntmps19
    go_wp2_with fail
    go_ret
    exact ⟨⟨_, rfl, World.ownsRow_nil _ _ _ _⟩, Seen.refl _⟩
  | succ n ih =>
    intro v w hv hv' hn
    obtain ⟨i0, hi, hz0, hz1, hz2⟩ := info_parts info5
    have HI := Lib.hid ih
    clear ih
    have hne : (((n + 1 : Nat) : Int) == 0) = false := by rw [beq_eq_false_iff_ne]; omega
    have hsub : ((n + 1 : Nat) : Int) - 1 = (n : Int) := by omega
    have hq : v / 256 < 18446744073709551616 := by omega
    have hq0 : 0 ≤ v / 256 := by omega
    go_enter Try.func19, Try.ntmps19
    go_wp2_with (first
      | (go_at_call 19; refine (HI.out (v / 256) w hq0 hq (by omega)).mono ?_; rintro _ w1 ⟨⟨v1, rfl, ho1⟩, hs1⟩; rw [be_length] at ho1; have HO1 := Lib.hid ho1; have HS1 := Lib.hid hs1; clear ho1 hs1)
      | (at_builtin; refine wpList_append_rows _ rfl (.tmp 11) (.tmp 15) 28 rfl 5 i0 (.int .u8 0) 1 1 Try.underlying28 hi hz0 hz1 hz2 rfl (by decide) w.heap.size 0 v1 _ _ rfl (HO1.out.alloc _) (.slice (some ⟨w1.heap.size, 0, none⟩) 1 1) 1 (bv [_]) rfl (new_row1 w1 5 _) (bv_one _) (by unfold maxLen; omega) (by omega) (HS1.out.alloc _).size ?_
         intro v2 w2 ho2 hg2 _
         have HR := Lib.hid (And.intro ho2 hg2)
         clear ho2 hg2))
    go_ret
    obtain ⟨ho2, hg2⟩ := HR.out
    exact ⟨⟨v2, rfl, by rw [be_length, be, bv_append]; exact ho2⟩, Below.grown (HS1.out.alloc _) hg2 (HS1.out.alloc _).size (fun j hj => (HO1.out.lt j hj).1)⟩
theorem new_one (w : World) (x : Int) (base : Nat) (hb : base ≤ w.heap.size) : (w.alloc (.cells #[.int .u8 x] 5)).ownsRow base 5 1 (.slice (some ⟨w.heap.size, 0, none⟩) 1 1) 1 (bv [x]) := new_row1' w 5 x base hb
theorem tail_bs {w : World} {ad : Option Addr} {n c k : Nat} {l : List Int} (h : BS w ad n l) (hk : k ≤ n) (hc : n ≤ c) : BS w (tailA ad c k) (n - k) (l.drop k) := by
  refine ⟨by rw [List.length_drop, h.1], fun h0 => ?_⟩
  obtain ⟨b, off, rfl, hcs⟩ := h.2 (by omega)
  refine ⟨b, off + k, tailA_some (by omega), fun i hi => ?_⟩
  rw [bat_drop, Nat.add_assoc]
  exact hcs (k + i) (by omega)
theorem val_step_ref {l : List Int} (h : Bytes8 l) {k : Nat} (hk : k < l.length) (h8 : k < 8) : IntKind.u64.wrap (IntKind.u64.wrap (val (l.take k) * 256) + IntKind.u64.wrap (bat l k)) = val (l.take (k + 1)) := by
  have hb := (val_bound (h.take (k + 1)))
  rw [List.length_take, Nat.min_eq_left (by omega)] at hb
  have v2 : (256 : Int) ^ (k + 1) ≤ 18446744073709551616 := (by decide : ∀ k, k < 8 → (256 : Int) ^ (k + 1) ≤ 18446744073709551616) k h8
  rw [val_take hk] at hb ⊢
  rw [IntKind.wrap_u64, IntKind.wrap_u64, IntKind.wrap_u64]
  omega
set_option maxHeartbeats 2000000 in
theorem refTake_short (ad : Option Addr) (N c : Nat) (bad : Bool) (n : Nat) (w : World) (hn : N < n) :
    Calls Try.prog 36 #[.agg #[.slice ad N c, .bool bad], .int .i64 n] w fun e w' => e = .returned (.tuple #[.int .u64 0, .agg #[.slice none 0 0, .bool true]]) ∧ Seen w w' := by
  have hn' : (N : Int) < (n : Int) := by omega
  cases bad with
  | true =>
    go_enter Try.func36, Try.ntmps36
    go_wp2_with fail
    go_returns
    exact ⟨rfl, by unfold Seen; go_grown⟩
  | false =>
    go_enter Try.func36, Try.ntmps36
    go_wp2_with fail
    go_returns
    exact ⟨rfl, by unfold Seen; go_grown⟩
set_option maxHeartbeats 2000000 in
theorem refTake_some (ad : Option Addr) (N c : Nat) (l : List Int) (n : Nat) (w : World) (hbs : BS w ad N l) (hok : Bytes8 l) (h1 : 1 ≤ n) (h8 : n ≤ 8) (hn : n ≤ N) :
    Calls Try.prog 36 #[.agg #[.slice ad N c, .bool false], .int .i64 n] w fun e w' => e = .returned (.tuple #[.int .u64 (val (l.take n)), .agg #[.slice (tailA ad c n) (N - n) (c - n), .bool false]]) ∧ Seen w w' := by
  have HOK := Lib.hid hok
  have HL : Hid (l.length = N) := hbs.1
  obtain ⟨b, off, rfl, hcs⟩ := hbs.2 (by omega)
  have hn' : ¬ (N : Int) < (n : Int) := by omega
  have r3 := run_tail (some ⟨b, off, none⟩) N c n hn
  have r4 := run_tailAt (some ⟨b, off, none⟩) N c n hn
  obtain ⟨W, hW⟩ : ∃ W, W = (w.alloc (.cells #[.slice (some ⟨b, off, none⟩) N c, .bool false] 67)).alloc (.cells #[.slice none 0 0, .bool false] 67) := ⟨_, rfl⟩
  have s0 : Seen w W := by rw [hW]; exact ((Seen.refl w).alloc _).alloc _
  have x0 : W.cell? ⟨w.heap.size, 0, none⟩ = some (.slice (some ⟨b, off, none⟩) N c) := by rw [hW]; simp
  have x1 : W.cell? ⟨w.heap.size, 1, none⟩ = some (.bool false) := by rw [hW]; simp
  have y0 : W.cell? ⟨w.heap.size + 1, 0, none⟩ = some (.slice none 0 0) := by rw [hW]; simp
  have y1 : W.cell? ⟨w.heap.size + 1, 1, none⟩ = some (.bool false) := by rw [hW]; simp
  have hW1 : W.heap[w.heap.size + 1]? = some (.cells #[.slice none 0 0, .bool false] 67) := by
    rw [hW]
    have := World.alloc_heap_new (w.alloc (.cells #[.slice (some ⟨b, off, none⟩) N c, .bool false] 67)) (.cells #[.slice none 0 0, .bool false] 67)
    simpa using this
  have yf : ∀ o, W.frozen? ⟨w.heap.size + 1, o, none⟩ = false := fun o => by simp [World.frozen?, hW1]
  go_enter Try.func36, Try.ntmps36
  go_wp2_with fail
  rw [← hW]
  clear hW hbs hok
  go_loopw [6, 19] (fun x i wr => ∃ k : Nat, k ≤ n ∧ x = .int .u64 (val (l.take k)) ∧ i = .int .i64 k ∧ wr = W) (fun _ i _ => n - (intOf i).toNat)
  case atStart => exact ⟨0, Nat.zero_le _, rfl, rfl, rfl⟩
  case round =>
    obtain ⟨k, hk, rfl, rfl, rfl⟩ := hrel
    by_cases hlt : k < n
    · have ck := s0.cell (hcs k (by omega))
      have hkn : (k : Int) < (n : Int) := by omega
      have hkN : (k : Int) < (N : Int) := by omega
      go_wp2_with fail
      exact ⟨⟨k + 1, hlt, by rw [val_step_ref HOK.out (by rw [HL.out]; omega) (by omega)], by go_num, trivial⟩, by simp [intOf]; omega⟩
    · have hkn : ¬ (k : Int) < (n : Int) := by omega
      obtain rfl : k = n := by omega
      go_wp2_with fail
      go_region
      all_goals
        go_wp2_with fail
        have z0 : ∀ v, (wr.setCell ⟨w.heap.size + 1, 0, none⟩ v).cell? ⟨w.heap.size + 1, 0, none⟩ = some v := fun v => by rw [Go.Joins.cell_of_block (Go.Joins.block_setCell hW1 v)]; rfl
        have z1 : ∀ u v, ((wr.setCell ⟨w.heap.size + 1, 0, none⟩ u).setCell ⟨w.heap.size + 1, 1, none⟩ v).cell? ⟨w.heap.size + 1, 1, none⟩ = some v := fun u v => by rw [Go.Joins.cell_of_block (Go.Joins.block_setCell (Go.Joins.block_setCell hW1 u) v)]; rfl
        refine bodyPost_ret (by simp [results, Try.results36, go_sem, z0, z1]; try rfl) rfl ?_
        exact ⟨rfl, (((s0.trans (Seen.refl wr)).moves (Moves.setCell (T := fun j => j = w.heap.size + 1) wr (p := ⟨w.heap.size + 1, 0, none⟩) rfl _) (fun j hj => by omega)).moves (Moves.setCell (T := fun j => j = w.heap.size + 1) _ (p := ⟨w.heap.size + 1, 1, none⟩) rfl _) (fun j hj => by omega)).drew⟩
theorem refTake_any (ad : Option Addr) (N c : Nat) (l : List Int) (bad : Bool) (n : Nat) (w : World) (hbs : BS w ad N l) (hok : Bytes8 l) (hc : N ≤ c) (hbad : bad = true → l = []) (h1 : 1 ≤ n) (h8 : n ≤ 8) :
    Calls Try.prog 36 #[.agg #[.slice ad N c, .bool bad], .int .i64 n] w fun e w' => ∃ a' N' c', e = .returned (.tuple #[.int .u64 (tkV n l), .agg #[.slice a' N' c', .bool (tkB n l bad)]]) ∧ Seen w w' ∧ N' ≤ c' ∧ (∀ W, BS W ad N l → BS W a' N' (tkL n l)) := by
  unfold tkV tkL tkB
  have hl := hbs.1
  by_cases hn : l.length < n
  · rw [if_pos hn, if_pos hn, if_pos hn]
    exact (refTake_short ad N c bad n w (by omega)).mono fun e w' h => ⟨none, 0, 0, h.1, h.2, Nat.le_refl _, fun W _ => BS.nil W none⟩
  · rw [if_neg hn, if_neg hn, if_neg hn]
    have hb : bad = false := by
      cases bad with
      | true => rw [hbad rfl] at hn; simp at hn; omega
      | false => rfl
    subst hb
    exact (refTake_some ad N c l n w hbs hok h1 h8 (by omega)).mono fun e w' h => ⟨_, _, _, h.1, h.2, by omega, fun W hW => tail_bs hW (by omega) hc⟩
theorem conv_own {w : World} {base n : Nat} {v : Value} {l : List Int} (h : w.ownsRow base 5 1 v n (bv l)) (hl : l.length = n) : ∀ w', Seen w w' → (convert 28 9 v).run Try.prog w' = .ok (.string (strOfNums l)) w' := by
  intro w' hs
  have h' := row_seen h hs
  rcases h'.2 with ⟨rfl, rfl⟩ | ⟨g, cap, cur, rfl, hb, hh, h1, h2, h3, h4⟩
  · obtain rfl : l = [] := List.eq_nil_of_length_eq_zero hl
    rw [run_convert_bytes_nil w' 28 5 Try.underlying28 Try.underlying5 0 0 9 Try.underlying9]
    rfl
  · refine run_convert_bytes_arg w' 28 5 Try.underlying28 Try.underlying5 g 0 n cap l hl (fun i hi => ?_) 9 Try.underlying9
    rw [Nat.zero_add, h'.cellAt i (by omega)]
    exact bv_at (by omega)
end Go.Proofs.Ythphmhcgnkoigaa
