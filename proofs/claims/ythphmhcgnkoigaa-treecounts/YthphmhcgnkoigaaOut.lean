/- Contracts of the methods of Out, on a nil Out and on one whose bytes lie at a block; no conditions beyond those written in each theorem. -/
import Derived.Test.YthphmhcgnkoigaaBytes
namespace Go.Proofs.Ythphmhcgnkoigaa
open Go.ChangeShapes Go.WideShapes Go.ChangeAt Go.RowKit
set_option maxRecDepth 100000
/-- The Out at block B holds the bytes l; T: the blocks that are its own. -/
def OS (base B : Nat) (T : Nat → Prop) (l : List Int) (W : World) : Prop :=
  ∃ v, Boxed W B 57 v ∧ W.ownsRow base 5 1 v l.length (bv l) ∧ (∀ k, T k ↔ k = B ∨ v.ownBlock = some k)
section
variable {base B : Nat} {T : Nat → Prop} {l : List Int} {w : World}
theorem OS.low (h : OS base B T l w) : ∀ k, T k → k < w.heap.size := by
  obtain ⟨v, hv, hr, hT⟩ := h
  intro k hk
  rcases (hT k).1 hk with rfl | h
  · exact hv.lt
  · exact (hr.lt k h).2
theorem OS.keeps (h : OS base B T l w) {w' : World} (hk : ∀ k, T k → w'.heap[k]? = w.heap[k]?) : OS base B T l w' := by
  obtain ⟨v, hv, hr, hT⟩ := h
  exact ⟨v, (hk B ((hT B).2 (.inl rfl))).trans hv, ownsRow_keeps hr (fun k h => hk k ((hT k).2 (.inr h))), hT⟩
theorem OS.seen (h : OS base B T l w) {w' : World} (hs : Seen w w') : OS base B T l w' := h.keeps fun k hk => hs.block k (h.low k hk)
theorem OS.high (h : OS base B T l w) (hB : base ≤ B) : ∀ k, T k → base ≤ k := by
  obtain ⟨v, hv, hr, hT⟩ := h
  intro k hk
  rcases (hT k).1 hk with rfl | h
  · exact hB
  · exact (hr.lt k h).1
theorem OS.self (h : OS base B T l w) : T B := by
  obtain ⟨v, hv, hr, hT⟩ := h
  exact (hT B).2 (.inl rfl)
end
theorem os_new (w : World) (base : Nat) : OS base w.heap.size (fun k => k = w.heap.size) [] (w.alloc (.cells #[.slice none 0 0] 57)) :=
  ⟨.slice none 0 0, Boxed.new w 57 _, World.ownsRow_nil _ _ _ _, fun k => by simp [Value.ownBlock]⟩
theorem info5 : (Try.prog.info? 5).map (fun i => (i.zero, i.size, i.bytes)) = some (some (.int .u8 0), 1, 1) := by kernel_rfl
theorem put_nil (v n : Int) (w : World) : Calls Try.prog 45 #[.pointer none, .int .u64 v, .int .i64 n] w fun e w' => e = .returned (.tuple #[]) ∧ w' = w := by
  go_enter Try.func45, Try.ntmps45
  go_wp2_with fail
  try simp only [Exit.inBlock, Exit.then]
  refine bodyPost_ret (results_none rfl _ _ _) rfl ?_
  exact ⟨rfl, rfl⟩
set_option maxHeartbeats 2000000 in
theorem put_any (base B : Nat) (T : Nat → Prop) (l : List Int) (v : Int) (n : Nat) (w : World) (h : OS base B T l w) (hb : base ≤ w.heap.size) (h1 : 1 ≤ n) (h8 : n ≤ 8) (hl : l.length + 8 ≤ 140737488355328) :
    Calls Try.prog 45 #[.pointer (some ⟨B, 0, none⟩), .int .u64 v, .int .i64 n] w fun e w' => e = .returned (.tuple #[]) ∧ ∃ T', Moves T T' w w' ∧ OS base B T' (l ++ be v n) w' := by
  obtain ⟨i0, hi, hz0, hz1, hz2⟩ := info_parts info5
  have HH := Lib.hid h
  clear h
  go_enter Try.func45, Try.ntmps45
  go_wp2_with fail
  go_loopw [6] (fun s wr => ∃ k : Nat, k ≤ n ∧ s = .int .i64 (8 * ((n : Int) - 1 - k)) ∧ ∃ Tk, Moves T Tk w wr ∧ OS base B Tk (l ++ (be v n).take k) wr) (fun s _ => (intOf s + 8).toNat)
  case atStart => exact ⟨0, Nat.zero_le _, by go_num, T, Moves.refl _ _, by simpa using HH.out⟩
  case round =>
    obtain ⟨k, hk, rfl, Tk, hmk, v0, hv, hr, hT⟩ := hrel
    have HM := Lib.hid hmk
    have HV := Lib.hid hv
    have HR := Lib.hid hr
    have HT := Lib.hid hT
    have hc := hv.cell
    have hf := hv.frozen
    clear hmk hv hr hT
    obtain ⟨L, hL⟩ : ∃ L, l ++ (be v n).take k = L := ⟨_, rfl⟩
    obtain ⟨m, hm⟩ : ∃ m, L.length = m := ⟨_, rfl⟩
    have hm8 : m ≤ l.length + k := by rw [← hm, ← hL]; simp [be_length]; omega
    rw [hL, hm] at HR
    have HL := Lib.hid hL
    have HMM := Lib.hid hm
    clear hL hm
    by_cases hlt : k < n
    · obtain ⟨s, hs⟩ : ∃ s : Int, 8 * ((n : Int) - 1 - k) = s := ⟨_, rfl⟩
      have hs0 : 0 ≤ s := by omega
      have hs1 : s ≤ 64 := by omega
      have hsn : Hid (s.toNat = 8 * (n - 1 - k)) := by unfold Hid; omega
      have HS := Lib.hid hs
      rw [hs]
      clear hs
      go_wp2_with fail
      have hca : ∀ o, (wr.alloc o).cell? ⟨B, 0, none⟩ = some v0 := fun o => (HV.out.alloc o).cell
      go_region_law
        ((refine step_append_rows _ rfl (.tmp 20) (.tmp 25) 28 rfl 5 i0 (.int .u8 0) 1 1 Try.underlying28 hi hz0 hz1 hz2 rfl (by decide) base 0 v0 _ _ rfl (HR.out.alloc _).drew (.slice (some ⟨wr.heap.size, 0, none⟩) 1 1) 1 (bv [_]) rfl (new_row1 wr 5 _).drew (bv_one _) (by unfold maxLen; omega) (by omega) (by have := HM.out.size; simp; omega) ?_; intro v' w1 hown' hgrow hat; obtain ⟨g', cap', rfl⟩ := ownsRow_succ hown'; obtain ⟨hv1, hv2, hr2, hmv, hoth⟩ := append_moves (W := wr.drew) HV.out (by decide) HR.out hown' hgrow hat (T := Tk) ((HT.out _).2 (.inl rfl)) (fun k hk => (HT.out _).2 (.inr hk)); have hc1 := hv1.cell; have hf1 := hv1.frozen; have HV2 := Lib.hid (And.intro hv2 (And.intro hr2 (And.intro hmv hoth))); clear hv2 hr2 hmv hoth hgrow hown' hat))
      all_goals
        go_wp2_with fail
        obtain ⟨hv2, hr2, hmv, hoth⟩ := HV2.out
        have e1 := HS.out
        refine ⟨⟨k + 1, hlt, by congr 1; omega, fun k => k = B ∨ g' = k, HM.out.trans ((Moves.of_below (Below.drew (Below.refl _ _))).trans (hmv _ ?_)), _, hv2, ?_, fun k => by simp [Value.ownBlock]⟩, by simp [intOf]; omega⟩
        · rintro k (rfl | rfl)
          · exact .inl ((HT.out _).2 (.inl rfl))
          · exact .inr rfl
        · rw [be_take v n k hlt, ← List.append_assoc, HL.out, List.length_append, HMM.out, bv_append, ← hsn.out]
          exact hr2
    · have hge : 8 * ((n : Int) - 1 - k) < 0 := by omega
      have hkn : k = n := by omega
      subst hkn
      go_wp2_with fail
      go_end0
      have e1 : L = l ++ be v k := by rw [← HL.out, List.take_of_length_le (by rw [be_length]; omega)]
      exact ⟨rfl, Tk, HM.out, v0, HV.out, by rw [← e1, HMM.out]; exact HR.out, HT.out⟩
theorem oByte_nil (v : Int) (w : World) : Calls Try.prog 46 #[.pointer none, .int .u8 v] w fun e w' => e = .returned (.tuple #[]) ∧ w' = w := by
  go_enter Try.func46, Try.ntmps46
  go_wp2_with (go_at_call 45; refine (put_nil _ _ _).mono ?_; rintro e w1 ⟨rfl, rfl⟩)
  go_end0
  exact ⟨rfl, rfl⟩
theorem oEight_nil (v : Int) (w : World) : Calls Try.prog 49 #[.pointer none, .int .i64 v] w fun e w' => e = .returned (.tuple #[]) ∧ w' = w := by
  go_enter Try.func49, Try.ntmps49
  go_wp2_with (go_at_call 45; refine (put_nil _ _ _).mono ?_; rintro e w1 ⟨rfl, rfl⟩)
  go_end0
  exact ⟨rfl, rfl⟩
section
variable (base B : Nat) (T : Nat → Prop) (l : List Int) (v : Int) (w : World) (h : OS base B T l w) (hb : base ≤ w.heap.size) (hl : l.length + 8 ≤ 140737488355328)
include h hb hl
theorem oByte_any : Calls Try.prog 46 #[.pointer (some ⟨B, 0, none⟩), .int .u8 v] w fun e w' => e = .returned (.tuple #[]) ∧ ∃ T', Moves T T' w w' ∧ OS base B T' (l ++ be (v % 18446744073709551616) 1) w' := by
  have HH := Lib.hid h
  clear h
  go_enter Try.func46, Try.ntmps46
  go_wp2_with (go_at_call 45; refine (put_any base B T l _ 1 _ HH.out hb (by omega) (by omega) hl).mono ?_; rintro e w1 ⟨rfl, T1, hm1, ho1⟩; have HR := Lib.hid (And.intro hm1 ho1); clear hm1 ho1)
  go_end0
  exact ⟨rfl, T1, HR.out.1, HR.out.2⟩
theorem oEight_any : Calls Try.prog 49 #[.pointer (some ⟨B, 0, none⟩), .int .i64 v] w fun e w' => e = .returned (.tuple #[]) ∧ ∃ T', Moves T T' w w' ∧ OS base B T' (l ++ be (v % 18446744073709551616) 8) w' := by
  have HH := Lib.hid h
  clear h
  go_enter Try.func49, Try.ntmps49
  go_wp2_with (go_at_call 45; refine (put_any base B T l _ 8 _ HH.out hb (by omega) (by omega) hl).mono ?_; rintro e w1 ⟨rfl, T1, hm1, ho1⟩; have HR := Lib.hid (And.intro hm1 ho1); clear hm1 ho1)
  go_end0
  exact ⟨rfl, T1, HR.out.1, HR.out.2⟩
end
/-- The answer is a new row of these bytes; nothing old has turned. -/
def RowPost (l : List Int) (w : World) (e : Ending) (w' : World) : Prop :=
  (∃ v, e = .returned v ∧ w'.ownsRow w.heap.size 5 1 v l.length (bv l)) ∧ Seen w w'
theorem bytes_nil (w : World) : Calls Try.prog 31 #[.pointer none] w fun e w' => e = .returned (.slice none 0 0) ∧ w' = w := by
  go_enter Try.func31, Try.ntmps31
  go_wp2_with fail
  go_ret
  exact ⟨rfl, rfl⟩
set_option maxHeartbeats 2000000 in
theorem bytes_any (base B : Nat) (T : Nat → Prop) (l : List Int) (w : World) (h : OS base B T l w) (hl : l.length ≤ 140737488355328) :
    Calls Try.prog 31 #[.pointer (some ⟨B, 0, none⟩)] w (RowPost l w) := by
  obtain ⟨i0, hi, hz0, hz1, hz2⟩ := info_parts info5
  obtain ⟨v, hv, hr, hT⟩ := h
  obtain ⟨a, c, rfl, hbs, hnc, hc0⟩ := bs_of_own hr rfl
  have hc := hv.cell
  have HS := Lib.hid (src_of_bs hbs hc0)
  clear hv hr hT hbs hnc hc0
  obtain ⟨n, hn⟩ : ∃ n, l.length = n := ⟨_, rfl⟩
  rw [hn] at hl hc HS
  have HN := Lib.hid hn
  clear hn
  go_enter Try.func31, Try.ntmps31
  go_wp2_with (at_builtin; refine wpList_append_src _ rfl (.const (.slice none 0 0)) (.tmp 8) 28 rfl 5 i0 (.int .u8 0) 1 1 Try.underlying28 hi hz0 hz1 hz2 rfl (by decide) w.heap.size _ 0 [] rfl (World.ownsRow_nil _ _ _ _) (.slice a n c) n (bv l) rfl HS.out (bv_one _) (by unfold maxLen; omega) (by omega) (Nat.le_refl _) ?_; intro v' w1 hown' hgrow hat; have HR := Lib.hid (And.intro hown' hgrow); clear hown' hgrow hat)
  go_ret
  obtain ⟨h1, h2⟩ := HR.out
  refine ⟨⟨v', rfl, by rw [HN.out]; simpa using h1⟩, Below.grown (Seen.refl w) h2 (Nat.le_refl _) (fun j hj => by cases hj)⟩
end Go.Proofs.Ythphmhcgnkoigaa
