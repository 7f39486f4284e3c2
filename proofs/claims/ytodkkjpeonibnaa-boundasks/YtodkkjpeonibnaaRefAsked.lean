/- Contract of the reference's Asked; no conditions beyond those written in each theorem. -/
import Derived.Test.YtodkkjpeonibnaaAwake
namespace Go.Proofs.Ytodkkjpeonibnaa
open Go.ChangeShapes Go.WideShapes Go.ChangeAt Go.RowKit
set_option maxRecDepth 100000
theorem info35 : (Try.prog.info? 35).map (fun i => (i.zero, i.size, i.bytes)) = some (some (.agg #[.bool false, .int .i64 0]), 2, 16) := by kernel_rfl
/-- Behind an append onto a row of its own: nothing older has turned. -/
theorem grown_seen {W U w1 : World} {sv : Value} {n : Nat} {xs : List Value} {tmp : Obj} (hs : Seen W U) (hR : U.ownsRow W.heap.size 35 2 sv n xs) (hgrow : (U.alloc tmp).grownBy w1 sv.ownBlock) : Seen W w1 :=
  (hs.alloc tmp).grown hgrow (by have := hs.size; simp; omega) (fun g hg => (hR.lt g hg).1)
set_option maxHeartbeats 2000000 in
theorem refAsked_1 (s : Sz) (least most a0 a1 a2 : Int) (w : World) (h1 : most < a0) (h2 : a1 < least) :
    Calls Try.prog 9 #[.agg #[.bool s.au, .int .i64 s.n], .int .i64 least, .int .i64 most, .agg #[.int .i64 a0, .int .i64 a1, .int .i64 a2]] w fun e w' => ∃ v, e = .returned v ∧ w'.ownsRow w.heap.size 35 2 v 3 (flatZ [s, ⟨false, most⟩, ⟨false, least⟩]) ∧ Seen w w' := by
  obtain ⟨i0, hi, hz0, hz1, hz2⟩ := info_parts info35
  obtain ⟨W, hW⟩ : ∃ W, W = (w.alloc (.cells #[.bool s.au, .int .i64 s.n] 35)).alloc (.cells #[.int .i64 a0, .int .i64 a1, .int .i64 a2] 24) := ⟨_, rfl⟩
  obtain ⟨U0, hU⟩ : ∃ U0, U0 = W.alloc (.cells #[.bool s.au, .int .i64 s.n] 35) := ⟨_, rfl⟩
  have hWz : W.heap.size = w.heap.size + 2 := by rw [hW]; simp
  have sw : Seen w W := by rw [hW]; exact ((Seen.refl w).alloc _).alloc _
  have kW : Blk W (w.heap.size + 1) [.int .i64 a0, .int .i64 a1, .int .i64 a2] 24 := by rw [hW]; simpa using Blk.new (w.alloc (.cells #[.bool s.au, .int .i64 s.n] 35)) [.int .i64 a0, .int .i64 a1, .int .i64 a2] 24
  have s0 : Seen W U0 := by rw [hU]; exact (Seen.refl W).alloc _
  have r0 : U0.ownsRow W.heap.size 35 2 (.slice (some ⟨w.heap.size + 2, 0, none⟩) 1 1) 1 (flatZ [s]) := by
    rw [hU, ← hWz]
    exact ⟨rfl, .inr ⟨W.heap.size, 1, #[.bool s.au, .int .i64 s.n], rfl, Nat.le_refl _, World.alloc_heap_new W _, Nat.le_refl _, by unfold maxLen; omega, rfl, rfl⟩⟩
  have hUU : U0 = ((w.alloc (.cells #[.bool s.au, .int .i64 s.n] 35)).alloc (.cells #[.int .i64 a0, .int .i64 a1, .int .i64 a2] 24)).alloc (.cells #[.bool s.au, .int .i64 s.n] 35) := by rw [hU, hW]
  have k0 := (kW.seen s0).cell 0
  have hUz : U0.heap.size = w.heap.size + 1 + 1 + 1 := by rw [hUU]; simp
  have NR := Lib.hid (show ∀ x : Int, (U0.alloc (.cells #[.bool false, .int .i64 x] 35)).ownsRow 0 35 2 (.slice (some ⟨w.heap.size + 1 + 1 + 1, 0, none⟩) 1 1) 1 (flatZ [⟨false, x⟩]) from fun x => hUz ▸ new_rowZ U0 ⟨false, x⟩ 35)
  clear hUz
  have R0 := Lib.hid (And.intro r0 s0)
  have HW := Lib.hid (And.intro sw (And.intro kW hWz))
  clear hW hU hWz sw kW s0 r0
  go_enter Try.func9, Try.ntmps9
  go_wp2_with (first | (rw [← hUU]; clear hUU; refine wpList_append_rows _ rfl (.tmp 18) (.tmp 21) 33 rfl 35 i0 (.agg #[.bool false, .int .i64 0]) 2 16 Try.underlying33 hi hz0 hz1 hz2 rfl (by decide) W.heap.size 0 (.slice (some ⟨w.heap.size + 2, 0, none⟩) 1 1) 1 (flatZ [s]) rfl (R0.out.1.alloc _) (.slice (some ⟨w.heap.size + 1 + 1 + 1, 0, none⟩) 1 1) 1 (flatZ [⟨false, most⟩]) rfl (NR.out most) (flatZ_one _) (by unfold maxLen; omega) (by omega) (by have := R0.out.2.size; simp; omega) ?_; intro v1 U1 hown' hgrow hat; have hs := grown_seen R0.out.2 R0.out.1 hgrow; have R1 := Lib.hid (And.intro hown' hs); have q1 := (HW.out.2.1.seen hs).cell 1; clear hown' hs hgrow hat R0) | (refine wpList_append_rows _ rfl (.tmp 28) (.tmp 31) 33 rfl 35 i0 (.agg #[.bool false, .int .i64 0]) 2 16 Try.underlying33 hi hz0 hz1 hz2 rfl (by decide) W.heap.size 0 v1 2 (flatZ [s, ⟨false, most⟩]) rfl (R1.out.1.alloc _) (.slice (some ⟨U1.heap.size, 0, none⟩) 1 1) 1 (flatZ [⟨false, least⟩]) rfl (new_rowZ U1 ⟨false, least⟩ 35) (flatZ_one _) (by unfold maxLen; omega) (by omega) (by have := R1.out.2.size; simp; omega) ?_; intro v2 U2 hown' hgrow hat; have hs := grown_seen R1.out.2 R1.out.1 hgrow; have R2 := Lib.hid (And.intro hown' hs); have q1 := (HW.out.2.1.seen hs).cell 1; clear hown' hs hgrow hat R1))
  go_ret
  exact ⟨_, rfl, row_more R2.out.1 (by have := HW.out.2.2; omega), HW.out.1.trans R2.out.2⟩
set_option maxHeartbeats 2000000 in
theorem refAsked_2 (s : Sz) (least most a0 a1 a2 : Int) (w : World) (h1 : most < a0) (h2 : ¬ a1 < least) :
    Calls Try.prog 9 #[.agg #[.bool s.au, .int .i64 s.n], .int .i64 least, .int .i64 most, .agg #[.int .i64 a0, .int .i64 a1, .int .i64 a2]] w fun e w' => ∃ v, e = .returned v ∧ w'.ownsRow w.heap.size 35 2 v 2 (flatZ [s, ⟨false, most⟩]) ∧ Seen w w' := by
  obtain ⟨i0, hi, hz0, hz1, hz2⟩ := info_parts info35
  obtain ⟨W, hW⟩ : ∃ W, W = (w.alloc (.cells #[.bool s.au, .int .i64 s.n] 35)).alloc (.cells #[.int .i64 a0, .int .i64 a1, .int .i64 a2] 24) := ⟨_, rfl⟩
  obtain ⟨U0, hU⟩ : ∃ U0, U0 = W.alloc (.cells #[.bool s.au, .int .i64 s.n] 35) := ⟨_, rfl⟩
  have hWz : W.heap.size = w.heap.size + 2 := by rw [hW]; simp
  have sw : Seen w W := by rw [hW]; exact ((Seen.refl w).alloc _).alloc _
  have kW : Blk W (w.heap.size + 1) [.int .i64 a0, .int .i64 a1, .int .i64 a2] 24 := by rw [hW]; simpa using Blk.new (w.alloc (.cells #[.bool s.au, .int .i64 s.n] 35)) [.int .i64 a0, .int .i64 a1, .int .i64 a2] 24
  have s0 : Seen W U0 := by rw [hU]; exact (Seen.refl W).alloc _
  have r0 : U0.ownsRow W.heap.size 35 2 (.slice (some ⟨w.heap.size + 2, 0, none⟩) 1 1) 1 (flatZ [s]) := by
    rw [hU, ← hWz]
    exact ⟨rfl, .inr ⟨W.heap.size, 1, #[.bool s.au, .int .i64 s.n], rfl, Nat.le_refl _, World.alloc_heap_new W _, Nat.le_refl _, by unfold maxLen; omega, rfl, rfl⟩⟩
  have hUU : U0 = ((w.alloc (.cells #[.bool s.au, .int .i64 s.n] 35)).alloc (.cells #[.int .i64 a0, .int .i64 a1, .int .i64 a2] 24)).alloc (.cells #[.bool s.au, .int .i64 s.n] 35) := by rw [hU, hW]
  have k0 := (kW.seen s0).cell 0
  have hUz : U0.heap.size = w.heap.size + 1 + 1 + 1 := by rw [hUU]; simp
  have NR := Lib.hid (show ∀ x : Int, (U0.alloc (.cells #[.bool false, .int .i64 x] 35)).ownsRow 0 35 2 (.slice (some ⟨w.heap.size + 1 + 1 + 1, 0, none⟩) 1 1) 1 (flatZ [⟨false, x⟩]) from fun x => hUz ▸ new_rowZ U0 ⟨false, x⟩ 35)
  clear hUz
  have R0 := Lib.hid (And.intro r0 s0)
  have HW := Lib.hid (And.intro sw (And.intro kW hWz))
  clear hW hU hWz sw kW s0 r0
  go_enter Try.func9, Try.ntmps9
  go_wp2_with (first | (rw [← hUU]; clear hUU; refine wpList_append_rows _ rfl (.tmp 18) (.tmp 21) 33 rfl 35 i0 (.agg #[.bool false, .int .i64 0]) 2 16 Try.underlying33 hi hz0 hz1 hz2 rfl (by decide) W.heap.size 0 (.slice (some ⟨w.heap.size + 2, 0, none⟩) 1 1) 1 (flatZ [s]) rfl (R0.out.1.alloc _) (.slice (some ⟨w.heap.size + 1 + 1 + 1, 0, none⟩) 1 1) 1 (flatZ [⟨false, most⟩]) rfl (NR.out most) (flatZ_one _) (by unfold maxLen; omega) (by omega) (by have := R0.out.2.size; simp; omega) ?_; intro v1 U1 hown' hgrow hat; have hs := grown_seen R0.out.2 R0.out.1 hgrow; have R1 := Lib.hid (And.intro hown' hs); have q1 := (HW.out.2.1.seen hs).cell 1; clear hown' hs hgrow hat R0))
  go_ret
  exact ⟨_, rfl, row_more R1.out.1 (by have := HW.out.2.2; omega), HW.out.1.trans R1.out.2⟩
set_option maxHeartbeats 2000000 in
theorem refAsked_3 (s : Sz) (least most a0 a1 a2 : Int) (w : World) (h1 : ¬ most < a0) (h2 : a0 < least) :
    Calls Try.prog 9 #[.agg #[.bool s.au, .int .i64 s.n], .int .i64 least, .int .i64 most, .agg #[.int .i64 a0, .int .i64 a1, .int .i64 a2]] w fun e w' => ∃ v, e = .returned v ∧ w'.ownsRow w.heap.size 35 2 v 2 (flatZ [s, ⟨false, least⟩]) ∧ Seen w w' := by
  obtain ⟨i0, hi, hz0, hz1, hz2⟩ := info_parts info35
  obtain ⟨W, hW⟩ : ∃ W, W = (w.alloc (.cells #[.bool s.au, .int .i64 s.n] 35)).alloc (.cells #[.int .i64 a0, .int .i64 a1, .int .i64 a2] 24) := ⟨_, rfl⟩
  obtain ⟨U0, hU⟩ : ∃ U0, U0 = W.alloc (.cells #[.bool s.au, .int .i64 s.n] 35) := ⟨_, rfl⟩
  have hWz : W.heap.size = w.heap.size + 2 := by rw [hW]; simp
  have sw : Seen w W := by rw [hW]; exact ((Seen.refl w).alloc _).alloc _
  have kW : Blk W (w.heap.size + 1) [.int .i64 a0, .int .i64 a1, .int .i64 a2] 24 := by rw [hW]; simpa using Blk.new (w.alloc (.cells #[.bool s.au, .int .i64 s.n] 35)) [.int .i64 a0, .int .i64 a1, .int .i64 a2] 24
  have s0 : Seen W U0 := by rw [hU]; exact (Seen.refl W).alloc _
  have r0 : U0.ownsRow W.heap.size 35 2 (.slice (some ⟨w.heap.size + 2, 0, none⟩) 1 1) 1 (flatZ [s]) := by
    rw [hU, ← hWz]
    exact ⟨rfl, .inr ⟨W.heap.size, 1, #[.bool s.au, .int .i64 s.n], rfl, Nat.le_refl _, World.alloc_heap_new W _, Nat.le_refl _, by unfold maxLen; omega, rfl, rfl⟩⟩
  have hUU : U0 = ((w.alloc (.cells #[.bool s.au, .int .i64 s.n] 35)).alloc (.cells #[.int .i64 a0, .int .i64 a1, .int .i64 a2] 24)).alloc (.cells #[.bool s.au, .int .i64 s.n] 35) := by rw [hU, hW]
  have k0 := (kW.seen s0).cell 0
  have hUz : U0.heap.size = w.heap.size + 1 + 1 + 1 := by rw [hUU]; simp
  have NR := Lib.hid (show ∀ x : Int, (U0.alloc (.cells #[.bool false, .int .i64 x] 35)).ownsRow 0 35 2 (.slice (some ⟨w.heap.size + 1 + 1 + 1, 0, none⟩) 1 1) 1 (flatZ [⟨false, x⟩]) from fun x => hUz ▸ new_rowZ U0 ⟨false, x⟩ 35)
  clear hUz
  have R0 := Lib.hid (And.intro r0 s0)
  have HW := Lib.hid (And.intro sw (And.intro kW hWz))
  clear hW hU hWz sw kW s0 r0
  go_enter Try.func9, Try.ntmps9
  go_wp2_with (first | (rw [← hUU]; clear hUU; refine wpList_append_rows _ rfl (.tmp 28) (.tmp 31) 33 rfl 35 i0 (.agg #[.bool false, .int .i64 0]) 2 16 Try.underlying33 hi hz0 hz1 hz2 rfl (by decide) W.heap.size 0 (.slice (some ⟨w.heap.size + 2, 0, none⟩) 1 1) 1 (flatZ [s]) rfl (R0.out.1.alloc _) (.slice (some ⟨w.heap.size + 1 + 1 + 1, 0, none⟩) 1 1) 1 (flatZ [⟨false, least⟩]) rfl (NR.out least) (flatZ_one _) (by unfold maxLen; omega) (by omega) (by have := R0.out.2.size; simp; omega) ?_; intro v1 U1 hown' hgrow hat; have hs := grown_seen R0.out.2 R0.out.1 hgrow; have R1 := Lib.hid (And.intro hown' hs); have q1 := (HW.out.2.1.seen hs).cell 1; clear hown' hs hgrow hat R0))
  go_ret
  exact ⟨_, rfl, row_more R1.out.1 (by have := HW.out.2.2; omega), HW.out.1.trans R1.out.2⟩
set_option maxHeartbeats 2000000 in
theorem refAsked_4 (s : Sz) (least most a0 a1 a2 : Int) (w : World) (h1 : ¬ most < a0) (h2 : ¬ a0 < least) :
    Calls Try.prog 9 #[.agg #[.bool s.au, .int .i64 s.n], .int .i64 least, .int .i64 most, .agg #[.int .i64 a0, .int .i64 a1, .int .i64 a2]] w fun e w' => ∃ v, e = .returned v ∧ w'.ownsRow w.heap.size 35 2 v 1 (flatZ [s]) ∧ Seen w w' := by
  obtain ⟨i0, hi, hz0, hz1, hz2⟩ := info_parts info35
  obtain ⟨W, hW⟩ : ∃ W, W = (w.alloc (.cells #[.bool s.au, .int .i64 s.n] 35)).alloc (.cells #[.int .i64 a0, .int .i64 a1, .int .i64 a2] 24) := ⟨_, rfl⟩
  obtain ⟨U0, hU⟩ : ∃ U0, U0 = W.alloc (.cells #[.bool s.au, .int .i64 s.n] 35) := ⟨_, rfl⟩
  have hWz : W.heap.size = w.heap.size + 2 := by rw [hW]; simp
  have sw : Seen w W := by rw [hW]; exact ((Seen.refl w).alloc _).alloc _
  have kW : Blk W (w.heap.size + 1) [.int .i64 a0, .int .i64 a1, .int .i64 a2] 24 := by rw [hW]; simpa using Blk.new (w.alloc (.cells #[.bool s.au, .int .i64 s.n] 35)) [.int .i64 a0, .int .i64 a1, .int .i64 a2] 24
  have s0 : Seen W U0 := by rw [hU]; exact (Seen.refl W).alloc _
  have r0 : U0.ownsRow W.heap.size 35 2 (.slice (some ⟨w.heap.size + 2, 0, none⟩) 1 1) 1 (flatZ [s]) := by
    rw [hU, ← hWz]
    exact ⟨rfl, .inr ⟨W.heap.size, 1, #[.bool s.au, .int .i64 s.n], rfl, Nat.le_refl _, World.alloc_heap_new W _, Nat.le_refl _, by unfold maxLen; omega, rfl, rfl⟩⟩
  have hUU : U0 = ((w.alloc (.cells #[.bool s.au, .int .i64 s.n] 35)).alloc (.cells #[.int .i64 a0, .int .i64 a1, .int .i64 a2] 24)).alloc (.cells #[.bool s.au, .int .i64 s.n] 35) := by rw [hU, hW]
  have k0 := (kW.seen s0).cell 0
  have hUz : U0.heap.size = w.heap.size + 1 + 1 + 1 := by rw [hUU]; simp
  have NR := Lib.hid (show ∀ x : Int, (U0.alloc (.cells #[.bool false, .int .i64 x] 35)).ownsRow 0 35 2 (.slice (some ⟨w.heap.size + 1 + 1 + 1, 0, none⟩) 1 1) 1 (flatZ [⟨false, x⟩]) from fun x => hUz ▸ new_rowZ U0 ⟨false, x⟩ 35)
  clear hUz
  have R0 := Lib.hid (And.intro r0 s0)
  have HW := Lib.hid (And.intro sw (And.intro kW hWz))
  clear hW hU hWz sw kW s0 r0
  go_enter Try.func9, Try.ntmps9
  go_wp2_with fail
  go_ret
  rw [← hUU]
  exact ⟨_, rfl, row_more R0.out.1 (by have := HW.out.2.2; omega), HW.out.1.trans R0.out.2⟩
theorem refAsked_any (s : Sz) (least most a0 a1 a2 : Int) (w : World) :
    Calls Try.prog 9 #[.agg #[.bool s.au, .int .i64 s.n], .int .i64 least, .int .i64 most, .agg #[.int .i64 a0, .int .i64 a1, .int .i64 a2]] w fun e w' => ∃ v, e = .returned v ∧ w'.ownsRow w.heap.size 35 2 v (askedL s least most a0 a1).length (flatZ (askedL s least most a0 a1)) ∧ Seen w w' := by
  by_cases h1 : most < a0
  · by_cases h2 : a1 < least
    · rw [askedL, if_pos h1, if_pos h2]; exact refAsked_1 s least most a0 a1 a2 w h1 h2
    · rw [askedL, if_pos h1, if_neg h2]; exact refAsked_2 s least most a0 a1 a2 w h1 h2
  · by_cases h2 : a0 < least
    · rw [askedL, if_neg h1, if_pos h2]; exact refAsked_3 s least most a0 a1 a2 w h1 h2
    · rw [askedL, if_neg h1, if_neg h2]; exact refAsked_4 s least most a0 a1 a2 w h1 h2
end Go.Proofs.Ytodkkjpeonibnaa
