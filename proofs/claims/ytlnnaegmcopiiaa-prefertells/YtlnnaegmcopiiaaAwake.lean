/- Contracts of the law's own Plain and awake; no conditions beyond those written in each theorem. -/
import Derived.Test.YtlnnaegmcopiiaaStyMem
namespace Go.Proofs.Ytlnnaegmcopiiaa
open Go.ChangeShapes Go.WideShapes Go.ChangeAt Go.RowKit
set_option maxRecDepth 100000
/-- The style that the law calls plain, with k of its four pads laid. -/
def plainK (k : Nat) : Sty := ⟨true, 0, List.replicate 14 ⟨0, 0⟩ ++ (List.replicate k ⟨1, 0⟩ ++ List.replicate (4 - k) ⟨0, 0⟩), [0, 0, 0, 0], false, false, 0, false, 0, 0⟩
theorem plain_full {k : Nat} (h : k ≤ 4) : Full (plainK k) := ⟨by simp [plainK]; omega, rfl⟩
theorem plain_step {k : Nat} (h : k < 4) : ((stl (plainK k)).set (30 + k * 2) (.int .i64 1)).set (30 + k * 2 + 1) (.int .i64 0) = stl (plainK (k + 1)) := by
  match k, h with
  | 0, _ => rfl
  | 1, _ => rfl
  | 2, _ => rfl
  | 3, _ => rfl
theorem Hs.keeps {w w' : World} {X : Nat} {s : Sty} (h : Hs w X s) (e : w'.heap[X]? = w.heap[X]?) : Hs w' X s := e.trans h
theorem zero_lit : (#[.bool false, .int .i64 0, .int .i64 0, .int .i64 0, .int .i64 0, .int .i64 0, .int .i64 0, .int .i64 0, .int .i64 0, .int .i64 0, .int .i64 0, .int .i64 0, .int .i64 0, .int .i64 0, .int .i64 0, .int .i64 0, .int .i64 0, .int .i64 0, .int .i64 0, .int .i64 0, .int .i64 0, .int .i64 0, .int .i64 0, .int .i64 0, .int .i64 0, .int .i64 0, .int .i64 0, .int .i64 0, .int .i64 0, .int .i64 0, .int .i64 0, .int .i64 0, .int .i64 0, .int .i64 0, .int .i64 0, .int .i64 0, .int .i64 0, .int .i64 0, .int .i64 0, .int .i64 0, .int .i64 0, .int .i64 0, .bool false, .bool false, .int .i64 0, .bool false, .int .i64 0, .int .i64 0] : Array Value) = (stl zeroS).toArray := by kernel_rfl
theorem plain_lit : (#[.bool true, .int .i64 0, .int .i64 0, .int .i64 0, .int .i64 0, .int .i64 0, .int .i64 0, .int .i64 0, .int .i64 0, .int .i64 0, .int .i64 0, .int .i64 0, .int .i64 0, .int .i64 0, .int .i64 0, .int .i64 0, .int .i64 0, .int .i64 0, .int .i64 0, .int .i64 0, .int .i64 0, .int .i64 0, .int .i64 0, .int .i64 0, .int .i64 0, .int .i64 0, .int .i64 0, .int .i64 0, .int .i64 0, .int .i64 0, .int .i64 0, .int .i64 0, .int .i64 0, .int .i64 0, .int .i64 0, .int .i64 0, .int .i64 0, .int .i64 0, .int .i64 0, .int .i64 0, .int .i64 0, .int .i64 0, .bool false, .bool false, .int .i64 0, .bool false, .int .i64 0, .int .i64 0] : Array Value) = (stl (plainK 0)).toArray := by kernel_rfl
set_option maxRecDepth 100000 in
set_option maxHeartbeats 4000000 in
theorem plain_any (w : World) : Calls Try.prog 10 #[] w fun e w' => e = .returned (sv (plainK 4)) ∧ Seen w w' := by
  obtain ⟨W, hW⟩ : ∃ W, W = (w.alloc (.cells (stl zeroS).toArray 39)).alloc (.cells (stl zeroS).toArray 39) := ⟨_, rfl⟩
  have HZ : Hid (Hs W w.heap.size zeroS) := by rw [hW]; exact (hs_new w zeroS).seen ((Seen.refl _).alloc _)
  have HP : Hid (Hs W (w.heap.size + 1) zeroS) := by
    unfold Hid
    rw [hW]
    have := hs_new (w.alloc (.cells (stl zeroS).toArray 39)) zeroS
    simpa using this
  have SW : Hid (Seen w W) := by rw [hW]; exact ((Seen.refl w).alloc _).alloc _
  go_enter Try.func10, Try.ntmps10
  go_wp2_with (rw [plain_lit, zero_lit, ← hW]; refine wpList_storeS rfl _ _ rfl (w.heap.size + 1) zeroS (plainK 0) rfl rfl (plain_full (by omega)) zero_full HP.out ?_; intro w1 hs1 ht1; have R1 := Lib.hid (And.intro hs1 ht1); clear hs1 ht1 hW)
  go_loopw [4] (fun i wr => ∃ k : Nat, k ≤ 4 ∧ i = .int .i64 k ∧ Hs wr w.heap.size zeroS ∧ Hs wr (w.heap.size + 1) (plainK k) ∧ Seen w wr) (fun i _ => 4 - (intOf i).toNat)
  case atStart =>
    exact ⟨0, Nat.zero_le _, rfl, HZ.out.keeps (R1.out.2.block _ HZ.out.lt (by omega)), R1.out.1, SW.out.turns R1.out.2 (by omega)⟩
  case round =>
    obtain ⟨k, hk, rfl, h1, h2, h3⟩ := hrel
    have H1 := Lib.hid h1
    have H2 := Lib.hid h2
    have H3 := Lib.hid h3
    clear h1 h2 h3
    by_cases hlt : k < 4
    · have hk' : (k : Int) < 4 := by omega
      obtain ⟨c0, c1⟩ := H2.out.two (plain_full hk) (i := 14 + k) (by omega)
      rw [show 2 + (14 + k) * 2 = 30 + k * 2 by omega] at c0 c1
      have f0 := H2.out.free (30 + k * 2)
      have f1 := H2.out.free (30 + k * 2 + 1)
      go_wp2_with fail
      refine ⟨⟨k + 1, hlt, by go_num, H1.out.keeps ?_, ?_, ?_⟩, by simp [intOf]; omega⟩
      · rw [Below.heap_setCell _ ⟨w.heap.size + 1, 30 + k * 2 + 1, none⟩ _ _ (by show w.heap.size ≠ w.heap.size + 1; omega), Below.heap_setCell _ ⟨w.heap.size + 1, 30 + k * 2, none⟩ _ _ (by show w.heap.size ≠ w.heap.size + 1; omega)]
      · exact Hs.set (Hs.set H2.out _ _ rfl) _ _ (plain_step hlt)
      · exact (H3.out.turns (Turns.set _ _ _ _) (by omega)).turns (Turns.set _ _ _ _) (by omega)
    · have hk' : ¬ (k : Int) < 4 := by omega
      obtain rfl : k = 4 := by omega
      go_wp2_with (first
        | refine wpList_loadS rfl _ rfl (w.heap.size + 1) (plainK 4) rfl (plain_full hk) H2.out ?_
        | (refine wpList_storeS rfl _ _ rfl w.heap.size zeroS (plainK 4) rfl rfl (plain_full hk) zero_full H1.out ?_; intro w2 hs2 ht2; have R2 := Lib.hid (And.intro hs2 ht2); clear hs2 ht2))
      refine bodyPost_ret (results_cell Try.results10 rfl (run_loadS R2.out.1 (plain_full hk))) rfl ?_
      exact ⟨rfl, H3.out.turns R2.out.2 (Nat.le_refl _)⟩
theorem plain_formed : formedB (plainK 4) = true := decide_eq_true (by unfold FormedP; exact ⟨by decide, by decide, by decide, by decide, by decide⟩)
theorem plain_within : withinB (plainK 4) = true := decide_eq_true (by unfold WithinP; exact ⟨by decide, by decide, by decide⟩)
theorem zero_unformed : formedB zeroS = false := decide_eq_false fun h => (h.2.2.1 0 (by omega)).1 (by decide)
end Go.Proofs.Ytlnnaegmcopiiaa
