/- Contracts of the Agenda's methods, on a nil Agenda and on one whose list lies at a block. -/
import Derived.Test.YtacdgfihabjfkaaHeap
namespace Go.Proofs.Ytacdgfihabjfkaa
open Go.ChangeShapes Go.WideShapes Go.ChangeAt Go.RowKit
section
variable {base B : Nat} {T : Nat → Prop} {l : List E3} {w : World}
theorem HS.low (h : HS base B T l w) : ∀ k, T k → k < w.heap.size := by
  obtain ⟨v, hv, hr, hT⟩ := h
  intro k hk
  rcases (hT k).1 hk with rfl | h
  · exact hv.lt
  · exact (hr.lt k h).2
theorem HS.keeps (h : HS base B T l w) {w' : World} (hk : ∀ k, T k → w'.heap[k]? = w.heap[k]?) : HS base B T l w' := by
  obtain ⟨v, hv, hr, hT⟩ := h
  exact ⟨v, (hk B ((hT B).2 (.inl rfl))).trans hv, ownsRow_keeps hr (fun k h => hk k ((hT k).2 (.inr h))), hT⟩
theorem HS.seen (h : HS base B T l w) {w' : World} (hs : Seen w w') : HS base B T l w' := h.keeps fun k hk => hs.block k (h.low k hk)
theorem HS.cell (h : HS base B T l w) : ∃ a c, w.cell? ⟨B, 0, none⟩ = some (.slice a l.length c) ∧ ES w a l.length l := by
  obtain ⟨v, hv, hr, hT⟩ := h
  obtain ⟨a, c, rfl, he, _⟩ := es_of_own hr rfl
  exact ⟨a, c, hv.cell, he⟩
end
theorem agLen_nil (w : World) : Calls Try.prog 13 #[.pointer none] w fun e w' => e = .returned (.int .i64 0) ∧ w' = w := by
  go_enter Try.func13, Try.ntmps13
  go_wp2_with fail
  go_ret
  exact ⟨rfl, rfl⟩
theorem agLen_any (B : Nat) (a : Option Addr) (n c : Nat) (w : World) (hc : w.cell? ⟨B, 0, none⟩ = some (.slice a n c)) : Calls Try.prog 13 #[.pointer (some ⟨B, 0, none⟩)] w fun e w' => e = .returned (.int .i64 n) ∧ w' = w := by
  go_enter Try.func13, Try.ntmps13
  go_wp2_with fail
  go_ret
  exact ⟨rfl, rfl⟩
theorem add_nil (x : E3) (w : World) : Calls Try.prog 9 #[.pointer none, .agg #[.int .i64 x.k, .int .i64 x.t, .int .i64 x.n]] w fun e w' => e = .returned (.tuple #[]) ∧ Below w.heap.size w w' := by
  go_enter Try.func9, Try.ntmps9
  go_wp2_with fail
  go_end0
  exact ⟨rfl, by go_grown⟩
set_option maxHeartbeats 2000000 in
theorem add_any (base B : Nat) (T : Nat → Prop) (l : List E3) (x : E3) (w : World) (h : HS base B T l w) (hb : base ≤ w.heap.size) (hn : l.length + 1 ≤ 1000000) (hp : HeapP l l.length) :
    Calls Try.prog 9 #[.pointer (some ⟨B, 0, none⟩), .agg #[.int .i64 x.k, .int .i64 x.t, .int .i64 x.n]] w fun e w' => e = .returned (.tuple #[]) ∧ ∃ T' l', Moves T T' w w' ∧ HS base B T' l' w' ∧ HeapP l' l'.length ∧ l'.Perm (x :: l) := by
  have HH := Lib.hid h
  have HP := Lib.hid hp
  clear h hp
  go_enter Try.func9, Try.ntmps9
  go_wp2_with fail
  obtain ⟨W, hW⟩ : ∃ W, W = w.alloc (.cells #[.int .i64 x.k, .int .i64 x.t, .int .i64 x.n] 31) := ⟨_, rfl⟩
  have c0 : W.cell? ⟨w.heap.size, 0, none⟩ = some (.int .i64 x.k) := by rw [hW]; simp
  have c1 : W.cell? ⟨w.heap.size, 1, none⟩ = some (.int .i64 x.t) := by rw [hW]; simp
  have c2 : W.cell? ⟨w.heap.size, 2, none⟩ = some (.int .i64 x.n) := by rw [hW]; simp
  have HS1 : Hid (Seen w W.drew) := by rw [hW]; exact ((Seen.refl w).alloc _).drew
  rw [← hW]
  clear hW
  refine wp_region_still_tail 6 (by kernel_rfl) (by kernel_rfl) ?_
  simp only [List.take_succ_cons, List.take_zero, List.drop_succ_cons, List.drop_zero]
  still_step
  still_step
  still_step
  still_step
  still_step
  still_step
  refine wpStill_nil ?_
  go_wp2_with (go_at_call 18; refine (hpush_any base B T l x W.drew (HH.out.seen HS1.out) (Nat.le_trans hb HS1.out.size) hn HP.out).mono ?_; rintro e w' ⟨rfl, T', l', mv, hs, hp, hperm⟩; have HR := Lib.hid (And.intro mv (And.intro hs (And.intro hp hperm))); clear mv hs hp hperm)
  go_end0
  obtain ⟨mv, hs, hp, hperm⟩ := HR.out
  exact ⟨rfl, T', l', (Moves.of_below HS1.out).trans mv, hs, hp, hperm⟩
set_option maxHeartbeats 2000000 in
theorem next_nil (w : World) : Calls Try.prog 10 #[.pointer none] w fun e w' => e = .returned (.tuple #[.agg #[.int .i64 0, .int .i64 0, .int .i64 0], .bool false]) ∧ Below w.heap.size w w' := by
  go_enter Try.func10, Try.ntmps10
  go_wp2_with (go_at_call 13; refine (agLen_nil _).mono ?_; rintro e w' ⟨rfl, rfl⟩)
  go_returns
  exact ⟨rfl, by go_grown⟩
set_option maxHeartbeats 2000000 in
theorem peek_nil (w : World) : Calls Try.prog 12 #[.pointer none] w fun e w' => e = .returned (.tuple #[.agg #[.int .i64 0, .int .i64 0, .int .i64 0], .bool false]) ∧ Below w.heap.size w w' := by
  go_enter Try.func12, Try.ntmps12
  go_wp2_with (go_at_call 13; refine (agLen_nil _).mono ?_; rintro e w' ⟨rfl, rfl⟩)
  go_returns
  exact ⟨rfl, by go_grown⟩
set_option maxHeartbeats 2000000 in
theorem next_none (B : Nat) (a : Option Addr) (c : Nat) (w : World) (hc : w.cell? ⟨B, 0, none⟩ = some (.slice a 0 c)) : Calls Try.prog 10 #[.pointer (some ⟨B, 0, none⟩)] w fun e w' => e = .returned (.tuple #[.agg #[.int .i64 0, .int .i64 0, .int .i64 0], .bool false]) ∧ Below w.heap.size w w' := by
  have hca : ∀ o, (w.alloc o).cell? ⟨B, 0, none⟩ = some (.slice a 0 c) := fun o => ((Seen.refl w).alloc o).cell hc
  go_enter Try.func10, Try.ntmps10
  go_wp2_with (go_at_call 13; refine (agLen_any B a 0 c _ (hca _)).mono ?_; rintro e w' ⟨rfl, rfl⟩)
  go_returns
  exact ⟨rfl, by go_grown⟩
set_option maxHeartbeats 2000000 in
theorem peek_none (B : Nat) (a : Option Addr) (c : Nat) (w : World) (hc : w.cell? ⟨B, 0, none⟩ = some (.slice a 0 c)) : Calls Try.prog 12 #[.pointer (some ⟨B, 0, none⟩)] w fun e w' => e = .returned (.tuple #[.agg #[.int .i64 0, .int .i64 0, .int .i64 0], .bool false]) ∧ Below w.heap.size w w' := by
  have hca : ∀ o, (w.alloc o).cell? ⟨B, 0, none⟩ = some (.slice a 0 c) := fun o => ((Seen.refl w).alloc o).cell hc
  go_enter Try.func12, Try.ntmps12
  go_wp2_with (go_at_call 13; refine (agLen_any B a 0 c _ (hca _)).mono ?_; rintro e w' ⟨rfl, rfl⟩)
  go_returns
  exact ⟨rfl, by go_grown⟩
set_option maxHeartbeats 2000000 in
theorem peek_some (B : Nat) (a : Option Addr) (n c : Nat) (l : List E3) (w : World) (hc : w.cell? ⟨B, 0, none⟩ = some (.slice a (n + 1) c)) (he : ES w a (n + 1) l) (hn : n ≤ 1000000) : Calls Try.prog 12 #[.pointer (some ⟨B, 0, none⟩)] w fun e w' => e = .returned (.tuple #[.agg #[.int .i64 (eat l 0).k, .int .i64 (eat l 0).t, .int .i64 (eat l 0).n], .bool true]) ∧ Below w.heap.size w w' := by
  have hca : ∀ o, (w.alloc o).cell? ⟨B, 0, none⟩ = some (.slice a (n + 1) c) := fun o => ((Seen.refl w).alloc o).cell hc
  obtain ⟨b, off, rfl, hat⟩ := he.2 (by omega)
  have h0 := hat 0 (by omega)
  rw [Nat.zero_mul, Nat.add_zero] at h0
  have k0 : ∀ o, (w.alloc o).cell? ⟨b, off, none⟩ = some (.int .i64 (eat l 0).k) := fun o => ((Seen.refl w).alloc o).cell h0.1
  have k1 : ∀ o, (w.alloc o).cell? ⟨b, off + 1, none⟩ = some (.int .i64 (eat l 0).t) := fun o => ((Seen.refl w).alloc o).cell h0.2.1
  have k2 : ∀ o, (w.alloc o).cell? ⟨b, off + 2, none⟩ = some (.int .i64 (eat l 0).n) := fun o => ((Seen.refl w).alloc o).cell h0.2.2
  have hne : (((n + 1 : Nat) : Int) == 0) = false := by rw [beq_eq_false_iff_ne]; omega
  have hlt : (0 : Int) < ((n + 1 : Nat) : Int) := by omega
  clear hat he h0
  go_enter Try.func12, Try.ntmps12
  go_wp2_with (go_at_call 13; refine (agLen_any B _ (n + 1) c _ (hca _)).mono ?_; rintro e w' ⟨rfl, rfl⟩)
  go_returns
  exact ⟨rfl, by go_grown⟩
set_option maxHeartbeats 2000000 in
theorem next_some (base B : Nat) (T : Nat → Prop) (l : List E3) (n : Nat) (w : World) (h : HS base B T l w) (hl : l.length = n + 1) (hn : n + 1 ≤ 1000000) (hp : HeapP l l.length) :
    Calls Try.prog 10 #[.pointer (some ⟨B, 0, none⟩)] w fun e w' => e = .returned (.tuple #[.agg #[.int .i64 (eat l 0).k, .int .i64 (eat l 0).t, .int .i64 (eat l 0).n], .bool true]) ∧ ∃ l', Moves T T w w' ∧ HS base B T l' w' ∧ HeapP l' l'.length ∧ l.Perm (eat l 0 :: l') := by
  obtain ⟨a, c, hc, _⟩ := h.cell
  rw [hl] at hc
  have hca : ∀ o, (w.alloc o).cell? ⟨B, 0, none⟩ = some (.slice a (n + 1) c) := fun o => ((Seen.refl w).alloc o).cell hc
  have hne : (((n + 1 : Nat) : Int) == 0) = false := by rw [beq_eq_false_iff_ne]; omega
  have hta := run_assert (eat l 0).k (eat l 0).t (eat l 0).n
  have HH := Lib.hid h
  have HP := Lib.hid hp
  have HL := Lib.hid hl
  clear h hp hl
  go_enter Try.func10, Try.ntmps10
  go_wp2_with (first
    | (go_at_call 13; refine (agLen_any B _ (n + 1) c _ (hca _)).mono ?_; rintro e w' ⟨rfl, rfl⟩)
    | (go_at_call 19; refine (hpop_any base B T l n _ (HH.out.seen ((Seen.refl w).alloc _)) HL.out hn HP.out).mono ?_; rintro e w2 ⟨rfl, l', mv, hs, hp, hperm⟩; have hx : w2.heap[w.heap.size]? = some (.cells #[.int .i64 0, .int .i64 0, .int .i64 0] 31) := (mv.block _ (by simp) (fun ht => by have := HH.out.low _ ht; omega)).trans (World.alloc_heap_new w _); have x0 : w2.cell? ⟨w.heap.size, 0, none⟩ = some (.int .i64 0) := by rw [Go.Joins.cell_of_block hx]; rfl
       have x1 : w2.cell? ⟨w.heap.size, 1, none⟩ = some (.int .i64 0) := by rw [Go.Joins.cell_of_block hx]; rfl
       have x2 : w2.cell? ⟨w.heap.size, 2, none⟩ = some (.int .i64 0) := by rw [Go.Joins.cell_of_block hx]; rfl
       have y0 : ∀ o, w2.frozen? ⟨w.heap.size, o, none⟩ = false := fun o => by simp [World.frozen?, hx]
       have HR := Lib.hid (And.intro mv (And.intro hs (And.intro hp hperm))); clear mv hs hp hperm hx))
  refine bodyPost_ret (by simp [results, Try.results10, go_sem, x0, x1, x2]; try rfl) rfl ?_
  obtain ⟨mv, hs, hp, hperm⟩ := HR.out
  have hb : ∀ k, k ≠ w.heap.size → ((((w2.setCell ⟨w.heap.size, 0, none⟩ (.int .i64 (eat l 0).k)).setCell ⟨w.heap.size, 1, none⟩ (.int .i64 (eat l 0).t)).setCell ⟨w.heap.size, 2, none⟩ (.int .i64 (eat l 0).n))).heap[k]? = w2.heap[k]? := fun k hk =>
    (Below.heap_setCell _ _ _ _ hk).trans ((Below.heap_setCell _ _ _ _ hk).trans (Below.heap_setCell _ _ _ _ hk))
  have hlow := HH.out.low
  refine ⟨rfl, l', ⟨mv.os, mv.tape, mv.output, ?_, fun k hk ht => ?_, fun k hk => .inl hk⟩, hs.keeps fun k hk => hb k (fun e => by have := hlow k hk; omega), hp, hperm⟩
  · have := mv.size
    simp [World.setCell] at this ⊢; omega
  · rw [hb k (by omega), mv.block k (by simp; omega) ht]
    exact Below.heap_alloc w _ k hk
end Go.Proofs.Ytacdgfihabjfkaa
