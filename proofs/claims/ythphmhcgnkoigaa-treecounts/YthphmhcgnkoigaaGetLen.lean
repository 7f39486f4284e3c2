/- Contracts of getLen and getLens; no conditions beyond those written in each theorem. -/
import Derived.Test.YthphmhcgnkoigaaStyMem
namespace Go.Proofs.Ythphmhcgnkoigaa
open Go.ChangeShapes Go.WideShapes Go.ChangeAt Go.RowKit
set_option maxRecDepth 100000
/-- The In at block B has this left. -/
def IT (K : Nat → Prop) (B : Nat) (t : St) (w : World) : Prop := IS K B t.l t.bad w
section
variable {K : Nat → Prop} {B X : Nat} {t : St} {w w1 w2 : World}
theorem Turns.alloc (h : Turns B w w1) (o : Obj) : Turns B w (w1.alloc o) := Moves.newer h (Below.alloc (Below.refl _ _) h.size o)
theorem Turns.next (h : Turns B w w1) (hs : Seen w1 w2) : Turns B w w2 := Moves.newer h (hs.mono h.size)
theorem Turns.fresh (h : Turns B w w1) (hx : Turns X w1 w2) (hX : w.heap.size ≤ X) : Turns B w w2 := Moves.newer h (hx.below h.size hX)
theorem Turns.set_new (h : Turns B w w1) (hX : w.heap.size ≤ X) (o : Nat) (v : Value) : Turns B w (w1.setCell ⟨X, o, none⟩ v) := h.fresh (Turns.set w1 X o v) hX
theorem Turns.refl (B : Nat) (w : World) : Turns B w w := Moves.refl _ _
theorem IT.lt (h : IT K B t w) : B < w.heap.size := h.2.1 B h.1
theorem IT.seen (h : IT K B t w) (hs : Seen w w1) : IT K B t w1 := IS.seen h hs
/-- Another owner's step. -/
theorem IT.other (h : IT K B t w1) (hx : Turns X w1 w2) (hX : ¬ K X) : IT K B t w2 := IS.keeps h fun k hk => hx.block k (h.2.1 k hk) (fun e => hX (e ▸ hk))
theorem IT.set (h : IT K B t w1) (hX : ¬ K X) (o : Nat) (v : Value) : IT K B t (w1.setCell ⟨X, o, none⟩ v) := h.other (Turns.set w1 X o v) hX
theorem IT.ok (h : IT K B t w) : Bytes8 t.l := IS.bytes h
theorem IT.byte (h : IT K B t w) : Calls Try.prog 63 #[.pointer (some ⟨B, 0, none⟩)] w fun e w' => e = .returned (.int .u8 (tkV 1 t.l)) ∧ Turns B w w' ∧ IT K B (adv 1 t) w' := iByte_any h
theorem IT.eight (h : IT K B t w) : Calls Try.prog 67 #[.pointer (some ⟨B, 0, none⟩)] w fun e w' => e = .returned (.int .i64 (n8 t)) ∧ Turns B w w' ∧ IT K B (adv 8 t) w' := iEight_any h
end
theorem cells2 {w : World} {X : Nat} {t : TypeId} {a b : Value} (h : w.heap[X]? = some (.cells #[a, b] t)) : w.cell? ⟨X, 0, none⟩ = some a ∧ w.cell? ⟨X, 1, none⟩ = some b ∧ (∀ o, w.frozen? ⟨X, o, none⟩ = false) ∧ X < w.heap.size := by
  refine ⟨by rw [Go.Joins.cell_of_block h]; rfl, by rw [Go.Joins.cell_of_block h]; rfl, fun o => by simp [World.frozen?, h], ?_⟩
  rcases Nat.lt_or_ge X w.heap.size with h1 | h1
  · exact h1
  · rw [Array.getElem?_eq_none h1] at h; cases h
theorem run_loadL {w : World} {X : Nat} {a b : Value} (h : w.heap[X]? = some (.cells #[a, b] 43)) : (loadVar 43 ⟨X, 0, none⟩).run Try.prog w = .ok (.agg #[a, b]) w := by
  refine run_loadVar_mid w X 0 43 [a, b] _ ?_ Try.underlying43 rfl (by kernel_rfl)
  intro j v hj
  rw [Go.Joins.cell_of_block h]
  simpa using hj
theorem set2 {w : World} {X : Nat} {t : TypeId} {a b c d : Value} (h : w.heap[X]? = some (.cells #[a, b] t)) : ((w.setCell ⟨X, 0, none⟩ c).setCell ⟨X, 1, none⟩ d).heap[X]? = some (.cells #[c, d] t) := by
  rw [Go.Joins.block_setCell (Go.Joins.block_setCell h _) _]; rfl
theorem lnV_zero {t : St} (h : tkV 1 t.l = 0) : lnV t = ⟨0, 0⟩ ∧ lnS t = adv 1 t := ⟨if_pos h, if_pos h⟩
theorem lnV_more {t : St} {k : Int} (h : tkV 1 t.l = k) (h0 : k ≠ 0) : lnV t = ⟨k, n8 (adv 1 t)⟩ ∧ lnS t = adv 8 (adv 1 t) := by
  subst h; exact ⟨if_neg h0, if_neg h0⟩
set_option maxHeartbeats 4000000 in
theorem getLen_any {K : Nat → Prop} {B : Nat} {t : St} {w : World} (h : IT K B t w) : Calls Try.prog 66 #[.pointer (some ⟨B, 0, none⟩)] w fun e w' =>
    e = .returned (.agg #[.int .i64 (lnV t).k, .int .i64 (lnV t).n]) ∧ Turns B w w' ∧ IT K B (lnS t) w' := by
  have hBlt := h.lt
  have HK : Hid (∀ k, K k → k < w.heap.size) := h.2.1
  have hk01 := tk1_lt h.ok
  obtain ⟨W0, hW0⟩ : ∃ W0, W0 = w.alloc (.cells #[.int .i64 0, .int .i64 0] 43) := ⟨_, rfl⟩
  have S0 : Hid (Seen w W0) := by rw [hW0]; exact (Seen.refl w).alloc _
  have hX0 : Hid (W0.heap[w.heap.size]? = some (.cells #[.int .i64 0, .int .i64 0] 43)) := by rw [hW0]; exact World.alloc_heap_new w _
  have H0 : Hid (IT K B t W0) := h.seen S0.out
  obtain ⟨k, hk⟩ : ∃ k, tkV 1 t.l = k := ⟨_, rfl⟩
  rw [hk] at hk01
  obtain ⟨hk0, hk1⟩ := hk01
  have HKk := Lib.hid hk
  have hwr : IntKind.i64.wrap k = k := by rw [IntKind.wrap_i64]; omega
  clear h hk
  have A0 : Hid (∀ w1, Turns B W0 w1 → IT K B (adv 1 t) w1 → w1.heap[w.heap.size]? = some (.cells #[.int .i64 0, .int .i64 0] 43)) := fun w1 ht _ => (ht.block _ (by have := cells2 hX0.out; omega) (by omega)).trans hX0.out
  cases hz : (k == 0)
  · have hz' : Hid (k ≠ 0) := by simpa [Hid] using hz
    go_enter Try.func66, Try.ntmps66
    go_wp2_with (first
      | (go_at_call 63; rw [← hW0]; clear hW0; refine H0.out.byte.mono ?_; rintro _ w1 ⟨rfl, ht1, hi1⟩; rw [HKk.out]; have T1 := Lib.hid ht1; have I1 := Lib.hid hi1; have X1 := Lib.hid (A0.out w1 ht1 hi1); have z1 := (cells2 X1.out).2.2.2; clear ht1 hi1 A0)
      | (go_at_call 67; refine (I1.out.seen ((Seen.refl w1).alloc _)).eight.mono ?_; rintro _ w2 ⟨rfl, ht2, hi2⟩; have T2 := Lib.hid ht2; have I2 := Lib.hid hi2
         have Y2 : Hid (w2.heap[w1.heap.size]? = some (.cells #[.int .i64 k, .int .i64 0] 43)) := (ht2.block _ (by simp) (by omega)).trans (World.alloc_heap_new w1 _)
         have X2 : Hid (w2.heap[w.heap.size]? = some (.cells #[.int .i64 0, .int .i64 0] 43)) := (ht2.block _ (by simp; omega) (by omega)).trans ((Below.heap_alloc w1 _ _ z1).trans X1.out)
         obtain ⟨y0, y1, yf, yl⟩ := cells2 Y2.out
         obtain ⟨x0, x1, xf, xl⟩ := cells2 X2.out
         clear ht2 hi2))
    obtain ⟨e1, e2⟩ := lnV_more HKk.out hz'.out
    have hb : (w2.setCell ⟨w1.heap.size, 1, none⟩ (.int .i64 (n8 (adv 1 t)))).heap[w.heap.size]? = some (.cells #[.int .i64 0, .int .i64 0] 43) := (Below.heap_setCell w2 ⟨w1.heap.size, 1, none⟩ _ _ (by show w.heap.size ≠ w1.heap.size; omega)).trans X2.out
    refine bodyPost_ret (results_cell Try.results66 rfl (run_loadL (set2 hb))) rfl ?_
    rw [e1, e2]
    have nK : ∀ x, w.heap.size ≤ x → ¬ K x := fun x hx hk => by have := HK.out x hk; omega
    refine ⟨rfl, ?_, ((I2.out.set (nK _ (by omega)) _ _).set (nK _ (Nat.le_refl _)) _ _).set (nK _ (Nat.le_refl _)) _ _⟩
    exact ((((((Turns.refl B w).next S0.out).trans T1.out).alloc _).trans T2.out).set_new (by omega) _ _).set_new (Nat.le_refl _) _ _ |>.set_new (Nat.le_refl _) _ _
  · have hz' : Hid (k = 0) := by simpa [Hid] using hz
    go_enter Try.func66, Try.ntmps66
    go_wp2_with (go_at_call 63; rw [← hW0]; clear hW0; refine H0.out.byte.mono ?_; rintro _ w1 ⟨rfl, ht1, hi1⟩; rw [HKk.out]; have T1 := Lib.hid ht1; have I1 := Lib.hid hi1; have X1 := Lib.hid (A0.out w1 ht1 hi1); have z1 := (cells2 X1.out).2.2.2
                 obtain ⟨x0, x1, xf, xl⟩ := cells2 X1.out
                 clear ht1 hi1 A0)
    obtain ⟨e1, e2⟩ := lnV_zero (HKk.out.trans hz'.out)
    have hs2 := set2 (c := .int .i64 k) (d := .int .i64 0) X1.out
    have hsl : w.heap.size < ((w1.setCell ⟨w.heap.size, 0, none⟩ (.int .i64 k)).setCell ⟨w.heap.size, 1, none⟩ (.int .i64 0)).heap.size := by simpa [World.setCell] using xl
    refine bodyPost_ret (results_cell Try.results66 rfl (run_loadL ((Below.heap_alloc _ _ _ hsl).trans hs2))) rfl ?_
    rw [e1, e2]
    have nK : ∀ x, w.heap.size ≤ x → ¬ K x := fun x hx hk => by have := HK.out x hk; omega
    refine ⟨by rw [hz'.out], ?_, IT.seen ((I1.out.set (nK _ (Nat.le_refl _)) _ _).set (nK _ (Nat.le_refl _)) _ _) ((Seen.refl _).alloc _)⟩
    exact (((((Turns.refl B w).next S0.out).trans T1.out).set_new (Nat.le_refl _) _ _).set_new (Nat.le_refl _) _ _).alloc _
theorem run_load4 {w : World} {X : Nat} {l : List Ln} (h : w.heap[X]? = some (.cells (flatL l).toArray 44)) (hl : l.length = 4) : (loadVar 44 ⟨X, 0, none⟩).run Try.prog w = .ok (.agg (flatL l).toArray) w := by
  refine run_loadVar_mid w X 0 44 (flatL l) _ ?_ Try.underlying44 rfl (by rw [flatL_length, hl]; exact info24)
  intro j v hj
  rw [Go.Joins.cell_of_block h]
  simpa using hj
theorem range_block {w : World} {X : Nat} {cs : List Value} {t : TypeId} (h : w.heap[X]? = some (.cells cs.toArray t)) : w.rangeAt X 0 cs := fun j v hj => by
  rw [Go.Joins.cell_of_block h]
  simpa using hj
theorem four_step {D : List Ln} {k : Nat} (x : Ln) (hD : D.length = k) (hk : k < 4) :
    ((flatL (D ++ List.replicate (4 - k) ⟨0, 0⟩)).set (k * 2) (.int .i64 x.k)).set (k * 2 + 1) (.int .i64 x.n) = flatL (D ++ [x] ++ List.replicate (4 - (k + 1)) ⟨0, 0⟩) := by
  have hr : List.replicate (4 - k) (⟨0, 0⟩ : Ln) = ⟨0, 0⟩ :: List.replicate (4 - (k + 1)) ⟨0, 0⟩ := by
    rw [← List.replicate_succ]; congr 1; omega
  have := setsL_mid (flatL D) [.int .i64 0, .int .i64 0] (flatL (List.replicate (4 - (k + 1)) ⟨0, 0⟩)) [.int .i64 x.k, .int .i64 x.n] rfl
  rw [flatL_length, hD] at this
  rw [hr, flatL_append, flatL_append, flatL_append]
  rw [List.append_assoc]
  exact this
theorem zero4 : (#[.int .i64 0, .int .i64 0, .int .i64 0, .int .i64 0, .int .i64 0, .int .i64 0, .int .i64 0, .int .i64 0] : Array Value) = (flatL (List.replicate 4 ⟨0, 0⟩)).toArray := rfl
set_option maxHeartbeats 4000000 in
theorem getLens_any {K : Nat → Prop} {B : Nat} {t : St} {w : World} (h : IT K B t w) : Calls Try.prog 65 #[.pointer (some ⟨B, 0, none⟩)] w fun e w' =>
    e = .returned (.agg (flatL (lnsV 4 t)).toArray) ∧ Turns B w w' ∧ IT K B (lnsS 4 t) w' := by
  have hBlt := h.lt
  have HK : Hid (∀ k, K k → k < w.heap.size) := h.2.1
  obtain ⟨W, hW⟩ : ∃ W, W = (w.alloc (.cells (flatL (List.replicate 4 ⟨0, 0⟩)).toArray 44)).alloc (.cells (flatL (List.replicate 4 ⟨0, 0⟩)).toArray 44) := ⟨_, rfl⟩
  have S0 : Hid (Seen w W) := by rw [hW]; exact ((Seen.refl w).alloc _).alloc _
  have HX : Hid (W.heap[w.heap.size]? = some (.cells (flatL (List.replicate 4 ⟨0, 0⟩)).toArray 44)) := by rw [hW]; exact (Below.heap_alloc _ _ _ (by simp)).trans (World.alloc_heap_new w _)
  have HY : Hid (W.heap[w.heap.size + 1]? = some (.cells (flatL (List.replicate 4 ⟨0, 0⟩)).toArray 44)) := by
    unfold Hid
    rw [hW]
    have := World.alloc_heap_new (w.alloc (.cells (flatL (List.replicate 4 ⟨0, 0⟩)).toArray 44)) (.cells (flatL (List.replicate 4 ⟨0, 0⟩)).toArray 44)
    simpa using this
  have H0 : Hid (IT K B t W) := h.seen S0.out
  have nK : Hid (∀ x, w.heap.size ≤ x → ¬ K x) := fun x hx hk => by have := HK.out x hk; omega
  have HW := Lib.hid hW
  clear h hW
  go_enter Try.func65, Try.ntmps65
  go_wp2_with fail
  rw [zero4, ← HW.out]
  clear HW
  go_loopw [5] (fun i wr => ∃ k : Nat, k ≤ 4 ∧ i = .int .i64 k ∧ Turns B w wr ∧ IT K B (lnsS k t) wr ∧ wr.heap[w.heap.size]? = some (.cells (flatL (List.replicate 4 ⟨0, 0⟩)).toArray 44) ∧ wr.heap[w.heap.size + 1]? = some (.cells (flatL (lnsV k t ++ List.replicate (4 - k) ⟨0, 0⟩)).toArray 44)) (fun i _ => 4 - (intOf i).toNat)
  case atStart => exact ⟨0, Nat.zero_le _, rfl, (Turns.refl B w).next S0.out, H0.out, HX.out, HY.out⟩
  case round =>
    obtain ⟨k, hk, rfl, h1, h2, h3, h4⟩ := hrel
    have H1 := Lib.hid h1
    have H2 := Lib.hid h2
    have H3 := Lib.hid h3
    have H4 := Lib.hid h4
    have hYl : w.heap.size + 1 < wr.heap.size := by
      rcases Nat.lt_or_ge (w.heap.size + 1) wr.heap.size with h | h
      · exact h
      · rw [Array.getElem?_eq_none h] at h4; cases h4
    clear h1 h2 h3 h4
    by_cases hlt : k < 4
    · have hk' : (k : Int) < 4 := by omega
      have hlen : Hid ((lnsV k t ++ List.replicate (4 - k) (⟨0, 0⟩ : Ln)).length = 4) := by unfold Hid; rw [List.length_append, lnsV_length, List.length_replicate]; omega
      go_wp2_with (go_at_call 66; refine (getLen_any H2.out).mono ?_; rintro _ w2 ⟨rfl, ht2, hi2⟩; have T2 := Lib.hid ht2; have I2 := Lib.hid hi2
                   have Y2 : Hid (w2.heap[w.heap.size + 1]? = some (.cells (flatL (lnsV k t ++ List.replicate (4 - k) ⟨0, 0⟩)).toArray 44)) := (ht2.block _ hYl (by omega)).trans H4.out
                   have X2 : Hid (w2.heap[w.heap.size]? = some (.cells (flatL (List.replicate 4 ⟨0, 0⟩)).toArray 44)) := (ht2.block _ (by omega) (by omega)).trans H3.out
                   obtain ⟨y0, y1⟩ := flatL_at (l := lnsV k t ++ List.replicate (4 - k) ⟨0, 0⟩) (i := k) (by rw [hlen.out]; exact hlt)
                   have c0 := range_block Y2.out _ _ y0
                   have c1 := range_block Y2.out _ _ y1
                   rw [Nat.zero_add] at c0 c1
                   have f0 : ∀ o, w2.frozen? ⟨w.heap.size + 1, o, none⟩ = false := fun o => by simp [World.frozen?, Y2.out]
                   clear ht2 hi2 y0 y1)
      refine ⟨⟨k + 1, hlt, by go_num, ((H1.out.trans T2.out).set_new (by omega) _ _).set_new (by omega) _ _, (I2.out.set (nK.out _ (by omega)) _ _).set (nK.out _ (by omega)) _ _, ?_, ?_⟩, by simp [intOf]; omega⟩
      · rw [Below.heap_setCell _ ⟨w.heap.size + 1, k * 2 + 1, none⟩ _ _ (by show w.heap.size ≠ w.heap.size + 1; omega), Below.heap_setCell _ ⟨w.heap.size + 1, k * 2, none⟩ _ _ (by show w.heap.size ≠ w.heap.size + 1; omega)]
        exact X2.out
      · exact Hs.set (Hs.set Y2.out _ _ rfl) _ _ (four_step (lnV (lnsS k t)) (lnsV_length k t) hlt)
    · have hk' : ¬ (k : Int) < 4 := by omega
      obtain rfl : k = 4 := by omega
      have hY : Hid (wr.heap[w.heap.size + 1]? = some (.cells (flatL (lnsV 4 t)).toArray 44)) := by unfold Hid; simpa using H4.out
      have hl4 : (flatL (lnsV 4 t)).length = 8 := by rw [flatL_length, lnsV_length]
      have HL4 := Lib.hid hl4
      clear hl4
      go_wp2_with (first
        | (refine wpList_load_mid rfl 44 _ rfl (w.heap.size + 1) 0 rfl (flatL (lnsV 4 t)) _ (range_block hY.out) Try.underlying44 rfl (by rw [HL4.out]; exact info24) ?_)
        | (refine wpList_storeC rfl 44 _ _ rfl w.heap.size 0 (flatL (lnsV 4 t)) rfl rfl (by rw [HL4.out]; exact info24) (flatL_one _) H3.out (by rw [HL4.out]; simp [flatL_length]) (setsL_mid [] (flatL (List.replicate 4 ⟨0, 0⟩)) [] (flatL (lnsV 4 t)) (by rw [HL4.out]; rfl)) ?_
           intro w2 hb2 ht2
           have R2 := Lib.hid (And.intro hb2 ht2)
           clear hb2 ht2))
      have hb : w2.heap[w.heap.size]? = some (.cells (flatL (lnsV 4 t)).toArray 44) := by simpa using R2.out.1
      refine bodyPost_ret (results_cell Try.results65 rfl (run_load4 hb (lnsV_length 4 t))) rfl ?_
      exact ⟨rfl, H1.out.fresh R2.out.2 (Nat.le_refl _), H2.out.other R2.out.2 (nK.out _ (Nat.le_refl _))⟩
end Go.Proofs.Ythphmhcgnkoigaa
