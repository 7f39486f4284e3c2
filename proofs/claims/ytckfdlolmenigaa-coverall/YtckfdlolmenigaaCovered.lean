/- Contract of Covered. -/
import Derived.Test.YtckfdlolmenigaaCollect
namespace Go.Proofs.Ytckfdlolmenigaa
open Go.ChangeShapes Go.WideShapes Go.ChangeAt Go.RowKit Go.Shelf
attribute [local go_sem] Oper.semAt_some
/-- Nothing has come yet; the result's box holds false. -/
def covI (B : Nat) (pre : List R4) (T : Nat → Prop) (W : World) : Prop := pre = [] ∧ Boxed W B 4 (.bool false) ∧ ∀ k, T k ↔ k = B
/-- Something has come. -/
def covX (B : Nat) (c : Code) (pre : List R4) (T : Nat → Prop) (W : World) : Prop := c = .ret ∧ pre ≠ [] ∧ Boxed W B 4 (.bool false) ∧ ∀ k, T k ↔ k = B
def covM (B : Nat) (fr : R4 → Act) (z : List R4 × R4 × Act) (T : Nat → Prop) (W : World) : Prop := covI B z.1 T W ∧ z.2.2 = fr z.2.1
theorem covI_local (B : Nat) : Local (covI B) := fun _ _ _ _ h hk => ⟨h.1, boxed_keeps h.2.1 (hk.block _ ((h.2.2 _).2 rfl)), h.2.2⟩
theorem covX_local (B : Nat) (c : Code) : Local (covX B c) := fun _ _ _ _ h hk => ⟨h.1, h.2.1, boxed_keeps h.2.2.1 (hk.block _ ((h.2.2.2 _).2 rfl)), h.2.2.2⟩
theorem covM_local (B : Nat) (fr : R4 → Act) : Local (covM B fr) := fun z T W W' h hk => ⟨covI_local B z.1 T W W' h.1 hk, h.2⟩
theorem covI_low (B : Nat) : Low (covI B) := fun _ _ _ h k hk => by rw [(h.2.2 k).1 hk]; exact h.2.1.lt
set_option maxRecDepth 100000 in
set_option maxHeartbeats 4000000 in
theorem covered_any (r : R4) (ad : Option Addr) (n c : Nat) (rs : List R4) (w : World) (hR : RS w ad n rs) (hn : n ≤ 1000000) (hc : n ≤ c) :
    Calls Try.prog 14 #[.agg #[.int .i64 r.x0, .int .i64 r.y0, .int .i64 r.x1, .int .i64 r.y1], .slice ad n c] w fun e w' => e = .returned (.bool (coveredB r rs)) ∧ Below w.heap.size w w' := by
  have HR := Lib.hid hR
  clear hR
  refine (callsIn_wide (n := 5)).1 (callsIn_of_wp_marks Try.func14 rfl trivial ?_ rfl)
  simp only [Try.ntmps14, List.size_toArray, List.length_cons, List.length_nil, Nat.reduceAdd, Nat.reduceSub, Array.replicate_succ, Array.replicate_zero, List.push_toArray, List.append_toArray, List.nil_append, List.cons_append]
  gi_wp2_with (refine ⟨trivial, ?_⟩; gi_at_call 20; refine (callsIn_wide.2 (left_any r ad n c _)).mono ?_; rintro e W0 ⟨rfl, hW0⟩; have HW0 := Lib.hid hW0; clear hW0)
  obtain ⟨wa, hwa⟩ : ∃ wa, wa = (w.alloc (.cells #[.int .i64 r.x0, .int .i64 r.y0, .int .i64 r.x1, .int .i64 r.y1] 23)).alloc (.cells #[.bool false] 4) := ⟨_, rfl⟩
  have hW0 := HW0.out
  rw [← hwa] at hW0
  have za : wa.heap.size = w.heap.size + 2 := by rw [hwa]; simp
  have sa : Seen w wa := by rw [hwa]; exact ((Seen.refl w).alloc _).alloc _
  have xa : Boxed wa (w.heap.size + 1) 4 (.bool false) := by
    rw [hwa]; have := Boxed.new (w.alloc (.cells #[.int .i64 r.x0, .int .i64 r.y0, .int .i64 r.x1, .int .i64 r.y1] 23)) 4 (.bool false); simpa using this
  obtain ⟨hk, hq⟩ := left_seq r ad n c rs wa W0 (HR.out.seen sa) hn hc hW0
  rw [za] at hk hq
  have s0 : Seen wa W0 := by rw [hW0]; exact ((Seen.refl wa).alloc _).alloc _
  have x1 : Boxed W0 (w.heap.size + 1) 4 (.bool false) := boxed_keeps xa (s0.block _ xa.lt)
  have hdisj : ∀ k, k = w.heap.size + 1 → ¬ (k = w.heap.size + 2 ∨ rdK ad n (w.heap.size + 2 + 1) k) := by
    rintro k rfl (h | h | ⟨h0, a, ha, h⟩)
    · omega
    · omega
    · have := HR.out.lt h0 a ha
      omega
  obtain ⟨fr, hfr⟩ : ∃ fr : R4 → Act, fr = fun x => { tmps := #[.agg #[.int .i64 r.x0, .int .i64 r.y0, .int .i64 r.x1, .int .i64 r.y1], .slice ad n c, .pointer (some ⟨w.heap.size, 0, none⟩), undef, .pointer (some ⟨w.heap.size + 1, 0, none⟩), .agg #[.int .i64 r.x0, .int .i64 r.y0, .int .i64 r.x1, .int .i64 r.y1], .slice ad n c, .func (.func 27) #[] #[.pointer (some ⟨w.heap.size + 1 + 1, 0, none⟩), .pointer (some ⟨w.heap.size + 1 + 1 + 1, 0, none⟩)], .agg #[.int .i64 x.x0, .int .i64 x.y0, .int .i64 x.x1, .int .i64 x.y1]], defers := [] } := ⟨_, rfl⟩
  have HFR := Lib.hid hfr
  have HX := Lib.hid (And.intro x1 (And.intro (sa.trans s0) (And.intro hk (And.intro hq hdisj))))
  clear hfr x1 s0 sa xa za hk hq hdisj hW0 HW0 hwa
  refine wpIn_rangeFunc_sep (gf := 27) (lb := #[.pointer (some ⟨w.heap.size + 2, 0, none⟩), .pointer (some ⟨w.heap.size + 2 + 1, 0, none⟩)]) rfl (enters_of Try.func27 (by kernel_rfl) rfl) (encs := encR) (R := restOf r rs) (K := fun k => k = w.heap.size + 2 ∨ rdK ad n (w.heap.size + 2 + 1) k) HX.out.2.2.1
    HX.out.2.2.2.1 (fun _ => rfl) (covI (w.heap.size + 1)) (covX (w.heap.size + 1)) (covM (w.heap.size + 1) fr) (covI_local _) (covX_local _) (covM_local _ _) (covI_low _)
    (fun k => k = w.heap.size + 1) ⟨rfl, HX.out.1, fun k => Iff.rfl⟩ HX.out.2.2.2.2 ?assign ?body ?done ?stop
  case assign =>
    rintro l pre x T W Ka hI hpre hKa
    have HI := Lib.hid hI
    have HKa := Lib.hid hKa
    clear hI hpre hKa
    simp only [encR]
    gi_wp2
    refine HKa.out _ T _ (Moves.refl T W) ⟨HI.out, ?_⟩
    rw [HFR.out]; simp
  case body =>
    rintro l pre x a' T W ⟨⟨hnil, h1, hT⟩, ha⟩ hpre
    dsimp only at hnil h1 ha
    rw [HFR.out] at ha
    have c1 := h1.cell
    have f1 := h1.frozen
    have H1 := Lib.hid (And.intro h1 hT)
    clear h1 hT hpre hnil
    subst ha
    gi_wp2
    exact ⟨T, Moves.setCell W ((H1.out.2 _).2 rfl) _, rfl, by simp, H1.out.1.set _, H1.out.2⟩
  case done =>
    rintro D T W hD mv ⟨hnil, h1, hT⟩ hnD hKD
    have c1 := h1.cell
    have f1 := h1.frozen
    have HC : Hid (coveredB r rs = true) := by unfold Hid coveredB; rw [hnil]; rfl
    have HM := Lib.hid (And.intro mv (And.intro h1 (And.intro hKD (And.intro hT hD))))
    clear hKD mv h1 hT hnil hnD hD
    gi_wp2
    obtain ⟨mv, h1, hKD, hT, hD⟩ := HM.out
    obtain ⟨x1, sw, _⟩ := HX.out
    have hne : D ≠ w.heap.size + 1 := fun e => by have := x1.lt; omega
    have hKD' : (W.setCell ⟨w.heap.size + 1, 0, none⟩ (.bool true)).heap[D]? = some (.deferred (some [])) := (Below.heap_setCell W _ _ D hne).trans hKD
    refine ⟨by simp, .inl ⟨_, _, rfl, run_takeDeferred hKD', ?_⟩⟩
    have hc5 : ((W.setCell ⟨w.heap.size + 1, 0, none⟩ (.bool true)).putObj D (.deferred none)).cell? ⟨w.heap.size + 1, 0, none⟩ = some (.bool true) := (boxed_keeps (h1.set _) (World.putObj_heap_other hne.symm)).cell
    refine ⟨.bool true, ?_, by rw [HC.out], ?_⟩
    · simp [results, Try.f14, go_sem, hc5]
    · have hb : Below w.heap.size W0 W := mv.below sw.size (fun k hk => by have : k = w.heap.size + 1 := hk; omega)
      exact ((Below.trans (show Below w.heap.size w W0 from sw) hb).setCell (p := ⟨w.heap.size + 1, 0, none⟩) (by simp) _).trans (belowK_b (w := w) (Nat.le_refl _) _ D _ _ (Nat.le_trans sw.size hD) hKD' rfl rfl)
  case stop =>
    rintro D cc pre T W hD mv hpre ⟨rfl, hnn, h1, hT⟩ hnD hKD
    have HC : Hid (coveredB r rs = false) := by
      unfold Hid coveredB
      cases h : restOf r rs with
      | nil => rw [h] at hpre; exact absurd (List.prefix_nil.1 hpre) hnn
      | cons a t => rfl
    have HM := Lib.hid (And.intro mv (And.intro h1 (And.intro hKD (And.intro hT hD))))
    clear hKD mv h1 hT hnn hnD hD hpre
    gi_wp2
    obtain ⟨mv, h1, hKD, hT, hD⟩ := HM.out
    obtain ⟨x1, sw, _⟩ := HX.out
    have hne : D ≠ w.heap.size + 1 := fun e => by have := x1.lt; omega
    refine ⟨by simp, .inl ⟨_, _, rfl, run_takeDeferred hKD, ?_⟩⟩
    have hc5 : (W.putObj D (.deferred none)).cell? ⟨w.heap.size + 1, 0, none⟩ = some (.bool false) := (boxed_keeps h1 (World.putObj_heap_other hne.symm)).cell
    refine ⟨.bool false, ?_, by rw [HC.out], ?_⟩
    · simp [results, Try.f14, go_sem, hc5]
    · have hb : Below w.heap.size W0 W := mv.below sw.size (fun k hk => by have : k = w.heap.size + 1 := hk; omega)
      exact (Below.trans (show Below w.heap.size w W0 from sw) hb).trans (belowK_b (w := w) (Nat.le_refl _) _ D _ _ (Nat.le_trans sw.size hD) hKD rfl rfl)
end Go.Proofs.Ytckfdlolmenigaa
