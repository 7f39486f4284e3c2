/- Contracts of left, of slices.AppendSeq and slices.Collect over it, and of Rest. -/
import Derived.Test.YtckfdlolmenigaaLeft
namespace Go.Proofs.Ytckfdlolmenigaa
open Go.ChangeShapes Go.WideShapes Go.ChangeAt Go.RowKit Go.Shelf
attribute [local go_sem] Oper.semAt_some
theorem left_any (r : R4) (ad : Option Addr) (n c : Nat) (w : World) : Calls Try.prog 20 #[.agg #[.int .i64 r.x0, .int .i64 r.y0, .int .i64 r.x1, .int .i64 r.y1], .slice ad n c] w fun e w' => e = .returned (.func (.func 27) #[] #[.pointer (some ⟨w.heap.size, 0, none⟩), .pointer (some ⟨w.heap.size + 1, 0, none⟩)]) ∧ w' = (w.alloc (.cells #[.int .i64 r.x0, .int .i64 r.y0, .int .i64 r.x1, .int .i64 r.y1] 23)).alloc (.cells #[.slice ad n c] 24) := by
  go_enter Try.func20, Try.ntmps20
  go_wp2
  go_ret
  exact ⟨by simp, rfl⟩
/-- What is collected between two rounds. -/
def colI (base B : Nat) (pre : List R4) (T : Nat → Prop) (W : World) : Prop :=
  ∃ v, Boxed W B 24 v ∧ W.ownsRow base 23 4 v pre.length (flat pre) ∧ base ≤ W.heap.size ∧ (∀ k, T k ↔ k = B ∨ v.ownBlock = some k)
theorem colI_local (base B : Nat) : Local (colI base B) := by
  rintro pre T W W' ⟨v, h1, h3, hb, hT⟩ hk
  exact ⟨v, boxed_keeps h1 (hk.block _ ((hT _).2 (.inl rfl))), ownsRow_keeps h3 (fun g hg => hk.block _ ((hT _).2 (.inr hg))), Nat.le_trans hb hk.size, hT⟩
theorem colI_low (base B : Nat) : Low (colI base B) := by
  rintro pre T W ⟨v, h1, h3, hb, hT⟩ k hk
  rcases (hT k).1 hk with rfl | hg
  · exact h1.lt
  · exact (h3.lt k hg).2
def colM (base B : Nat) (fr : R4 → Nat → Act) (z : List R4 × R4 × Act) (T : Nat → Prop) (W : World) : Prop :=
  ∃ Bx T1, colI base B z.1 T1 W ∧ ¬ T1 Bx ∧ W.heap[Bx]? = some (.cells #[.int .i64 z.2.1.x0, .int .i64 z.2.1.y0, .int .i64 z.2.1.x1, .int .i64 z.2.1.y1] 23) ∧ z.2.2 = fr z.2.1 Bx ∧ (∀ k, T k ↔ T1 k ∨ k = Bx)
theorem colM_local (base B : Nat) (fr : R4 → Nat → Act) : Local (colM base B fr) := by
  rintro z T W W' ⟨Bx, T1, hI, hn, hb, ha, hT⟩ hk
  exact ⟨Bx, T1, colI_local base B _ _ _ _ hI ⟨hk.size, fun k h => hk.block k ((hT k).2 (.inl h))⟩, hn, (hk.block _ ((hT _).2 (.inr rfl))).trans hb, ha, hT⟩
/-- A new row of rectangles is handed back; nothing that lay has turned. -/
def RowPost (R : List R4) (w : World) (e : Ending) (w' : World) : Prop := (∃ v, e = .returned v ∧ w'.ownsRow w.heap.size 23 4 v R.length (flat R)) ∧ Below w.heap.size w w'
set_option maxRecDepth 100000 in
set_option maxHeartbeats 4000000 in
theorem appendSeq_any (lb : Array Value) (R : List R4) (K : Nat → Prop) (w : World) (hK : ∀ k, K k → k < w.heap.size) (hseq : ∀ W, Below w.heap.size w W → SeqSep Try.prog 27 lb encR R K W) (hlen : R.length ≤ 1000000000000) :
    Calls Try.prog 26 #[.slice none 0 0, .func (.func 27) #[] lb] w (RowPost R w) := by
  obtain ⟨i0, hi, hz0, hz1, hz2⟩ := info_parts info23
  have HQ := Lib.hid hseq
  have HK := Lib.hid hK
  clear hseq hK
  refine (callsIn_wide (n := 5)).1 (callsIn_of_wp_marks Try.func26 rfl trivial ?_ rfl)
  simp only [Try.ntmps26, List.size_toArray, List.length_cons, List.length_nil, Nat.reduceAdd, Nat.reduceSub, Array.replicate_succ, Array.replicate_zero, List.push_toArray, List.append_toArray, List.nil_append, List.cons_append]
  gi_wp2
  obtain ⟨W0, hW0⟩ : ∃ W0, W0 = w.alloc (.cells #[.slice none 0 0] 24) := ⟨_, rfl⟩
  rw [← hW0]
  have s0 : Seen w W0 := by rw [hW0]; exact (Seen.refl w).alloc _
  have z0 : W0.heap.size = w.heap.size + 1 := by rw [hW0]; simp
  have x1 : Boxed W0 w.heap.size 24 (.slice none 0 0) := by rw [hW0]; exact Boxed.new w 24 _
  clear hW0
  obtain ⟨fr, hfr⟩ : ∃ fr : R4 → Nat → Act, fr = fun x Bx => { tmps := #[.slice none 0 0, .func (.func 27) #[] lb, .pointer (some ⟨w.heap.size, 0, none⟩), undef, .slice none 0 0, .pointer (some ⟨Bx, 0, none⟩), .func (.func 27) #[] lb, .agg #[.int .i64 x.x0, .int .i64 x.y0, .int .i64 x.x1, .int .i64 x.y1], undef, undef, undef, undef, undef], defers := [] } := ⟨_, rfl⟩
  have HFR := Lib.hid hfr
  have HX := Lib.hid (And.intro x1 (And.intro s0 z0))
  clear hfr x1 s0 z0
  refine wpIn_rangeFunc_sep (gf := 27) (lb := lb) rfl (enters_of Try.func27 (by kernel_rfl) rfl) (encs := encR) (R := R) (K := K) (fun k hk => Nat.lt_of_lt_of_le (HK.out k hk) HX.out.2.1.size)
    (fun W hW => HQ.out W (HX.out.2.1.trans hW)) (fun _ => rfl) (colI w.heap.size w.heap.size) (fun _ _ _ _ => False) (colM w.heap.size w.heap.size fr) (colI_local _ _) (fun _ _ _ _ _ h _ => h) (colM_local _ _ _) (colI_low _ _)
    (fun k => k = w.heap.size) ?start ?disj ?assign ?body ?done ?stop
  case start =>
    obtain ⟨x1, s0, z0⟩ := HX.out
    exact ⟨_, x1, World.ownsRow_nil _ _ _ _, s0.size, fun k => by simp [Value.ownBlock]⟩
  case disj =>
    rintro k rfl hk
    exact Nat.lt_irrefl _ (HK.out _ hk)
  case assign =>
    rintro l pre x T W Ka hI hpre hKa
    have HI := Lib.hid hI
    have HP := Lib.hid hpre
    have HKa := Lib.hid hKa
    clear hI hpre hKa
    simp only [encR]
    gi_wp2
    refine HKa.out _ (fun k => T k ∨ k = W.heap.size) _ (Moves.alloc T W _) ⟨W.heap.size, T, colI_local _ _ _ _ _ _ HI.out ⟨by simp, fun k hk => Below.heap_alloc W _ k (colI_low _ _ _ _ _ HI.out k hk)⟩, fun h => Nat.lt_irrefl _ (colI_low _ _ _ _ _ HI.out _ h), World.alloc_heap_new W _, ?_, fun k => Iff.rfl⟩
    rw [HFR.out]
  case body =>
    rintro l pre x a' T W ⟨Bx, T1, ⟨v, h1, h3, hbW, hT1⟩, hnB, hbx, ha, hT⟩ hpre
    dsimp only at h1 h3 hbx ha
    rw [HFR.out] at ha
    have hpl : pre.length < 1000000000000 := by
      have := hpre.length_le
      simp at this; omega
    have HT1 := Lib.hid hT1
    have HT := Lib.hid hT
    have HP := Lib.hid hpre
    have H1 := Lib.hid h1
    have H3 := Lib.hid h3
    have c1 := h1.cell
    have e0 : W.cell? ⟨Bx, 0, none⟩ = some (.int .i64 x.x0) := by rw [Go.Joins.cell_of_block hbx]; rfl
    have e1 : W.cell? ⟨Bx, 1, none⟩ = some (.int .i64 x.y0) := by rw [Go.Joins.cell_of_block hbx]; rfl
    have e2 : W.cell? ⟨Bx, 2, none⟩ = some (.int .i64 x.x1) := by rw [Go.Joins.cell_of_block hbx]; rfl
    have e3 : W.cell? ⟨Bx, 3, none⟩ = some (.int .i64 x.y1) := by rw [Go.Joins.cell_of_block hbx]; rfl
    clear hT1 hT hpre h1 h3 hbx
    subst ha
    gi_wp2_with (gi_at_builtin; refine wpListIn_append_own_at _ rfl _ _ 24 rfl w.heap.size 23 i0 (.agg #[.int .i64 0, .int .i64 0, .int .i64 0, .int .i64 0]) 4 32 Try.underlying24 hi hz0 hz1 hz2 rfl (by decide) _ _ _ rfl (H3.out.alloc _) ⟨W.heap.size, 0, none⟩ 1 1 (flat [x]) rfl rfl (new_cells W x) (flat_one _) (by unfold maxLen; omega) (by omega) (by simp; omega) ?_; intro v' w1 hown' hgrow hnil hat; obtain ⟨g', cap', rfl⟩ := ownsRow_succ hown'; obtain ⟨hv1, hv2, hr2, hmv, hoth⟩ := append_moves H1.out (by decide) H3.out hown' hgrow hat (T := T) ((HT.out _).2 (.inl ((HT1.out _).2 (.inl rfl)))) (fun k hk => (HT.out _).2 (.inl ((HT1.out _).2 (.inr hk)))); have hc1 := hv1.cell; have hf1 := hv1.frozen; have HV2 := Lib.hid (And.intro hv2 (And.intro hr2 (And.intro hmv hoth))); clear hv2 hr2 hmv hoth hgrow hown' hnil hat)
    obtain ⟨hv2, hr2, hmv, hoth⟩ := HV2.out
    refine ⟨fun k => k = w.heap.size ∨ g' = k, hmv _ ?_, _, hv2, ?_, ?_, fun k => by simp [Value.ownBlock]⟩
    · rintro k (rfl | rfl)
      · exact .inl ((HT.out _).2 (.inl ((HT1.out _).2 (.inl rfl))))
      · exact .inr rfl
    · rw [flat_append, List.length_append]
      exact hr2
    · have := (hmv (fun k => k = w.heap.size) (fun k hk => .inl ((HT.out _).2 (.inl ((HT1.out _).2 (.inl hk)))))).size
      omega
  case done =>
    rintro D T W hD mv ⟨v, h1, h3, hbW, hT⟩ hnD hKD
    obtain ⟨x1, s0, z0⟩ := HX.out
    have hc := h1.cell
    have HKD := Lib.hid hKD
    have HM := Lib.hid mv
    have H3 := Lib.hid h3
    clear hKD mv h1 h3 hT x1 z0
    gi_wp2
    refine ⟨by simp, .inl ⟨_, _, rfl, run_takeDeferred HKD.out, ?_⟩⟩
    refine ⟨_, results_tmp rfl _ _ _, ⟨v, rfl, ownsRow_putObj H3.out (.deferred none) HKD.out rfl⟩, ?_⟩
    have hb : Below w.heap.size W0 W := HM.out.below s0.size (fun k hk => Nat.le_of_eq hk.symm)
    exact (Below.trans (show Below w.heap.size w W0 from s0) hb).trans (belowK_b (w := w) (Nat.le_refl _) W D _ _ (Nat.le_trans s0.size hD) HKD.out rfl rfl)
  case stop =>
    rintro D c pre T W _ _ _ h
    exact h.elim
theorem collect_any (lb : Array Value) (R : List R4) (K : Nat → Prop) (w : World) (hK : ∀ k, K k → k < w.heap.size) (hseq : ∀ W, Below w.heap.size w W → SeqSep Try.prog 27 lb encR R K W) (hlen : R.length ≤ 1000000000000) :
    Calls Try.prog 19 #[.func (.func 27) #[] lb] w (RowPost R w) := by
  have HQ := Lib.hid hseq
  have HK := Lib.hid hK
  clear hseq hK
  go_enter Try.func19, Try.ntmps19
  go_wp2_with fail
  refine (appendSeq_any lb R K w HK.out HQ.out hlen).mono ?_
  rintro e w' ⟨⟨v, rfl, hown⟩, hb⟩
  have H := Lib.hid (And.intro hown hb)
  clear hown hb
  go_wp2_with fail
  go_ret
  exact ⟨⟨v, rfl, H.out.1⟩, H.out.2⟩
/-- The iterator that left makes, in every world behind it. -/
theorem left_seq (r : R4) (ad : Option Addr) (n c : Nat) (rs : List R4) (w W0 : World) (hR : RS w ad n rs) (hn : n ≤ 1000000) (hc : n ≤ c)
    (hW0 : W0 = (w.alloc (.cells #[.int .i64 r.x0, .int .i64 r.y0, .int .i64 r.x1, .int .i64 r.y1] 23)).alloc (.cells #[.slice ad n c] 24)) :
    (∀ k, (k = w.heap.size ∨ rdK ad n (w.heap.size + 1) k) → k < W0.heap.size) ∧ ∀ W, Below W0.heap.size W0 W → SeqSep Try.prog 27 #[.pointer (some ⟨w.heap.size, 0, none⟩), .pointer (some ⟨w.heap.size + 1, 0, none⟩)] encR (restOf r rs) (fun k => k = w.heap.size ∨ rdK ad n (w.heap.size + 1) k) W := by
  have s0 : Seen w W0 := by rw [hW0]; exact ((Seen.refl w).alloc _).alloc _
  have z0 : W0.heap.size = w.heap.size + 2 := by rw [hW0]; simp
  have b1 : Box W0 w.heap.size r := by rw [hW0]; exact (box_new w r).alloc _
  have b2 : W0.cell? ⟨w.heap.size + 1, 0, none⟩ = some (.slice ad n c) := by
    rw [hW0]; simp
  refine ⟨?_, fun W hW => SeqSep.more (left_sep w.heap.size (w.heap.size + 1) r ad n c rs W (Seen.box hW b1) (Seen.cell hW b2) ((hR.seen s0).seen hW) hn hc) (fun k hk => hk.2)⟩
  rintro k (rfl | rfl | ⟨h0, a, ha, rfl⟩)
  · omega
  · omega
  · have := hR.lt h0 a ha
    omega
theorem restOf_len6 (r : R4) (l : List R4) (h : l.length ≤ 400000) : (restOf r l).length ≤ 1000000000000 := by
  have h1 := restOf_length r l
  have h2 : (2 * l.length + 2) * (2 * l.length + 2) ≤ 800002 * 800002 := Nat.mul_le_mul (by omega) (by omega)
  omega
set_option maxHeartbeats 1000000 in
theorem rest_any (r : R4) (ad : Option Addr) (n c : Nat) (rs : List R4) (w : World) (hR : RS w ad n rs) (hn : n ≤ 400000) (hc : n ≤ c) :
    Calls Try.prog 8 #[.agg #[.int .i64 r.x0, .int .i64 r.y0, .int .i64 r.x1, .int .i64 r.y1], .slice ad n c] w (RowPost (restOf r rs) w) := by
  have HR := Lib.hid hR
  clear hR
  go_enter Try.func8, Try.ntmps8
  go_wp2_with fail
  refine (left_any r ad n c _).mono ?_
  rintro e w1 ⟨rfl, hw1⟩
  have s1 : Seen w w1 := by rw [hw1]; exact (((Seen.refl w).alloc _).alloc _).alloc _
  obtain ⟨hk, hq⟩ := left_seq r ad n c rs _ w1 (HR.out.seen ((Seen.refl w).alloc _)) (by omega) hc hw1
  simp only [World.size_alloc] at hk hq
  have HK := Lib.hid hk
  have HQ := Lib.hid hq
  clear hw1 hk hq
  go_wp2_with fail
  refine (collect_any _ (restOf r rs) _ w1 HK.out HQ.out (restOf_len6 r rs (by rw [HR.out.1]; exact hn))).mono ?_
  rintro e w' ⟨⟨v, rfl, hown⟩, hb⟩
  have H := Lib.hid (And.intro hown hb)
  clear hown hb
  go_wp2_with fail
  go_ret
  refine ⟨⟨v, rfl, ?_⟩, Seen.next s1 H.out.2⟩
  rcases H.out.1 with ⟨h1, h2 | ⟨g, cap, cur, h3, h4, h5⟩⟩
  · exact ⟨h1, .inl h2⟩
  · exact ⟨h1, .inr ⟨g, cap, cur, h3, Nat.le_trans s1.size h4, h5⟩⟩
end Go.Proofs.Ytckfdlolmenigaa
