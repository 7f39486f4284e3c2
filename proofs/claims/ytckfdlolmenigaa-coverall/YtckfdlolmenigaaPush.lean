/- Contract of push: the parts are put on the stack so that the first one is taken off first. -/
import Derived.Test.YtckfdlolmenigaaBack
import Derived.Maps.OwnIn
import Derived.Maps.AppendAt
namespace Go.Proofs.Ytckfdlolmenigaa
open Go.ChangeShapes Go.WideShapes Go.ChangeAt Go.RowKit Go.Shelf
attribute [local go_sem] Oper.semAt_some
theorem info46 : (Try.prog.info? 46).map (fun i => (i.zero, i.size, i.bytes)) = some (some (.agg #[.int .i64 0, .int .i64 0, .int .i64 0, .int .i64 0, .int .i64 0]), 5, 40) := by kernel_rfl
theorem ownsRow_keeps {W W' : World} {base : Nat} {e : TypeId} {size : Nat} {v : Value} {n : Nat} {xs : List Value} (h : W.ownsRow base e size v n xs) (hk : ∀ g, v.ownBlock = some g → W'.heap[g]? = W.heap[g]?) : W'.ownsRow base e size v n xs := by
  refine ⟨h.1, ?_⟩
  rcases h.2 with hn | ⟨g, cap, cur, rfl, hb, hg, rest⟩
  · exact .inl hn
  · exact .inr ⟨g, cap, cur, rfl, hb, (hk g rfl).trans hg, rest⟩
theorem boxed_keeps {W W' : World} {B : Nat} {t : TypeId} {v : Value} (h : Boxed W B t v) (hk : W'.heap[B]? = W.heap[B]?) : Boxed W' B t v := hk.trans h
/-- Behind 'x = append(x, ..)', x in the box B: what the box holds, what it owns, what has turned. -/
theorem append_moves {W w1 : World} {B : Nat} {t e : TypeId} {size base : Nat} {v v' : Value} {k m : Nat} {xs ys : List Value} {tmp : Obj} {T : Nat → Prop}
    (hv : Boxed W B t v) (hte : t ≠ e) (hrow : W.ownsRow base e size v k xs) (hown' : w1.ownsRow base e size v' m ys) (hgrow : (W.alloc tmp).grownBy w1 v.ownBlock) (hat : v'.ownBlock = v.ownBlock ∨ v'.ownBlock = some (W.alloc tmp).heap.size)
    (hTB : T B) (hTv : ∀ g, v.ownBlock = some g → T g) :
    Boxed w1 B t v ∧ Boxed (w1.setCell ⟨B, 0, none⟩ v') B t v' ∧ (w1.setCell ⟨B, 0, none⟩ v').ownsRow base e size v' m ys ∧
    (∀ T', (∀ j, T' j → T j ∨ v'.ownBlock = some j) → Moves T T' W (w1.setCell ⟨B, 0, none⟩ v')) ∧
    (∀ j, j < W.heap.size → j ≠ B → v.ownBlock ≠ some j → (w1.setCell ⟨B, 0, none⟩ v').heap[j]? = W.heap[j]?) := by
  have hv1 : Boxed w1 B t v := (hv.alloc tmp).kept hgrow (hv.not_row hte hrow)
  have hs : ∀ j, j < W.heap.size → j ≠ B → v.ownBlock ≠ some j → (w1.setCell ⟨B, 0, none⟩ v').heap[j]? = W.heap[j]? := fun j hj hB hg =>
    (Below.heap_setCell w1 _ _ j hB).trans ((hgrow.block j (by simp; omega) (fun e => hg e.symm)).trans (Below.heap_alloc W tmp j hj))
  have hsz : W.heap.size ≤ (w1.setCell ⟨B, 0, none⟩ v').heap.size := by
    have := hgrow.size
    simp [World.setCell] at this ⊢; omega
  refine ⟨hv1, hv1.set v', hown'.kept (grownBy_setCell' w1 B v') (.inr (hv1.not_row hte hown').symm), fun T' hT' => ⟨hgrow.os, hgrow.tape, hgrow.output, hsz, fun j hj ht => hs j hj (fun e => ht (e ▸ hTB)) (fun e => ht (hTv j e)), fun j hj => ?_⟩, hs⟩
  rcases hT' j hj with h | h
  · exact .inl h
  · rcases hat with h2 | h2
    · exact .inl (hTv j (h2 ▸ h))
    · rw [h2] at h; simp at h; exact .inr (by omega)
/-- What push keeps between two rounds. -/
def pushI (base B0 : Nat) (s : List (R4 × Nat)) (q : Nat) (pre : List (R4 × Nat)) (T : Nat → Prop) (W : World) : Prop :=
  ∃ v, Boxed W B0 47 v ∧ Boxed W (B0 + 1) 3 (.int .i64 (q : Int)) ∧ W.ownsRow base 46 5 v (s.length + pre.length) (flatP (s ++ pre.map fun x => (x.1, q))) ∧ base ≤ W.heap.size ∧
    (∀ k, T k ↔ k = B0 ∨ k = B0 + 1 ∨ v.ownBlock = some k)
theorem pushI_local (base B0 : Nat) (s : List (R4 × Nat)) (q : Nat) : Local (pushI base B0 s q) := by
  rintro pre T W W' ⟨v, h1, h2, h3, hb, hT⟩ hk
  exact ⟨v, boxed_keeps h1 (hk.block _ ((hT _).2 (.inl rfl))), boxed_keeps h2 (hk.block _ ((hT _).2 (.inr (.inl rfl)))), ownsRow_keeps h3 (fun g hg => hk.block _ ((hT _).2 (.inr (.inr hg)))), Nat.le_trans hb hk.size, hT⟩
theorem pushI_low (base B0 : Nat) (s : List (R4 × Nat)) (q : Nat) : Low (pushI base B0 s q) := by
  rintro pre T W ⟨v, h1, h2, h3, hb, hT⟩ k hk
  rcases (hT k).1 hk with rfl | rfl | hg
  · exact h1.lt
  · exact h2.lt
  · exact (h3.lt k hg).2
/-- The loop's variable behind its assignment. -/
def pushM (base B0 : Nat) (s : List (R4 × Nat)) (q : Nat) (fr : R4 × Nat → Nat → Act) (z : List (R4 × Nat) × (R4 × Nat) × Act) (T : Nat → Prop) (W : World) : Prop :=
  ∃ Bx T1, pushI base B0 s q z.1 T1 W ∧ ¬ T1 Bx ∧ W.heap[Bx]? = some (.cells #[.int .i64 z.2.1.1.x0, .int .i64 z.2.1.1.y0, .int .i64 z.2.1.1.x1, .int .i64 z.2.1.1.y1] 23) ∧ z.2.2 = fr z.2.1 Bx ∧ (∀ k, T k ↔ T1 k ∨ k = Bx)
theorem pushM_local (base B0 : Nat) (s : List (R4 × Nat)) (q : Nat) (fr : R4 × Nat → Nat → Act) : Local (pushM base B0 s q fr) := by
  rintro z T W W' ⟨Bx, T1, hI, hn, hb, ha, hT⟩ hk
  exact ⟨Bx, T1, pushI_local base B0 s q _ _ _ _ hI ⟨hk.size, fun k h => hk.block k ((hT k).2 (.inl h))⟩, hn, (hk.block _ ((hT _).2 (.inr rfl))).trans hb, ha, hT⟩
theorem SeqSep.more {α : Type} {P : Program} {gf : Nat} {lb : Array Value} {encs : α → Array Value} {R : List α} {K K' : Nat → Prop} {W : World} (h : SeqSep P gf lb encs R K W) (hk : ∀ k, K k → K' k) : SeqSep P gf lb encs R K' W :=
  fun l J Jx T h1 h2 h3 h4 h5 h6 => h l J Jx T h1 h2 h3 h4 h5 (fun k ht hK => h6 k ht (hk k hK))
theorem new_cellsP (w : World) (p : R4 × Nat) : ∀ j v, (flatP [p])[j]? = some v → (w.alloc (.cells #[.int .i64 p.1.x0, .int .i64 p.1.y0, .int .i64 p.1.x1, .int .i64 p.1.y1, .int .i64 (p.2 : Int)] 46)).cell? ((⟨w.heap.size, 0, none⟩ : Addr).add j) = some v := by
  intro j v hj
  match j, hj with
  | 0, hj => simp [flatP] at hj; subst hj; simp [Addr.add]
  | 1, hj => simp [flatP] at hj; subst hj; simp [Addr.add]
  | 2, hj => simp [flatP] at hj; subst hj; simp [Addr.add]
  | 3, hj => simp [flatP] at hj; subst hj; simp [Addr.add]
  | 4, hj => simp [flatP] at hj; subst hj; simp [Addr.add]
  | (j + 5), hj => simp [flatP] at hj
theorem down_map (rs : List R4) (q : Nat) : ((down rs rs.length).map fun x => (x.1, q)) = rs.reverse.map fun r => (r, q) := by
  have h := down_fst rs rs.length (Nat.le_refl _)
  rw [List.take_length] at h
  rw [← h, List.map_map]; rfl
theorem down_length (rs : List R4) : ∀ n, (down rs n).length = n
  | 0 => rfl
  | n + 1 => by simp [down, down_length rs n]
/-- What push leaves. -/
def PushPost (base : Nat) (v : Value) (s : List (R4 × Nat)) (w : World) (e : Ending) (w' : World) : Prop :=
  ∃ v', e = .returned v' ∧ w'.ownsRow base 46 5 v' s.length (flatP s) ∧ (∀ g, v'.ownBlock = some g → v.ownBlock = some g ∨ w.heap.size ≤ g) ∧ w.grownBy w' v.ownBlock
set_option maxRecDepth 100000 in
set_option maxHeartbeats 4000000 in
theorem push_any (base : Nat) (g cap : Nat) (s : List (R4 × Nat)) (ad : Option Addr) (n c : Nat) (rs : List R4) (q : Nat) (w : World)
    (hv : w.ownsRow base 46 5 (.slice (some ⟨g, 0, none⟩) s.length cap) s.length (flatP s)) (hr : RS w ad n rs) (hne : 0 < n → ∀ a, ad = some a → a.block ≠ g) (hn : n ≤ 4) (hs : s.length ≤ 100000000) (hb : base ≤ w.heap.size) :
    Calls Try.prog 29 #[.slice (some ⟨g, 0, none⟩) s.length cap, .slice ad n c, .int .i64 (q : Int)] w (PushPost base (.slice (some ⟨g, 0, none⟩) s.length cap) (s ++ rs.reverse.map fun r => (r, q)) w) := by
  obtain ⟨i0, hi, hz0, hz1, hz2⟩ := info_parts info46
  have hglt : base ≤ g ∧ g < w.heap.size := hv.lt g rfl
  have HV := Lib.hid hv
  have HR := Lib.hid hr
  have HL : Hid (rs.length = n) := hr.1
  have HNE := Lib.hid hne
  clear hv hr hne
  refine (callsIn_wide (n := 5)).1 (callsIn_of_wp_marks Try.func29 rfl trivial ?_ rfl)
  simp only [Try.ntmps29, List.size_toArray, List.length_cons, List.length_nil, Nat.reduceAdd, Nat.reduceSub, Array.replicate_succ, Array.replicate_zero, List.push_toArray, List.append_toArray, List.nil_append, List.cons_append]
  gi_wp2_with (refine ⟨trivial, ?_⟩; gi_at_call 32; refine (callsIn_wide.2 (backward_any _ _ _ _)).mono ?_; rintro e w' ⟨rfl, rfl⟩)
  obtain ⟨W0, hW0⟩ : ∃ W0, W0 = ((w.alloc (.cells #[.slice (some ⟨g, 0, none⟩) s.length cap] 47)).alloc (.cells #[.int .i64 (q : Int)] 3)).alloc (.cells #[.slice ad n c] 24) := ⟨_, rfl⟩
  rw [← hW0]
  have s0 : Seen w W0 := by rw [hW0]; exact (((Seen.refl w).alloc _).alloc _).alloc _
  have z0 : W0.heap.size = w.heap.size + 3 := by rw [hW0]; simp
  have x1 : Boxed W0 w.heap.size 47 (.slice (some ⟨g, 0, none⟩) s.length cap) := by rw [hW0]; exact ((Boxed.new w 47 _).alloc _).alloc _
  have x2 : Boxed W0 (w.heap.size + 1) 3 (.int .i64 (q : Int)) := by
    rw [hW0]; have := (Boxed.new (w.alloc (.cells #[.slice (some ⟨g, 0, none⟩) s.length cap] 47)) 3 (.int .i64 (q : Int))).alloc (.cells #[.slice ad n c] 24); simpa using this
  have x3 : Boxed W0 (w.heap.size + 2) 24 (.slice ad n c) := by
    rw [hW0]; have := Boxed.new ((w.alloc (.cells #[.slice (some ⟨g, 0, none⟩) s.length cap] 47)).alloc (.cells #[.int .i64 (q : Int)] 3)) 24 (.slice ad n c); simpa using this
  clear hW0
  have hrs0 : RS W0 ad n rs := HR.out.seen s0
  have hrow0 : W0.ownsRow base 46 5 (.slice (some ⟨g, 0, none⟩) s.length cap) s.length (flatP s) := ownsRow_keeps HV.out (fun k hk => by cases hk; exact s0.block _ hglt.2)
  obtain ⟨fr, hfr⟩ : ∃ fr : R4 × Nat → Nat → Act, fr = fun x Bx => { tmps := #[.slice (some ⟨g, 0, none⟩) s.length cap, .slice ad n c, .int .i64 (q : Int), .pointer (some ⟨w.heap.size, 0, none⟩), undef, .pointer (some ⟨w.heap.size + 1, 0, none⟩), .slice none 0 0, undef, .pointer (some ⟨Bx, 0, none⟩), .slice ad n c, .func (.func 33) #[] #[.pointer (some ⟨w.heap.size + 1 + 1, 0, none⟩)], .int .i64 (x.2 : Int), .agg #[.int .i64 x.1.x0, .int .i64 x.1.y0, .int .i64 x.1.x1, .int .i64 x.1.y1], undef, undef, undef, undef, undef, undef, undef], defers := [] } := ⟨_, rfl⟩
  have HFR := Lib.hid hfr
  have HX := Lib.hid (And.intro x1 (And.intro x2 (And.intro x3 (And.intro hrs0 (And.intro hrow0 (And.intro s0 z0))))))
  clear hfr x1 x2 x3 hrs0 hrow0 s0 z0
  refine wpIn_rangeFunc_sep (gf := 33) (lb := #[.pointer (some ⟨w.heap.size + 2, 0, none⟩)]) rfl (enters_of Try.func33 (by kernel_rfl) rfl) (encs := encB) (R := down rs n) (K := fun k => k < W0.heap.size ∧ rdK ad n (w.heap.size + 2) k) (fun k hk => hk.1)
    (fun W hW => ?_) (fun _ => rfl) (pushI base w.heap.size s q) (fun _ _ _ _ => False) (pushM base w.heap.size s q fr) (pushI_local _ _ _ _) (fun _ _ _ _ _ h _ => h) (pushM_local _ _ _ _ _) (pushI_low _ _ _ _)
    (fun k => k = w.heap.size ∨ k = w.heap.size + 1 ∨ k = g) ?start ?disj ?assign ?body ?done ?stop
  · obtain ⟨x1, x2, x3, hrs0, hrow0, s0, z0⟩ := HX.out
    refine SeqSep.more (back_sep (w.heap.size + 2) ad n c rs W ((Seen.cell hW x3.cell)) (hrs0.seen hW) (by omega)) ?_
    rintro k ⟨_, hk⟩
    refine ⟨?_, hk⟩
    rcases hk with rfl | ⟨h0, a, ha, rfl⟩
    · omega
    · exact hrs0.lt h0 a ha
  case start =>
    obtain ⟨x1, x2, x3, hrs0, hrow0, s0, z0⟩ := HX.out
    refine ⟨_, x1, x2, ?_, by omega, fun k => ?_⟩
    · simpa using hrow0
    · simp [Value.ownBlock, eq_comm]
  case disj =>
    obtain ⟨x1, x2, x3, hrs0, hrow0, s0, z0⟩ := HX.out
    rintro k hk ⟨_, hr⟩
    rcases hr with rfl | ⟨h0, a, ha, rfl⟩
    · rcases hk with h | h | h <;> omega
    · have h1 := HR.out.lt h0 a ha
      have h2 := HNE.out h0 a ha
      rcases hk with h | h | h <;> omega
  case assign =>
    rintro l pre x T W Ka hI hpre hK
    have HI := Lib.hid hI
    have HP := Lib.hid hpre
    have HKa := Lib.hid hK
    clear hI hpre hK
    simp only [encB]
    gi_wp2
    refine HKa.out _ (fun k => T k ∨ k = W.heap.size) _ (Moves.alloc T W _) ⟨W.heap.size, T, pushI_local _ _ _ _ _ _ _ _ HI.out ⟨by simp, fun k hk => Below.heap_alloc W _ k (pushI_low _ _ _ _ _ _ _ HI.out k hk)⟩, fun h => Nat.lt_irrefl _ (pushI_low _ _ _ _ _ _ _ HI.out _ h), World.alloc_heap_new W _, ?_, fun k => Iff.rfl⟩
    rw [HFR.out]
  case body =>
    rintro l pre x a' T W ⟨Bx, T1, ⟨v, h1, h2, h3, hbW, hT1⟩, hnB, hbx, ha, hT⟩ hpre
    dsimp only at h1 h2 h3 hbx ha
    rw [HFR.out] at ha
    have hpl : pre.length < 4 := by
      have := hpre.length_le
      rw [down_length] at this
      simp at this; omega
    have HT1 := Lib.hid hT1
    have HT := Lib.hid hT
    have HP := Lib.hid hpre
    have H1 := Lib.hid h1
    have H2 := Lib.hid h2
    have H3 := Lib.hid h3
    have c1 := h1.cell
    have c2 := h2.cell
    have e0 : W.cell? ⟨Bx, 0, none⟩ = some (.int .i64 x.1.x0) := by rw [Go.Joins.cell_of_block hbx]; rfl
    have e1 : W.cell? ⟨Bx, 1, none⟩ = some (.int .i64 x.1.y0) := by rw [Go.Joins.cell_of_block hbx]; rfl
    have e2 : W.cell? ⟨Bx, 2, none⟩ = some (.int .i64 x.1.x1) := by rw [Go.Joins.cell_of_block hbx]; rfl
    have e3 : W.cell? ⟨Bx, 3, none⟩ = some (.int .i64 x.1.y1) := by rw [Go.Joins.cell_of_block hbx]; rfl
    clear hT1 hT hpre h1 h2 h3 hbx
    subst ha
    gi_wp2_with (gi_at_builtin; refine wpListIn_append_own_at _ rfl _ _ 47 rfl base 46 i0 (.agg #[.int .i64 0, .int .i64 0, .int .i64 0, .int .i64 0, .int .i64 0]) 5 40 Try.underlying47 hi hz0 hz1 hz2 rfl (by decide) _ _ _ rfl (H3.out.alloc _) ⟨W.heap.size, 0, none⟩ 1 1 (flatP [(x.1, q)]) rfl rfl (new_cellsP W (x.1, q)) (flatP_one _) (by unfold maxLen; omega) (by omega) (by simp; omega) ?_; intro v' w1 hown' hgrow hnil hat; obtain ⟨g', cap', rfl⟩ := ownsRow_succ hown'; obtain ⟨hv1, hv2, hr2, hmv, hoth⟩ := append_moves H1.out (by decide) H3.out hown' hgrow hat (T := T) ((HT.out _).2 (.inl ((HT1.out _).2 (.inl rfl)))) (fun k hk => (HT.out _).2 (.inl ((HT1.out _).2 (.inr (.inr hk))))); have hc1 := hv1.cell; have hf1 := hv1.frozen; have HV2 := Lib.hid (And.intro hv2 (And.intro hr2 (And.intro hmv hoth))); clear hv2 hr2 hmv hoth hgrow hown' hnil hat)
    obtain ⟨hv2, hr2, hmv, hoth⟩ := HV2.out
    refine ⟨fun k => k = w.heap.size ∨ k = w.heap.size + 1 ∨ g' = k, hmv _ ?_, _, hv2, ?_, ?_, ?_, fun k => by simp [Value.ownBlock]⟩
    · rintro k (rfl | rfl | rfl)
      · exact .inl ((HT.out _).2 (.inl ((HT1.out _).2 (.inl rfl))))
      · exact .inl ((HT.out _).2 (.inl ((HT1.out _).2 (.inr (.inl rfl)))))
      · exact .inr rfl
    · refine boxed_keeps H2.out (hoth _ H2.out.lt (by omega) (fun e => ?_))
      exact (H2.out.not_row (by decide) H3.out) e.symm
    · have e : flatP (s ++ (pre ++ [x]).map fun x => (x.1, q)) = flatP (s ++ pre.map fun x => (x.1, q)) ++ flatP [(x.1, q)] := by
        rw [← flatP_append, List.map_append, List.append_assoc]; rfl
      rw [e, List.length_append, ← Nat.add_assoc]
      exact hr2
    · have := (hmv (fun k => k = w.heap.size) (fun k hk => .inl ((HT.out _).2 (.inl ((HT1.out _).2 (.inl hk)))))).size
      omega
  case done =>
    rintro D T W hD mv ⟨v, h1, h2, h3, hbW, hT⟩ hnD hK
    obtain ⟨x1, x2, x3, hrs0, hrow0, s0, z0⟩ := HX.out
    have hc := h1.cell
    have HK := Lib.hid hK
    have HM := Lib.hid mv
    have H3 := Lib.hid h3
    have HT := Lib.hid hT
    clear hK mv h1 h2 h3 hT x1 x2 x3 hrs0 hrow0 z0
    gi_wp2
    refine ⟨by simp, .inl ⟨_, _, rfl, run_takeDeferred HK.out, ?_⟩⟩
    refine ⟨_, results_tmp rfl _ _ _, v, rfl, ?_, ?_, ?_⟩
    · have h := ownsRow_putObj H3.out (.deferred none) HK.out rfl
      have hl := HL.out
      rw [← hl, down_map, down_length] at h
      rw [List.length_append, List.length_map, List.length_reverse]
      exact h
    · intro k hk
      rcases HM.out.own k ((HT.out k).2 (.inr (.inr hk))) with (h | h | h) | h
      · exact .inr (by omega)
      · exact .inr (by omega)
      · exact .inl (by rw [h]; rfl)
      · exact .inr (Nat.le_trans s0.size h)
    · refine ⟨HM.out.os.trans s0.os, HM.out.tape.trans s0.tape, HM.out.output.trans s0.output, ?_, fun k hk hne => ?_⟩
      · have := HM.out.size
        have := s0.size
        simp; omega
      · have h1 : k ≠ D := by have := s0.size; omega
        have h2 : k ≠ g := fun e => hne (by rw [e]; rfl)
        exact (World.putObj_heap_other h1).trans ((HM.out.block k (Nat.lt_of_lt_of_le hk s0.size) (by rintro (h | h | h) <;> omega)).trans (s0.block k hk))
  case stop =>
    rintro D c pre T W _ _ _ h
    exact h.elim
end Go.Proofs.Ytckfdlolmenigaa
