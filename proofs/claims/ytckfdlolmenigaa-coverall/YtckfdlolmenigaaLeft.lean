/- Contract of the iterator that left returns: what is left of a rectangle without a list of others, one by one. -/
import Derived.Test.YtckfdlolmenigaaPush
import Derived.Test.YtckfdlolmenigaaCut
import Derived.Test.YtckfdlolmenigaaArgRow
import Derived.Deep.RegionWith
import Derived.IntWalk
namespace Go.Proofs.Ytckfdlolmenigaa
open Go.ChangeShapes Go.WideShapes Go.ChangeAt Go.RowKit Go.Shelf
attribute [local go_sem] Oper.semAt_some
def encR (x : R4) : Array Value := #[.agg #[.int .i64 x.x0, .int .i64 x.y0, .int .i64 x.x1, .int .i64 x.y1]]
/-- What the iterator keeps between two turns of its loop. -/
def LeftInv (J : List R4 → (Nat → Prop) → World → Prop) (T : Nat → Prop) (W : World) (rs R : List R4) (n gk : Nat) (v : Value) (wr : World) : Prop :=
  ∃ (s : List (R4 × Nat)) (pre : List R4) (T1 : Nat → Prop), wr.ownsRow W.heap.size 46 5 v s.length (flatP s) ∧ (∀ g, v.ownBlock = some g → ¬ T1 g) ∧ StkOk n s ∧ gk = wgt n s ∧ pre ++ outS rs s = R ∧ J pre T1 wr ∧ Moves T T1 W wr
theorem snoc_cases {α : Type} (s : List α) : s = [] ∨ ∃ t p, s = t ++ [p] := by
  rcases List.eq_nil_or_concat s with h | ⟨t, p, h⟩
  · exact .inl h
  · exact .inr ⟨t, p, by rw [h, List.concat_eq_append]⟩
theorem flatP_last (t : List (R4 × Nat)) (p : R4 × Nat) :
    (flatP (t ++ [p]))[t.length * 5]? = some (.int .i64 p.1.x0) ∧ (flatP (t ++ [p]))[t.length * 5 + 1]? = some (.int .i64 p.1.y0) ∧ (flatP (t ++ [p]))[t.length * 5 + 2]? = some (.int .i64 p.1.x1) ∧ (flatP (t ++ [p]))[t.length * 5 + 3]? = some (.int .i64 p.1.y1) ∧ (flatP (t ++ [p]))[t.length * 5 + 4]? = some (.int .i64 (p.2 : Int)) := by
  have hl := flatP_length t
  rw [flatP_append, ← hl]
  simp [flatP]
theorem own_cell {w : World} {base : Nat} {e : TypeId} {size n g cap : Nat} {xs : List Value} (h : w.ownsRow base e size (.slice (some ⟨g, 0, none⟩) n cap) n xs) {j : Nat} {u : Value} (hj : xs[j]? = some u) : w.cell? ⟨g, j, none⟩ = some u := by
  have := h.cells (g := g) rfl j u hj
  rwa [show ((⟨g, 0, none⟩ : Addr).add j) = ⟨g, j, none⟩ by unfold Addr.add; split <;> simp_all] at this
theorem own_less {w : World} {base : Nat} {e : TypeId} {size n m g cap : Nat} {xs ys : List Value} (h : w.ownsRow base e size (.slice (some ⟨g, 0, none⟩) n cap) n xs) (hm : m ≤ n) (hy : xs.take (m * size) = ys) : w.ownsRow base e size (.slice (some ⟨g, 0, none⟩) m cap) m ys := by
  rcases h.2 with ⟨h1, _⟩ | ⟨g', cap', cur, hv, hb, hg, h1, h2, h3, h4⟩
  · cases h1
  · cases hv
    have hle : m * size ≤ n * size := Nat.mul_le_mul_right _ hm
    refine ⟨by rw [← hy, List.length_take, h.1]; omega, .inr ⟨g, cap, cur, rfl, hb, hg, by omega, h2, h3, ?_⟩⟩
    rw [← hy, ← h4, List.take_take]; congr 1; omega
def tailA (ad : Option Addr) (c q : Nat) : Option Addr := if c = q then ad else ad.map (·.add (q * 4))
theorem run_tail (ad : Option Addr) (n c q : Nat) (hq : q ≤ n) (w : World) : (Instr.slice 24 (.slice ad n c) (some (.int .i64 (q : Int))) none none).run Try.prog w = .ok (.slice (tailA ad c q) (n - q) (c - q)) w := by
  unfold tailA
  go_simp
theorem run_tailAt (ad : Option Addr) (n c q : Nat) (hq : q ≤ n) (w : World) : (Instr.sliceAt 24 (.slice ad n c) (some (.int .i64 (q : Int))) none none).run Try.prog w = .ok (.slice (tailA ad c q) (n - q) (c - q)) w := by
  unfold tailA
  go_simp
theorem RS.tail {W : World} {ad : Option Addr} {n c q : Nat} {rs : List R4} (h : RS W ad n rs) (hq : q ≤ n) (hc : n ≤ c) : RS W (tailA ad c q) (n - q) (rs.drop q) := by
  refine ⟨by rw [List.length_drop, h.1], fun h0 => ?_⟩
  obtain ⟨b, off, rfl, hcs⟩ := h.2 (by omega)
  refine ⟨b, off + q * 4, ?_, fun i hi => ?_⟩
  · unfold tailA; rw [if_neg (by omega), Option.map_some, add_plain]
  · rw [rat_drop, show off + q * 4 + i * 4 = off + (q + i) * 4 by omega]
    exact hcs (q + i) (by omega)
/-- A piece lies at the start of this block. -/
def BoxP (w : World) (b : Nat) (p : R4) (q : Nat) : Prop := Box w b p ∧ w.cell? ⟨b, 4, none⟩ = some (.int .i64 (q : Int))
theorem BoxP.rules {W : World} {b : Nat} {p : R4} {q : Nat} (hb : BoxP W b p q) : ∀ w', Seen W w' →
    w'.cell? ⟨b, 0, none⟩ = some (.int .i64 p.x0) ∧ w'.cell? ⟨b, 1, none⟩ = some (.int .i64 p.y0) ∧ w'.cell? ⟨b, 2, none⟩ = some (.int .i64 p.x1) ∧ w'.cell? ⟨b, 3, none⟩ = some (.int .i64 p.y1) ∧ w'.cell? ⟨b, 4, none⟩ = some (.int .i64 (q : Int)) := fun _ h =>
  let ⟨h0, h1, h2, h3⟩ := h.box hb.1; ⟨h0, h1, h2, h3, h.cell hb.2⟩
theorem cell_rules {W : World} {a : Addr} {v : Value} (hc : W.cell? a = some v) : ∀ w', Seen W w' → w'.cell? a = some v := fun _ h => h.cell hc
theorem isI {P : Program} {f : FuncId} {args : Array Value} {a b : Int} {w : World} (h : Calls P f args w fun e w' => e = .returned (.int .i64 a) ∧ Below w.heap.size w w') (hb : a = b) :
    Calls P f args w fun e w' => e = .returned (.int .i64 b) ∧ Below w.heap.size w w' := hb ▸ h
set_option maxRecDepth 100000 in
set_option maxHeartbeats 4000000 in
theorem left_sep (B1 B2 : Nat) (r : R4) (ad : Option Addr) (n c : Nat) (rs : List R4) (W : World) (h1 : Box W B1 r) (h2 : W.cell? ⟨B2, 0, none⟩ = some (.slice ad n c)) (hR : RS W ad n rs) (hn : n ≤ 1000000) (hc : n ≤ c) :
    SeqSep Try.prog 27 #[.pointer (some ⟨B1, 0, none⟩), .pointer (some ⟨B2, 0, none⟩)] encR (restOf r rs) (fun k => k < W.heap.size ∧ (k = B1 ∨ rdK ad n B2 k)) W := by
  intro l J Jx T hJ hJx low hY h0 hT
  refine (callsIn_wide (n := 5)).1 (callsIn_of_wp Try.func27 rfl trivial ?_ rfl)
  have HB1 := Lib.hid h1
  have HB2 := Lib.hid h2
  have HR := Lib.hid hR
  have hB1 : B1 < W.heap.size := lt_of_cell h1.1
  have hB2 : B2 < W.heap.size := lt_of_cell h2
  have keep : ∀ T1 wr, Moves T T1 W wr → Box wr B1 r ∧ wr.cell? ⟨B2, 0, none⟩ = some (.slice ad n c) ∧ RS wr ad n rs := fun T1 wr mv => by
    have hk : Keeps (fun k => k < W.heap.size ∧ (k = B1 ∨ rdK ad n B2 k)) W wr := mv.keeps (fun k hk => ⟨hk.1, fun ht => hT k ht hk⟩)
    have f := fun j => hk.cell (p := ⟨B1, j, none⟩) ⟨hB1, .inl rfl⟩
    refine ⟨⟨(f 0).trans HB1.out.1, (f 1).trans HB1.out.2.1, (f 2).trans HB1.out.2.2.1, (f 3).trans HB1.out.2.2.2⟩, (hk.cell ⟨hB2, .inr (.inl rfl)⟩).trans HB2.out, ?_⟩
    rcases Nat.eq_zero_or_pos n with rfl | hp
    · exact ⟨HR.out.1, fun h => absurd h (Nat.lt_irrefl _)⟩
    · exact HR.out.keeps hk (fun a ha => ⟨HR.out.lt hp a ha, .inr (.inr ⟨hp, a, ha, rfl⟩)⟩)
  obtain ⟨c0, c1, c2, c3⟩ := h1
  have HT := Lib.hid hT
  have HY := Lib.hid hY
  have HK := Lib.hid keep
  have H0 := Lib.hid h0
  have HJ := Lib.hid (And.intro hJ (And.intro hJx low))
  clear hY hR hT keep h0 hJ hJx low h2
  simp only [Try.ntmps27, List.size_toArray, List.length_cons, List.length_nil, Nat.reduceAdd, Nat.reduceSub, Array.replicate_succ, Array.replicate_zero, List.push_toArray, List.append_toArray, List.nil_append, List.cons_append]
  cases he : emptyB r with
  | true =>
    have HE := Lib.hid he
    clear he
    gi_wp2_with (refine ⟨trivial, ?_⟩; gi_at_call 28; refine (callsIn_wide.2 (isB (empty_any r _) HE.out)).mono ?_; rintro e w' ⟨rfl, hw'⟩)

    refine bodyPost_ret (results_none rfl _ _ _) rfl ?_
    refine ⟨⟨_, rfl⟩, T, Moves.of_below hw', .inl ?_⟩
    rw [restOf_empty HE.out]
    exact HJ.out.1 _ _ _ _ H0.out (Keeps.of_below hw' (HJ.out.2.2 _ _ _ H0.out))
  | false =>
    have HE := Lib.hid he
    clear he
    gi_wp2_with (refine ⟨trivial, ?_⟩; gi_at_call 28; refine (callsIn_wide.2 (isB (empty_any r _) HE.out)).mono ?_; rintro e w1 ⟨rfl, hw1⟩; obtain ⟨⟨d0, d1, d2, d3⟩, hrest⟩ := HK.out T w1 (Moves.of_below hw1); clear hrest; have HW1 := Lib.hid hw1; clear hw1)
    gi_loopg [4] (wgt n [(r, 0)]) (fun gk v wr => LeftInv J T W rs (restL r rs) n gk v wr)
    case atStart =>
      have hw1 := HW1.out
      refine ⟨[(r, 0)], [], T, ⟨rfl, .inr ⟨w1.heap.size, 1, _, rfl, hw1.size, World.alloc_heap_new w1 _, Nat.le_refl _, by decide, rfl, rfl⟩⟩, ?_, stk_start HE.out, rfl, ?_, ?_, Moves.of_below (hw1.alloc hw1.size _)⟩
      · intro g hg ht
        cases hg
        have h1 : w1.heap.size < W.heap.size := HJ.out.2.2 _ _ _ H0.out _ ht
        have := hw1.size
        omega
      · simp [outS]
      · exact HJ.out.1 _ _ _ _ H0.out (Keeps.of_below (hw1.alloc hw1.size _) (HJ.out.2.2 _ _ _ H0.out))
    case round =>
      obtain ⟨s, pre, T1, hown, hno, hok, hgk, hpre, hJ1, hmv⟩ := hrel
      have HO := Lib.hid (And.intro hno (And.intro hok (And.intro hpre (And.intro hJ1 hmv))))
      rcases snoc_cases s with rfl | ⟨t, ⟨p, q⟩, rfl⟩
      · have fin : SeqEnds J Jx (restOf r rs) T W (.returned (.tuple #[])) wr := by
          refine ⟨⟨_, rfl⟩, T1, hmv, .inl ?_⟩
          rw [restOf_solid HE.out, ← hpre, show outS rs [] = [] from rfl, List.append_nil]
          exact hJ1
        have HFin := Lib.hid fin
        have HOwn := Lib.hid hown
        clear fin hown hno hok hgk hpre hJ1 hmv HO c0 c1 c2 c3 d0 d1 d2 d3
        rcases HOwn.out.2 with ⟨rfl, _⟩ | ⟨g, cap, cur, rfl, _⟩
        · gi_wp2
          go_end0
          exact HFin.out
        · gi_wp2
          go_end0
          exact HFin.out
      · rw [List.length_append] at hown
        obtain ⟨g, cap, rfl⟩ := ownsRow_succ hown
        have hown' : wr.ownsRow W.heap.size 46 5 (.slice (some ⟨g, 0, none⟩) (t.length + 1) cap) (t.length + 1) (flatP (t ++ [(p, q)])) := hown
        have hlen := stk_len hok
        rw [List.length_append] at hlen
        have hlen' : t.length ≤ 3000000 := by simp at hlen; omega
        obtain ⟨f0, f1, f2, f3, f4⟩ := flatP_last t (p, q)
        have a0 := own_cell hown' f0
        have a1 := own_cell hown' f1
        have a2 := own_cell hown' f2
        have a3 := own_cell hown' f3
        have a4 := own_cell hown' f4
        have HOW := Lib.hid (own_less hown' (Nat.le_succ _) (show (flatP (t ++ [(p, q)])).take (t.length * 5) = flatP t by rw [flatP_append, ← flatP_length, List.take_left]))
        have hcap : t.length + 1 ≤ cap := by
          rcases hown'.2 with ⟨h, _⟩ | ⟨_, _, _, hv, _, _, h, _⟩
          · cases h
          · cases hv; exact h
        have hglt := hown'.lt g rfl
        have HG := Lib.hid hgk
        clear hown hown' hno hok hgk hpre hJ1 hmv hlen f0 f1 f2 f3 f4 c0 c1 c2 c3 d0 d1 d2 d3
        gi_wp2
        obtain ⟨W2, hW2⟩ : ∃ W2, W2 = wr.alloc (.cells #[.int .i64 p.x0, .int .i64 p.y0, .int .i64 p.x1, .int .i64 p.y1, .int .i64 (q : Int)] 46) := ⟨_, rfl⟩
        rw [← hW2]
        have s2 : Seen wr W2 := by rw [hW2]; exact (Seen.refl _).alloc _
        have bp := BoxP.rules (show BoxP W2 wr.heap.size p q by rw [hW2]; unfold BoxP Box; simp)
        clear hW2 a0 a1 a2 a3 a4
        obtain ⟨hno, hok, hpre, hJ1, hmv⟩ := HO.out
        obtain ⟨hok', hpe, hqn, htq⟩ := stk_pop hok
        obtain ⟨_, hcB2, hrs⟩ := HK.out T1 wr hmv
        have rB2 := cell_rules (s2.cell hcB2)
        have HRS := Lib.hid (hrs.seen s2)
        have HRT := Lib.hid ((hrs.seen s2).tail hqn hc)
        have hfle := fmN_le p (rs.drop q)
        rw [List.length_drop, HR.out.1] at hfle
        obtain ⟨f, hf⟩ : ∃ f, fmN p (rs.drop q) = f := ⟨_, rfl⟩
        have HF := Lib.hid hf
        rw [hf] at hfle
        obtain ⟨k, hk⟩ : ∃ k, k = q + f := ⟨_, rfl⟩
        have hwrap : IntKind.i64.wrap ((q : Int) + (f : Int)) = (k : Int) := by rw [IntWalk.i64_in _ (by omega)]; omega
        have HKF := Lib.hid hk
        have htl := run_tail ad n c q hqn
        have htl2 := run_tailAt ad n c q hqn
        have HO2 := Lib.hid (And.intro hok' (And.intro hpe (And.intro htq hpre)))
        have hqk : q ≤ k := by omega
        have hkn : k ≤ n := by omega
        clear hno hok hok' hpre hpe hJ1 hmv hcB2 hrs hf hk htq
        refine wpIn_wide.2 ?_
        refine wp_region_quiet (C := Seen W2) (by kernel_rfl) (by kernel_rfl) (Seen.drew (Seen.refl _)) ?_
        simp only []
        repeat (first
          | go_big_quiet_skip
          | (go_big_quiet_want
             apply Exists.intro
             refine ⟨fun w1 h1 => ?_, ?_⟩
             focus
               go_simp
               first | done | rfl | (go_at_call 23; with_reducible exact quiet_call h1 (isI (fm_any p _ _ _ (rs.drop q) _ (HRT.out.seen h1) (by omega)) (congrArg Nat.cast HF.out)))
             (try simp only [Act.put, List.setIfInBounds_toArray, List.set_cons_zero, List.set_cons_succ])
             go_big_quiet_on))
        refine wpQuiet_nil ?_
        intro w3 h3
        clear htl htl2 hwrap
        by_cases hlt : k < n
        · obtain ⟨b1, o1, rfl, hcs⟩ := HRS.out.2 (by omega)
          have rk := At4.rules (hcs k hlt)
          clear hcs
          obtain ⟨k1, hk1⟩ : ∃ k1, k1 = k + 1 := ⟨_, rfl⟩
          have HK1 := Lib.hid hk1
          have hwrap2 : IntKind.i64.wrap ((k : Int) + 1) = (k1 : Int) := by rw [IntWalk.i64_in _ (by omega)]; omega
          clear hk1
          obtain ⟨m, hm⟩ : ∃ m, (cutL p (rat rs k)).length = m := ⟨_, rfl⟩
          have HM := Lib.hid hm
          have hm4 : m ≤ 4 := hm ▸ cut_short p (rat rs k)
          clear hm
          gi_wp2
          refine wpIn_wide.2 ?_
          have h3d : Seen W2 w3.drew := h3.drew
          have s3 : Seen wr w3.drew := s2.trans h3d
          have hWr : W.heap.size ≤ wr.heap.size := HO.out.2.2.2.2.size
          go_region_with (first
            | (go_at_call 30; refine (cut_any p (rat rs k) _).mono ?_; rintro e w4 ⟨⟨v4, rfl, hown4⟩, hb4⟩; rw [HM.out] at hown4; obtain ⟨a4, c4, rfl, hrs4⟩ := rs_of_own hown4 HM.out; have s4 : Seen wr w4 := s3.next hb4; have HN4 := Lib.hid (And.intro hown4 hrs4); clear hown4 hrs4 hb4)
            | (go_at_call 29; refine (push_any W.heap.size g cap t a4 m c4 (cutL p (rat rs k)) k1 w4 (ownsRow_keeps HOW.out (fun j hj => by cases hj; exact s4.block _ hglt.2)) HN4.out.2 (fun _ a ha hg => by subst ha; have h1 := (HN4.out.1.lt a.block rfl).1; have h2 := s3.size; omega) hm4 (by omega) (Nat.le_trans hWr s4.size)).mono ?_; rintro e w5 ⟨v5, rfl, hown5, hob5, hgr5⟩; have HN5 := Lib.hid (And.intro hown5 (And.intro hob5 hgr5)); clear hown5 hob5 hgr5))
          all_goals
            clear rk
            gi_wp2
            gi_roundg (wgt n (t ++ (cutL p (rat rs k)).reverse.map fun r => (r, k1)))
            case rel =>
              obtain ⟨hown5, hob5, hgr5⟩ := HN5.out
              obtain ⟨hno, hok, hpre0, hJ1, hmv⟩ := HO.out
              obtain ⟨hok', hpe, htq, hpre⟩ := HO2.out
              have hk1 := HK1.out
              have hT1 : ∀ j, T1 j → j < wr.heap.size ∧ j ≠ g := fun j hj => ⟨HJ.out.2.2 _ _ _ hJ1 j hj, fun e => hno g rfl (e ▸ hj)⟩
              have kp : Keeps T1 wr w5 := (Keeps.of_below s4 (fun j hj => (hT1 j hj).1)).trans (Keeps.of_grown hgr5 (fun j hj => ⟨Nat.lt_of_lt_of_le (hT1 j hj).1 s4.size, fun e => (hT1 j hj).2 (by cases e; rfl)⟩))
              refine ⟨_, pre, T1, hown5, ?_, ?_, rfl, ?_, HJ.out.1 _ _ _ _ hJ1 kp, ?_⟩
              · intro j hj ht
                rcases hob5 j hj with h | h
                · cases h; exact hno g rfl ht
                · have h1 := (hT1 j ht).1
                  have h2 := s4.size
                  omega
              · rw [hk1]; exact stk_push hok' htq hqk hlt (cut_no p _) (by rw [HM.out]; exact hm4)
              · have hkf : k = q + fmN p (rs.drop q) := by rw [HF.out]; exact HKF.out
                have hkl : k < rs.length := by rw [HR.out.1]; exact hlt
                rw [out_push, ← hpre, out_top, hk1, piece_cut hpe hkf hkl]
              · exact hmv.newer (((s4 : Below wr.heap.size wr w4).mono hWr).grown hgr5 (Nat.le_trans hWr s4.size) (fun j hj => by cases hj; exact hglt.1))
            case measure =>
              rw [HG.out, HK1.out]
              exact wgt_push hqk hlt (by rw [HM.out]; exact hm4)
        · obtain ⟨hno, hok, hpre0, hJ1, hmv⟩ := HO.out
          obtain ⟨hok', hpe, htq, hpre⟩ := HO2.out
          have s3 : Seen wr w3 := s2.trans h3
          have hWr : W.heap.size ≤ wr.heap.size := hmv.size
          have hT1 : ∀ j, T1 j → j < wr.heap.size := HJ.out.2.2 _ _ _ hJ1
          have hJ3 := HJ.out.1 _ _ _ _ hJ1 (Keeps.of_below s3 hT1)
          have hmv3 : Moves T T1 W w3 := hmv.newer ((s3 : Below wr.heap.size wr w3).mono hWr)
          have hR2 : (pre ++ [p]) ++ outS rs t = restL r rs := by
            rw [← hpre, out_top, piece_done hpe (by rw [HR.out.1]; exact hqn) (by rw [HF.out, HR.out.1]; have := HKF.out; omega), List.append_assoc]
          have hpf : (pre ++ [p]) <+: restOf r rs := by rw [restOf_solid HE.out]; exact ⟨_, hR2⟩
          obtain ⟨fn, tmps, assign, body, hy, hRd⟩ := HY.out 0 pre p T1 w3 hJ3 hpf
          dsimp only [encR] at hy
          have HRd := Lib.hid hRd
          have H3 := Lib.hid (And.intro hno (And.intro hok' (And.intro hR2 (And.intro hpf (And.intro hmv3 s3)))))
          clear hno hok hpre0 hJ1 hmv hok' hpe htq hpre hT1 hJ3 hmv3 hR2 hpf hRd s3
          gi_wp2
          refine RoundIn.mono (roundIn_any HRd.out) ?_
          rintro e W5 ⟨T5, mv5, (⟨rfl, hJ5⟩ | ⟨rfl, hJ5⟩)⟩
          · have H5 := Lib.hid (And.intro mv5 hJ5)
            clear mv5 hJ5 hy
            gi_wp2
            gi_roundg (wgt n t)
            case rel =>
              obtain ⟨mv5, hJ5⟩ := H5.out
              obtain ⟨hno, hok', hR2, hpf, hmv3, s3⟩ := H3.out
              have hg3 : g < w3.heap.size := Nat.lt_of_lt_of_le hglt.2 s3.size
              refine ⟨t, pre ++ [p], T5, ownsRow_keeps HOW.out (fun j hj => by cases hj; exact (mv5.block _ hg3 (hno g rfl)).trans (s3.block _ hglt.2)), ?_, hok', rfl, hR2, hJ5, hmv3.trans mv5⟩
              intro j hj ht
              cases hj
              rcases mv5.own _ ht with h | h
              · exact hno g rfl h
              · have : w3.heap.size ≤ g := h
                omega
            case measure => rw [HG.out]; exact wgt_pop n t (p, q)
          · have H5 := Lib.hid (And.intro mv5 hJ5)
            clear mv5 hJ5 hy
            gi_wp2
            refine bodyPost_ret (results_none rfl _ _ _) rfl ?_
            obtain ⟨mv5, hJ5⟩ := H5.out
            obtain ⟨hno, hok', hR2, hpf, hmv3, s3⟩ := H3.out
            exact ⟨⟨_, rfl⟩, T5, hmv3.trans mv5, .inr ⟨pre ++ [p], hpf, hJ5⟩⟩
end Go.Proofs.Ytckfdlolmenigaa
