/- Texts of the proof, merged: KinBuild. -/
import Derived.Test.YtngeaigkafamiaaGreatM4
import Derived.Test.YtngeaigkafamiaaGreatM18
import Derived.Test.YtngeaigkafamiaaGreatM13
namespace Go.Proofs.YtngeaigkafamiaaGreat
open Go.ChangeShapes Go.WideShapes Go.ChangeAt Go.RowKit
set_option maxRecDepth 100000
structure KQ (w : World) (B G H n : Nat) (X : List Nd) (Q : List Pl) : Prop where
  obj : w.heap[B]? = some (.cells #[.slice (some ⟨G, 0, none⟩) n n, .slice (some ⟨H, 0, none⟩) n n] 77)
  sty : w.heap[G]? = some (.cells (X.flatMap stn).toArray 66)
  pls : w.heap[H]? = some (.cells (Q.flatMap pll).toArray 79)
theorem KQ.keeps {w w' : World} {B G H n : Nat} {X : List Nd} {Q : List Pl} (h : KQ w B G H n X Q) (hb : w'.heap[B]? = w.heap[B]?) (hg : w'.heap[G]? = w.heap[G]?) (hh : w'.heap[H]? = w.heap[H]?) : KQ w' B G H n X Q :=
  ⟨hb.trans h.obj, hg.trans h.sty, hh.trans h.pls⟩
theorem KQ.seen {w w' : World} {B G H n : Nat} {X : List Nd} {Q : List Pl} (h : KQ w B G H n X Q) (hs : Seen w w') : KQ w' B G H n X Q :=
  h.keeps (hs.block _ (lt_of_block h.obj)) (hs.block _ (lt_of_block h.sty)) (hs.block _ (lt_of_block h.pls))
theorem KQ.objs {w : World} {B G H n : Nat} {X : List Nd} {Q : List Pl} (h : KQ w B G H n X Q) : w.cell? ⟨B, 0, none⟩ = some (.slice (some ⟨G, 0, none⟩) n n) ∧ w.cell? ⟨B, 1, none⟩ = some (.slice (some ⟨H, 0, none⟩) n n) :=
  ⟨by rw [Go.Joins.cell_of_block h.obj]; rfl, by rw [Go.Joins.cell_of_block h.obj]; rfl⟩
theorem KQ.place {w : World} {B G H n : Nat} {X : List Nd} {Q : List Pl} (h : KQ w B G H n X Q) {i : Nat} (hi : i < Q.length) : w.rangeAt H (i * 5) (pll (Q.getD i zeroP)) := fun j v hj => by
  have hj' : j < 5 := by
    rcases Nat.lt_or_ge j 5 with h1 | h1
    · exact h1
    · rw [List.getElem?_eq_none (by rw [pll_length]; exact h1)] at hj; cases hj
  rw [Go.Joins.cell_of_block h.pls, List.getElem?_toArray, fl_at pll_length Q zeroP hi hj']
  exact hj
def E0 (n : Nat) : Nat := n + 1
theorem info55z : (Tryz.prog.info? 79).map (fun i => (i.zero, i.size, i.bytes)) = some (some (.agg (pll zeroP).toArray), 5, 32) := by kernel_rfl
theorem info55 : (Tryz.prog.info? 79).map (·.size) = some 5 := by kernel_rfl
theorem run_storeC {w : World} {X o : Nat} {ty t : TypeId} {vs cs : List Value} (hb : w.heap[X]? = some (.cells cs.toArray t)) (hn : o + vs.length ≤ cs.length) (hi : (Tryz.prog.info? ty).map (·.size) = some vs.length) (h1 : ∀ u ∈ vs, u.oneCell' = true) :
    (Instr.storeAt ty (.pointer (some ⟨X, o, none⟩)) (.agg vs.toArray)).run Tryz.prog w = .ok () (w.setCells X o vs) := by
  have := run_storeAt_mid (P := Tryz.prog) w X o ty vs.toArray (by simpa using there_block hb hn) (by simpa using hi) (all_oneCell_toArray h1)
  simpa using this
theorem run_load3 {w : World} {a : Addr} {v : Value} (h : w.cell? a = some v) : (Instr.loadAt 3 (.pointer (some a))).run Tryz.prog w = .ok v w := by
  simp [Instr.loadAt, Instr.sureAddr, loadVar, Tryz.isAgg3, h]
theorem run_load51 {w : World} {a : Addr} {v : Value} (h : w.cell? a = some v) : (Instr.loadAt 75 (.pointer (some a))).run Tryz.prog w = .ok v w := by
  simp [Instr.loadAt, Instr.sureAddr, loadVar, Tryz.isAgg75, h]
theorem run_load50 {w : World} {a : Addr} {v : Value} (h : w.cell? a = some v) : (Instr.loadAt 74 (.pointer (some a))).run Tryz.prog w = .ok v w := by
  simp [Instr.loadAt, Instr.sureAddr, loadVar, Tryz.isAgg74, h]
theorem run_loadP {w : World} {H o : Nat} {q : Pl} (h : w.rangeAt H o (pll q)) : (Instr.loadAt 79 (.pointer (some ⟨H, o, none⟩))).run Tryz.prog w = .ok (plv q) w := by
  have := run_loadVar_mid w H o 79 (pll q) _ h Tryz.underlying79 rfl info55
  simp only [Instr.loadAt, Instr.sureAddr, Sem.run_bind, Sem.run_pure, Result.andThen_ok, this]
  rfl
theorem run_index51k (H k n c : Nat) (hk : k < n) (w : World) : (Instr.indexAt 75 (.slice (some ⟨H, 0, none⟩) n c) (.int .i64 k)).run Tryz.prog w = .ok (.pointer (some ⟨H, k * 5, none⟩)) w := by
  simp [Instr.indexAt, asIntOf, run_underlying Tryz.underlying75, Tryz.sizeOf79, add_plain]
  omega
theorem run_index50 (H k n c : Nat) (hk : k < n) (w : World) : (Instr.indexAt 74 (.slice (some ⟨H, 0, none⟩) n c) (.int .i64 k)).run Tryz.prog w = .ok (.pointer (some ⟨H, k * 48, none⟩)) w := by
  simp [Instr.indexAt, asIntOf, run_underlying Tryz.underlying74, Tryz.sizeOf66, add_plain]
  omega
theorem ret_place {fn : Func} {tmps : Array Value} {k : Nat} {T : World} {R : Nat} {r : Pl} (hr : fn.results = #[.cell k 79]) (hp : tmps.getD k undef = .pointer (some ⟨R, 0, none⟩)) (hb : T.heap[R]? = some (.cells (pll zeroP).toArray 79)) :
    (results fn tmps).run Tryz.prog (((((T.setCell ⟨R, 0, none⟩ (.int .i64 r.par)).setCell ⟨R, 1, none⟩ (.int .i64 r.stop)).setCell ⟨R, 2, none⟩ (.int .i64 r.deep)).setCell ⟨R, 3, none⟩ (.bool r.made)).setCell ⟨R, 4, none⟩ (.bool r.out)) =
      .ok (plv r) (((((T.setCell ⟨R, 0, none⟩ (.int .i64 r.par)).setCell ⟨R, 1, none⟩ (.int .i64 r.stop)).setCell ⟨R, 2, none⟩ (.int .i64 r.deep)).setCell ⟨R, 3, none⟩ (.bool r.made)).setCell ⟨R, 4, none⟩ (.bool r.out)) := by
  have h1 : (T.setCells R 0 (pll r)).heap[R]? = some (.cells (pll r).toArray 79) := block_sets hb 0 (pll r) rfl
  have h2 : (T.setCells R 0 (pll r)).rangeAt R 0 (pll r) := fun j v hj => by rw [Go.Joins.cell_of_block h1, List.getElem?_toArray, Nat.zero_add]; exact hj
  exact results_cell hr hp (run_loadVar_mid (T.setCells R 0 (pll r)) R 0 79 (pll r) _ h2 Tryz.underlying79 rfl info55)
theorem keep3 (W : World) {X P a b c : Nat} {v1 v2 v3 : Value} (hne : X ≠ P) : (((W.setCell ⟨P, a, none⟩ v1).setCell ⟨P, b, none⟩ v2).setCell ⟨P, c, none⟩ v3).heap[X]? = W.heap[X]? := by
  rw [Below.heap_setCell _ ⟨P, c, none⟩ _ _ hne, Below.heap_setCell _ ⟨P, b, none⟩ _ _ hne, Below.heap_setCell _ ⟨P, a, none⟩ _ _ hne]
theorem At.new (w : World) (x : Nd) {w' : World} (hs : Seen (w.alloc (.cells (ndl x).toArray 69)) w') : At w' w.heap.size 0 x := ((hn_new w x).seen hs).at
set_option maxHeartbeats 4000000 in
theorem placeBelow_any (B G H n i : Nat) (X l : List Nd) (Q : List Pl) (w : World) (h : KQ w B G H n X Q) (hf : FormedT l) (hl : l.length = n) (hq : Q.length = n) (hn : n ≤ 65535) (hi : i < n) (hQ : ∀ p, p < i → Q.getD p zeroP = plE l E0 p) :
    Calls Tryz.prog 16 #[.pointer (some ⟨B, 0, none⟩), nv (nd l i), .int .i64 i] w fun e w' => e = .returned (plv (plE l E0 i)) ∧ Seen w w' := by
  obtain ⟨x, hx⟩ : ∃ x, nd l i = x := ⟨_, rfl⟩
  have cp : ∀ o, ((w.alloc (.cells (ndl x).toArray 69)).alloc o).cell? ⟨w.heap.size, 48, none⟩ = some (.int .i64 x.p) := fun o => (At.new w x ((Seen.refl _).alloc o)).par
  have cs : ∀ o, ((w.alloc (.cells (ndl x).toArray 69)).alloc o).cell? ⟨w.heap.size, 0, none⟩ = some (.bool x.s.shown) := fun o => (At.new w x ((Seen.refl _).alloc o)).shown
  unfold nv
  rcases Nat.eq_zero_or_pos i with h0 | h0
  · subst h0
    have e1 : Hid (plE l E0 0 = ⟨x.p, 1, 1, x.s.shown, false⟩) := by
      unfold Hid plE
      rw [made_root hf, deep_root hf, out_root, hx]; rfl
    rw [hx]
    clear hx h hf hQ
    go_enter Tryz.func16, Tryz.ntmps16
    go_wp2_with fail
    go_returns
    rw [e1.out]
    exact ⟨rfl, (((Seen.refl w).alloc _).alloc _).alloc _⟩
  · have hil : i < l.length := by omega
    obtain ⟨q, hqx⟩ := Int.eq_ofNat_of_zero_le (a := (nd l i).p) (par_bel hf h0 hil).1
    have hqi : q < i := by have := (par_lt hf hil).2; omega
    have e1 : Hid (plE l E0 i = ⟨x.p, (i : Int) + 1, 1 + (deep l q : Int), x.s.shown && madeB l q, (x.s.shown && madeB l q) && (x.s.pos == 2 || x.s.pos == 3)⟩) := by
      unfold Hid plE
      rw [out_pos hf h0 hil, made_par hf h0 hil, deep_par hf h0 hil, hqx, hx, ← hx, hqx]
      simp [E0]
    have hdq := deep_len hf (i := q) (by omega)
    have hxp : x.p = (q : Int) := by rw [← hx]; exact hqx
    have HPL := Lib.hid (h.place (i := q) (by omega))
    rw [hQ q hqi] at HPL
    have CB := Lib.hid h.objs.2
    rw [hx]
    rw [hxp] at cp
    have HXP := Lib.hid hxp
    clear hx h hf hQ hqx hxp
    have hi63 : (i : Int) + 1 < 9223372036854775808 := by omega
    have hi0 : (i : Int) > 0 := by omega
    go_enter Tryz.func16, Tryz.ntmps16
    go_wp2_with fail
    clear cp cs
    obtain ⟨V, hV⟩ : ∃ V, V = ((w.alloc (.cells (ndl x).toArray 69)).alloc (.cells #[.int .i64 0, .int .i64 0, .int .i64 0, .bool false, .bool false] 79)).alloc (.cells #[.int .i64 (q : Int), .int .i64 ((i : Int) + 1), .int .i64 1, .bool x.s.shown, .bool false] 79) := ⟨_, rfl⟩
    rw [← hV]
    have SV : Hid (Seen w V) := by rw [hV]; exact (((Seen.refl w).alloc _).alloc _).alloc _
    have AX : Hid (At V w.heap.size 0 x) := by rw [hV]; exact At.new w x (((Seen.refl _).alloc _).alloc _)
    have BR : Hid (V.heap[w.heap.size + 1]? = some (.cells (pll zeroP).toArray 79)) := by
      rw [hV]
      have e := World.alloc_heap_new (w.alloc (.cells (ndl x).toArray 69)) (.cells (pll zeroP).toArray 79)
      rw [show (w.alloc (.cells (ndl x).toArray 69)).heap.size = w.heap.size + 1 by simp] at e
      exact (Below.heap_alloc _ _ _ (by simp)).trans e
    have BP : Hid (V.heap[w.heap.size + 2]? = some (.cells (pll ⟨(q : Int), (i : Int) + 1, 1, x.s.shown, false⟩).toArray 79)) := by
      rw [hV]
      have e := World.alloc_heap_new ((w.alloc (.cells (ndl x).toArray 69)).alloc (.cells (pll zeroP).toArray 79)) (.cells (pll ⟨(q : Int), (i : Int) + 1, 1, x.s.shown, false⟩).toArray 79)
      rw [show ((w.alloc (.cells (ndl x).toArray 69)).alloc (.cells (pll zeroP).toArray 79)).heap.size = w.heap.size + 2 by simp] at e
      exact e
    have hVs : V.heap.size = w.heap.size + 3 := by rw [hV]; simp
    clear hV
    have sd : Seen V V.drew := (Seen.refl V).drew
    refine wp_region_held_drew (S := fun w' => Seen V w') (by kernel_rfl) sd (fun _ => ?_)
    refine ZT 0 (some 19) (.pointer (some ⟨B, 0, none⟩)) sd ?_
    simp only [Z1,Z2,Z3,Z4]
    refine ZT 1 (some 20) (.pointer (some ⟨B, 0, none⟩)) sd ?_
    simp only [Z1,Z2,Z3,Z4]
    refine ZT 2 (some 21) (.pointer (some ⟨B, 1, none⟩)) sd ?_
    simp only [Z1,Z2,Z3,Z4]
    refine ZU 3 (some 22) (.slice (some ⟨H, 0, none⟩) n n) (fun _ hS => run_by (Instr.loadAt 75 (.pointer (some ⟨B, 1, none⟩))) (by kernel_rfl) (run_load51 ((SV.out.trans hS).cell CB.out))) sd ?_
    simp only [Z1,Z2,Z3,Z4]
    refine ZT 4 (some 23) (.pointer (some ⟨w.heap.size, 48, none⟩)) sd ?_
    simp only [Z1,Z2,Z3,Z4]
    refine ZU 5 (some 24) (.int .i64 (q : Int)) (fun _ hS => run_by (Instr.loadAt 3 (.pointer (some ⟨w.heap.size, 48, none⟩))) (by kernel_rfl) (run_load3 (by rw [← HXP.out]; exact (AX.out.seen hS).par))) sd ?_
    simp only [Z1,Z2,Z3,Z4]
    refine ZU 6 (some 25) (.pointer (some ⟨H, q * 5, none⟩)) (fun _ hS => run_by (Instr.indexAt 75 (.slice (some ⟨H, 0, none⟩) n n) (.int .i64 (q : Int))) (by kernel_rfl) (run_index51k H q n n (by omega) _)) sd ?_
    simp only [Z1,Z2,Z3,Z4]
    refine ZU 7 (some 26) (plv (plE l E0 q)) (fun _ hS => run_by (Instr.loadAt 79 (.pointer (some ⟨H, q * 5, none⟩))) (by kernel_rfl) (run_loadP (fun j v hj => (SV.out.trans hS).cell (HPL.out j v hj)))) sd ?_
    simp only [Z1,Z2,Z3,Z4]
    have s8 : Seen V (V.drew.alloc (.cells (pll zeroP).toArray 79)) := sd.alloc _
    refine hRun 8 (some 8) (.pointer (some ⟨V.heap.size, 0, none⟩)) (by kernel_rfl) (by kernel_rfl) (by kernel_rfl) (by kernel_rfl) (by kernel_rfl) s8 ?_
    simp only [Z1,Z2,Z3,Z4]
    have k8 : (V.drew.alloc (.cells (pll zeroP).toArray 79)).heap[V.heap.size]? = some (.cells (pll zeroP).toArray 79) := World.alloc_heap_new V.drew _
    have e9 := run_storeC (ty := 79) (o := 0) (vs := pll (plE l E0 q)) k8 (by simp [pll]) info55 (by intro u hu; simp [pll] at hu; rcases hu with rfl | rfl | rfl | rfl | rfl <;> rfl)
    have t9 := turns_sets (V.drew.alloc (.cells (pll zeroP).toArray 79)) V.heap.size 0 (pll (plE l E0 q))
    have b9 := block_sets k8 0 (pll (plE l E0 q)) rfl
    obtain ⟨W, hW⟩ : ∃ W, W = (V.drew.alloc (.cells (pll zeroP).toArray 79)).setCells V.heap.size 0 (pll (plE l E0 q)) := ⟨_, rfl⟩
    rw [← hW] at e9 t9 b9
    have s9 : Seen V W := s8.turns t9 (Nat.le_refl _)
    refine ZK 9 none (run_skip_by (Instr.storeAt 79 (.pointer (some ⟨V.heap.size, 0, none⟩)) (plv (plE l E0 q))) (by kernel_rfl) e9) s9 ?_
    refine wpAnyH_done (by kernel_rfl) ?_ _
    rw [hVs] at b9 ⊢
    have PW : W.heap[w.heap.size + 1 + 1]? = some (.cells (pll ⟨(q : Int), (i : Int) + 1, 1, x.s.shown, false⟩).toArray 79) := (s9.block _ (by omega)).trans BP.out
    have RW : W.heap[w.heap.size + 1]? = some (.cells (pll zeroP).toArray 79) := (s9.block _ (by omega)).trans BR.out
    have p2 : W.cell? ⟨w.heap.size + 1 + 1, 2, none⟩ = some (.int .i64 1) := by rw [Go.Joins.cell_of_block PW]; rfl
    have p3 : W.cell? ⟨w.heap.size + 1 + 1, 3, none⟩ = some (.bool x.s.shown) := by rw [Go.Joins.cell_of_block PW]; rfl
    have p0 : W.cell? ⟨w.heap.size + 1 + 1, 0, none⟩ = some (.int .i64 (q : Int)) := by rw [Go.Joins.cell_of_block PW]; rfl
    have p1 : W.cell? ⟨w.heap.size + 1 + 1, 1, none⟩ = some (.int .i64 ((i : Int) + 1)) := by rw [Go.Joins.cell_of_block PW]; rfl
    have p4 : W.cell? ⟨w.heap.size + 1 + 1, 4, none⟩ = some (.bool false) := by rw [Go.Joins.cell_of_block PW]; rfl
    have pf : ∀ o, W.frozen? ⟨w.heap.size + 1 + 1, o, none⟩ = false := fun o => by simp [World.frozen?, PW]
    have r0 : W.cell? ⟨w.heap.size + 1, 0, none⟩ = some (.int .i64 0) := by rw [Go.Joins.cell_of_block RW]; rfl
    have r1 : W.cell? ⟨w.heap.size + 1, 1, none⟩ = some (.int .i64 0) := by rw [Go.Joins.cell_of_block RW]; rfl
    have r2 : W.cell? ⟨w.heap.size + 1, 2, none⟩ = some (.int .i64 0) := by rw [Go.Joins.cell_of_block RW]; rfl
    have r3 : W.cell? ⟨w.heap.size + 1, 3, none⟩ = some (.bool false) := by rw [Go.Joins.cell_of_block RW]; rfl
    have r4 : W.cell? ⟨w.heap.size + 1, 4, none⟩ = some (.bool false) := by rw [Go.Joins.cell_of_block RW]; rfl
    have rf : ∀ o, W.frozen? ⟨w.heap.size + 1, o, none⟩ = false := fun o => by simp [World.frozen?, RW]
    have b9' : W.heap[w.heap.size + 3]? = some (.cells (pll (plE l E0 q)).toArray 79) := b9
    have a2 : W.cell? ⟨w.heap.size + 3, 2, none⟩ = some (.int .i64 (deep l q : Int)) := by rw [Go.Joins.cell_of_block b9']; rfl
    have a3 : W.cell? ⟨w.heap.size + 3, 3, none⟩ = some (.bool (madeB l q)) := by rw [Go.Joins.cell_of_block b9']; rfl
    have x1 : W.cell? ⟨w.heap.size, 1, none⟩ = some (.int .i64 x.s.pos) := (AX.out.seen s9).pos
    have SW : Hid (Seen w W) := SV.out.trans s9
    have RH := Lib.hid RW
    obtain ⟨D, hD⟩ : ∃ D, (deep l q : Int) = D := ⟨_, rfl⟩
    obtain ⟨M, hM⟩ : ∃ M, madeB l q = M := ⟨_, rfl⟩
    obtain ⟨O, hO⟩ : ∃ O, x.s.pos = O := ⟨_, rfl⟩
    obtain ⟨Y, hY⟩ : ∃ Y, x.s.shown = Y := ⟨_, rfl⟩
    rw [hD] at a2 e1
    rw [hM] at a3 e1
    rw [hO] at x1 e1
    rw [hY] at p3 e1
    have hD0 : 0 ≤ D ∧ D ≤ 65536 := by omega
    obtain ⟨hD1, hD2⟩ := hD0
    rw [HXP.out] at e1
    clear hD hM hO b9 b9' PW RW BP BR AX HXP SV hW e9 t9 k8 s8 sd s9 hVs HPL CB hdq
    simp only [hY]
    clear hY
    obtain ⟨N, hN⟩ : ∃ N, w.heap.size = N := ⟨_, rfl⟩
    have SN : Hid (∀ (A : World) (b o : Nat) (v : Value), N ≤ b → Seen w A → Seen w (A.setCell ⟨b, o, none⟩ v)) := fun A b o v hb hA => hA.turns (Turns.set A b o v) (by omega)
    simp only [hN] at *
    clear hN
    cases Y
    · go_wp2_with fail
      refine bodyPost_ret (ret_place (r := ⟨(q : Int), (i : Int) + 1, 1 + D, false, false⟩) Tryz.results16 rfl ((keep3 W (by omega)).trans RH.out)) rfl ?_
      rw [e1.out]
      refine ⟨rfl, ?_⟩
      exact (SN.out _ _ _ _ (by omega) (SN.out _ _ _ _ (by omega) (SN.out _ _ _ _ (by omega) (SN.out _ _ _ _ (by omega) (SN.out _ _ _ _ (by omega) (SN.out _ _ _ _ (by omega) (SN.out _ _ _ _ (by omega) (SN.out _ _ _ _ (by omega) SW.out))))))))
    · cases M
      · go_wp2_with fail
        refine bodyPost_ret (ret_place (r := ⟨(q : Int), (i : Int) + 1, 1 + D, false, false⟩) Tryz.results16 rfl ((keep3 W (by omega)).trans RH.out)) rfl ?_
        rw [e1.out]
        refine ⟨rfl, ?_⟩
        exact (SN.out _ _ _ _ (by omega) (SN.out _ _ _ _ (by omega) (SN.out _ _ _ _ (by omega) (SN.out _ _ _ _ (by omega) (SN.out _ _ _ _ (by omega) (SN.out _ _ _ _ (by omega) (SN.out _ _ _ _ (by omega) (SN.out _ _ _ _ (by omega) SW.out))))))))
      · cases hO2 : (O == 2)
        · go_wp2_with fail
          refine bodyPost_ret (ret_place (r := ⟨(q : Int), (i : Int) + 1, 1 + D, true, O == 3⟩) Tryz.results16 rfl ((keep3 W (by omega)).trans RH.out)) rfl ?_
          rw [e1.out]
          refine ⟨by simp [hO2], ?_⟩
          exact (SN.out _ _ _ _ (by omega) (SN.out _ _ _ _ (by omega) (SN.out _ _ _ _ (by omega) (SN.out _ _ _ _ (by omega) (SN.out _ _ _ _ (by omega) (SN.out _ _ _ _ (by omega) (SN.out _ _ _ _ (by omega) (SN.out _ _ _ _ (by omega) SW.out))))))))
        · go_wp2_with fail
          refine bodyPost_ret (ret_place (r := ⟨(q : Int), (i : Int) + 1, 1 + D, true, true⟩) Tryz.results16 rfl ((keep3 W (by omega)).trans RH.out)) rfl ?_
          rw [e1.out]
          refine ⟨by simp [hO2], ?_⟩
          exact (SN.out _ _ _ _ (by omega) (SN.out _ _ _ _ (by omega) (SN.out _ _ _ _ (by omega) (SN.out _ _ _ _ (by omega) (SN.out _ _ _ _ (by omega) (SN.out _ _ _ _ (by omega) (SN.out _ _ _ _ (by omega) (SN.out _ _ _ _ (by omega) SW.out))))))))
end Go.Proofs.YtngeaigkafamiaaGreat

