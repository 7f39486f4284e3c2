/- Texts of the proof, merged: FHigh, FCh0, Push, RowI, KinRows, FLs, FLoop. -/
import Derived.Test.YtngeaigkafamiaaGreatM7
import Derived.Test.YtngeaigkafamiaaGreatM14
import Derived.Test.YtngeaigkafamiaaGreatM12
import Derived.Deep.DeepCutAuto
import Derived.Test.YtngeaigkafamiaaGreatM4
import Derived.Test.YtngeaigkafamiaaGreatM13
namespace Go.Proofs.YtngeaigkafamiaaGreat
open Go.ChangeShapes Go.WideShapes Go.ChangeAt Go.RowKit
set_option maxRecDepth 100000
set_option maxHeartbeats 1000000 in
theorem heightOf_any (v : Value) (p : Pi) (e : En) (w : World) :
    Calls Tryz.prog 71 #[piv v p, env e] w fun r w' => r = .returned (.tuple #[.int .i64 (hgN p e), .bool (hgB p e)]) ∧ Seen w w' := by
  have HV := Lib.hid (show hgN p e = (if hgG p e then hgV p e else 0) ∧ hgB p e = (hgG p e && fitsB (hgV p e)) ∧ hgG p e = (e.bot || valB p.cur) ∧ hgV p e = max (if e.bot then p.edge else wrap64 (p.edge + valN p.cur)) 0 from ⟨rfl, rfl, rfl, rfl⟩)
  obtain ⟨y, ed, ⟨tp, tn⟩, ⟨up, un⟩, att⟩ := p
  obtain ⟨top, bot, flat⟩ := e
  have VA := fun w => value_any ⟨up, un⟩ w
  have FI := fun n w => fits_eq n w
  simp only at HV
  obtain ⟨q, hq⟩ : ∃ q, (⟨y, ed, ⟨tp, tn⟩, ⟨up, un⟩, att⟩ : Pi) = q := ⟨_, rfl⟩
  cases bot
  · obtain ⟨vn, hvn⟩ : ∃ x, valN ⟨up, un⟩ = x := ⟨_, rfl⟩
    obtain ⟨vb, hvb⟩ : ∃ x, valB ⟨up, un⟩ = x := ⟨_, rfl⟩
    rw [hvn, hvb] at VA
    rw [hvn, hvb] at HV
    clear hvn hvb hq
    cases vb
    · have HG := Lib.hid (show hgG ⟨y, ed, ⟨tp, tn⟩, ⟨up, un⟩, att⟩ ⟨top, false, flat⟩ = false ∧ True from ⟨HV.out.2.2.1.trans rfl, trivial⟩)
      have HN := Lib.hid (show hgN ⟨y, ed, ⟨tp, tn⟩, ⟨up, un⟩, att⟩ ⟨top, false, flat⟩ = 0 ∧ True from ⟨HV.out.1.trans (by rw [HG.out.1]; rfl), trivial⟩)
      have HB := Lib.hid (show hgB ⟨y, ed, ⟨tp, tn⟩, ⟨up, un⟩, att⟩ ⟨top, false, flat⟩ = false ∧ True from ⟨HV.out.2.1.trans (by rw [HG.out.1]; rfl), trivial⟩)
      rw [HN.out.1, HB.out.1]
      clear HV HG HN HB FI
      go_enter Tryz.func71, Tryz.ntmps71
      go_wp2_with (go_at_call 95; refine (VA _).mono ?_; clear VA; rintro r w2 ⟨rfl, hb⟩)
      go_ret2
      exact ⟨rfl, (((Seen.refl w).alloc _).alloc _).next hb⟩
    · have HG := Lib.hid (show hgG ⟨y, ed, ⟨tp, tn⟩, ⟨up, un⟩, att⟩ ⟨top, false, flat⟩ = true ∧ True from ⟨HV.out.2.2.1.trans rfl, trivial⟩)
      have HX := Lib.hid (show hgV ⟨y, ed, ⟨tp, tn⟩, ⟨up, un⟩, att⟩ ⟨top, false, flat⟩ = max (wrap64 (ed + vn)) 0 ∧ True from ⟨HV.out.2.2.2.trans rfl, trivial⟩)
      have HN := Lib.hid (show hgN ⟨y, ed, ⟨tp, tn⟩, ⟨up, un⟩, att⟩ ⟨top, false, flat⟩ = max (wrap64 (ed + vn)) 0 ∧ True from ⟨HV.out.1.trans (by rw [HG.out.1, HX.out.1]; rfl), trivial⟩)
      have HB := Lib.hid (show hgB ⟨y, ed, ⟨tp, tn⟩, ⟨up, un⟩, att⟩ ⟨top, false, flat⟩ = fitsB (max (wrap64 (ed + vn)) 0) ∧ True from ⟨HV.out.2.1.trans (by rw [HG.out.1, HX.out.1]; rfl), trivial⟩)
      rw [HN.out.1, HB.out.1]
      clear HV HG HN HB HX
      obtain ⟨s, hs⟩ : ∃ s, wrap64 (ed + vn) = s := ⟨_, rfl⟩
      rw [hs]
      by_cases h0 : 0 ≤ s
      · rw [show max s 0 = s by omega]
        go_enter Tryz.func71, Tryz.ntmps71
        go_wp2_with (first | (go_at_call 95; refine (VA _).mono ?_; clear VA; rintro r w2 ⟨rfl, hb⟩) | (go_at_call 91; refine (FI _ _).mono ?_; clear FI; rintro r w3 ⟨rfl, rfl⟩))
        all_goals
          go_ret2
          exact ⟨rfl, (((Seen.refl w).alloc _).alloc _).next hb⟩
      · rw [show max s 0 = 0 by omega]
        go_enter Tryz.func71, Tryz.ntmps71
        go_wp2_with (first | (go_at_call 95; refine (VA _).mono ?_; clear VA; rintro r w2 ⟨rfl, hb⟩) | (go_at_call 91; refine (FI _ _).mono ?_; clear FI; rintro r w3 ⟨rfl, rfl⟩))
        all_goals
          go_ret2
          exact ⟨rfl, (((Seen.refl w).alloc _).alloc _).next hb⟩
  · have HG := Lib.hid (show hgG ⟨y, ed, ⟨tp, tn⟩, ⟨up, un⟩, att⟩ ⟨top, true, flat⟩ = true ∧ True from ⟨HV.out.2.2.1.trans rfl, trivial⟩)
    have HX := Lib.hid (show hgV ⟨y, ed, ⟨tp, tn⟩, ⟨up, un⟩, att⟩ ⟨top, true, flat⟩ = max ed 0 ∧ True from ⟨HV.out.2.2.2.trans rfl, trivial⟩)
    have HN := Lib.hid (show hgN ⟨y, ed, ⟨tp, tn⟩, ⟨up, un⟩, att⟩ ⟨top, true, flat⟩ = max ed 0 ∧ True from ⟨HV.out.1.trans (by rw [HG.out.1, HX.out.1]; rfl), trivial⟩)
    have HB := Lib.hid (show hgB ⟨y, ed, ⟨tp, tn⟩, ⟨up, un⟩, att⟩ ⟨top, true, flat⟩ = fitsB (max ed 0) ∧ True from ⟨HV.out.2.1.trans (by rw [HG.out.1, HX.out.1]; rfl), trivial⟩)
    rw [HN.out.1, HB.out.1]
    clear HV HG HN HB HX VA hq
    by_cases h0 : 0 ≤ ed
    · rw [show max ed 0 = ed by omega]
      go_enter Tryz.func71, Tryz.ntmps71
      go_wp2_with (go_at_call 91; refine (FI _ _).mono ?_; clear FI; rintro r w3 ⟨rfl, rfl⟩)
      all_goals
        go_ret2
        exact ⟨rfl, ((Seen.refl w).alloc _).alloc _⟩
    · rw [show max ed 0 = 0 by omega]
      go_enter Tryz.func71, Tryz.ntmps71
      go_wp2_with (go_at_call 91; refine (FI _ _).mono ?_; clear FI; rintro r w3 ⟨rfl, rfl⟩)
      all_goals
        go_ret2
        exact ⟨rfl, ((Seen.refl w).alloc _).alloc _⟩
end Go.Proofs.YtngeaigkafamiaaGreat
namespace Go.Proofs.YtngeaigkafamiaaGreat
open Go.ChangeShapes Go.WideShapes Go.ChangeAt Go.RowKit
set_option maxRecDepth 100000
theorem st43 {w : World} {X o : Nat} {cs : List Value} {t : TypeId} (p n : Int) (h : Blk w X cs t) (hl : o + 2 ≤ cs.length) : (Instr.storeAt 33 (.pointer (some ⟨X, o, none⟩)) (.agg #[.int .i64 p, .int .i64 n])).run Tryz.prog w = .ok () ((w.setCell ⟨X, o, none⟩ (.int .i64 p)).setCell ⟨X, o + 1, none⟩ (.int .i64 n)) :=
  stC (vs := [.int .i64 p, .int .i64 n]) h hl sz43 (by intro u hu; simp at hu; rcases hu with rfl | rfl <;> rfl)
theorem chl_one (c : Ch) : ∀ u ∈ chl c, u.oneCell' = true := by
  intro u hu
  simp only [chl, List.mem_cons, List.not_mem_nil, or_false] at hu
  rcases hu with rfl | rfl | rfl | rfl | rfl | rfl | rfl | rfl <;> rfl
theorem run_loadC {w : World} {X : Nat} {c : Ch} (h : Blk w X (chl c) 35) : (loadVar 35 ⟨X, 0, none⟩).run Tryz.prog w = .ok (chv c) w :=
  run_loadVar_mid w X 0 35 (chl c) _ h.range Tryz.underlying35 rfl sz45
theorem stCh {w : World} {X : Nat} {cs : List Value} {t : TypeId} (c : Ch) (h : Blk w X cs t) (hl : cs.length = 8) : (Instr.storeAt 35 (.pointer (some ⟨X, 0, none⟩)) (chv c)).run Tryz.prog w = .ok () (w.setCells X 0 (chl c)) :=
  stC (vs := chl c) h (by rw [hl]; exact Nat.le_refl _) sz45 (chl_one c)
theorem blkCh {w : World} {X : Nat} {cs : List Value} (c : Ch) (h : Blk w X cs 35) (hl : cs.length = 8) : Blk (w.setCells X 0 (chl c)) X (chl c) 35 := block_sets h 0 (chl c) (sets_all cs (chl c) hl)
theorem seen_sets {w w' : World} {X o : Nat} {vs : List Value} (h : Seen w w') (hX : w.heap.size ≤ X) : Seen w (w'.setCells X o vs) := h.turns (turns_sets w' X o vs) hX
theorem wpList_storeCh {ops : Array Oper} {rest : List Oper} {op : Oper} {a : Act} {w : World} {Q : Exit → Act → World → Prop} (hgd : op.guard = none) (x y : Operand) (ho : op.op = .store 35 x y) (X : Nat) (cs : List Value) (c : Ch)
    (hx : a.eval x = .pointer (some ⟨X, 0, none⟩)) (hy : a.eval y = chv c) (hl : cs.length = 8) (hb : Blk w X cs 35)
    (h : ∀ w', Blk w' X (chl c) 35 → Turns X w w' → wpList Tryz.prog ops Q rest (a.put op.dst undef) w') : wpList Tryz.prog ops Q (op :: rest) a w :=
  wpList_storeC hgd 35 x y ho X 0 (chl c) hx hy sz45 (chl_one c) hb (by rw [hl]; exact Nat.le_refl _) (sets_all _ _ hl) h
theorem Blk.rulesCh {w : World} {B : Nat} {t : TypeId} {c : Ch} (h : Blk w B (chl c) t) : ∀ w', Seen w w' → w'.cell? ⟨B, 0, none⟩ = some (.int .i64 c.top.p) ∧ w'.cell? ⟨B, 1, none⟩ = some (.int .i64 c.top.n) ∧ w'.cell? ⟨B, 2, none⟩ = some (.int .i64 c.bot.p) ∧ w'.cell? ⟨B, 3, none⟩ = some (.int .i64 c.bot.n) ∧ w'.cell? ⟨B, 4, none⟩ = some (.int .i64 c.inn.p) ∧ w'.cell? ⟨B, 5, none⟩ = some (.int .i64 c.inn.n) ∧ w'.cell? ⟨B, 6, none⟩ = some (.bool c.thr) ∧ w'.cell? ⟨B, 7, none⟩ = some (.int .i64 c.high) ∧ (∀ o, w'.frozen? ⟨B, o, none⟩ = false) :=
  fun _ hs => ⟨(h.seen hs).cell 0, (h.seen hs).cell 1, (h.seen hs).cell 2, (h.seen hs).cell 3, (h.seen hs).cell 4, (h.seen hs).cell 5, (h.seen hs).cell 6, (h.seen hs).cell 7, (h.seen hs).free⟩
end Go.Proofs.YtngeaigkafamiaaGreat
namespace Go.Proofs.YtngeaigkafamiaaGreat
open Go.ChangeShapes Go.WideShapes Go.ChangeAt Go.RowKit
set_option maxRecDepth 100000
def GR {α : Type} (enc : α → List Value) (e : TypeId) (size : Nat) (w : World) (base : Nat) (v : Value) (l : List α) : Prop := w.ownsRow base e size v l.length (l.flatMap enc)
section
variable {α : Type} {enc : α → List Value} {e : TypeId} {size : Nat} {w w' : World} {base : Nat} {v : Value} {l : List α}
theorem GR.seen (h : GR enc e size w base v l) (hs : Seen w w') : GR enc e size w' base v l := row_seen h hs
theorem GR.nil (w : World) (base : Nat) : GR enc e size w base (.slice none 0 0) [] := ⟨by simp, .inl ⟨rfl, rfl⟩⟩
theorem GR.slice (h : GR enc e size w base v l) (hf : ∀ q, (enc q).length = size) (z : α) : ∃ a c, v = .slice a l.length c ∧ SL enc size z w a l.length l ∧ l.length ≤ c := by
  rcases h.2 with ⟨rfl, hn⟩ | ⟨g, cap, cur, rfl, hb, hh, h1, h2, h3, h4⟩
  · refine ⟨none, 0, by rw [hn], ⟨rfl, fun h => absurd h (by omega)⟩, by omega⟩
  · refine ⟨_, cap, rfl, ⟨rfl, fun _ => ⟨g, 0, rfl, fun i hi j hj => ?_⟩⟩, h1⟩
    have hl : i * size + j < l.length * size := by
      have : (i + 1) * size ≤ l.length * size := Nat.mul_le_mul_right size hi
      rw [Nat.add_mul] at this; omega
    have hc := World.ownsRow.cellAt h (i * size + j) hl
    rw [Nat.zero_add, hc]
    exact fl_at hf l z hi hj
theorem GR.far (h : GR enc e size w base v l) {B : Nat} (hB : B < base) (o : Nat) (u : Value) : GR enc e size (w.setCell ⟨B, o, none⟩ u) base v l :=
  ownsRow_keeps h (fun g hg => Below.heap_setCell w _ _ g (fun e => by have := (h.lt g hg).1; simp at e; omega))
end
theorem cells_at (w : World) (xs : List Value) (t : TypeId) : ∀ j v, xs[j]? = some v → (w.alloc (.cells xs.toArray t)).cell? ((⟨w.heap.size, 0, none⟩ : Addr).add j) = some v := by
  intro j v h
  rw [add_plain, Go.Joins.cell_of_block (World.alloc_heap_new w _), List.getElem?_toArray, Nat.zero_add]
  exact h
end Go.Proofs.YtngeaigkafamiaaGreat
namespace Go.Proofs.YtngeaigkafamiaaGreat
open Go.ChangeShapes Go.WideShapes Go.ChangeAt Go.RowKit
set_option maxRecDepth 100000
theorem info3z : (Tryz.prog.info? 3).map (fun i => (i.zero, i.size, i.bytes)) = some (some (.int .i64 0), 1, 8) := by kernel_rfl
theorem one_at (w : World) (u : Value) (t : TypeId) : ∀ j v, [u][j]? = some v → (w.alloc (.cells #[u] t)).cell? ((⟨w.heap.size, 0, none⟩ : Addr).add j) = some v := by
  intro j v h
  match j, h with
  | 0, h =>
    simp at h
    subst h
    rw [add_plain, Go.Joins.cell_of_block (World.alloc_heap_new w _)]; rfl
def RI (w : World) (base : Nat) (v : Value) (l : List Int) : Prop := w.ownsRow base 3 1 v l.length (flatI l)
theorem RI.seen {w w' : World} {base : Nat} {v : Value} {l : List Int} (h : RI w base v l) (hs : Seen w w') : RI w' base v l := row_seen h hs
theorem RI.nil (w : World) (base : Nat) : RI w base (.slice none 0 0) [] := ⟨rfl, .inl ⟨rfl, rfl⟩⟩
theorem wpList_pushI {ops : Array Oper} {rest : List Oper} {op : Oper} {a : Act} {w : World} {Q : Exit → Act → World → Prop} (hgd : op.guard = none) (s x : Operand) (ho : op.op = .call { callee := .builtin .append, args := #[s, x], argTypes := #[135, 135] })
    (base : Nat) (v : Value) (l : List Int) (y : Int) (hs : a.eval s = v) (hx : a.eval x = .slice (some ⟨w.heap.size, 0, none⟩) 1 1) (hown : RI w base v l) (hl : l.length ≤ 1000000) (hb : base ≤ w.heap.size)
    (h : ∀ v' w', RI w' base v' (l ++ [y]) → Below base w w' → wpList Tryz.prog ops Q rest (a.put op.dst v') w') : wpList Tryz.prog ops Q (op :: rest) a (w.alloc (.cells #[.int .i64 y] 3)) := by
  obtain ⟨i0, hi, hz0, hz1, hz2⟩ := info_parts info3z
  refine wpList_append_own (P := Tryz.prog) _ hgd s x 135 ho base 3 i0 (.int .i64 0) 1 8 Tryz.underlying135 hi hz0 hz1 hz2 rfl (by decide) v l.length (flatI l) hs (hown.alloc _) ⟨w.heap.size, 0, none⟩ 1 1 [.int .i64 y] hx rfl (one_at _ _ _) (by intro u hu; rw [List.mem_singleton] at hu; subst hu; rfl) (by unfold maxLen; omega) (by omega) (by simp; omega) ?_
  intro v' w' h1 h2 _
  refine h v' w' ?_ ?_
  · unfold RI
    rw [flatI_append, List.length_append]
    exact h1
  · exact ((Below.refl base w).alloc hb _).grown h2 (by simp; omega) (fun g hg => (hown.lt g hg).1)
def RowI (w : World) (l : List Int) (e : Ending) (w' : World) : Prop := ∃ v, e = .returned v ∧ RI w' w.heap.size v l ∧ Seen w w'
def ZS (w : World) (ad : Option Addr) (n : Nat) (l : List Int) : Prop := SL (fun x => [Value.int .i64 x]) 1 0 w ad n l
theorem ZS.seen {w w' : World} {ad : Option Addr} {n : Nat} {l : List Int} (h : ZS w ad n l) (hs : Seen w w') : ZS w' ad n l := SL.seen (fun _ => rfl) h hs
theorem ZS.cells {w : World} {ad : Option Addr} {n : Nat} {l : List Int} (h : ZS w ad n l) (h0 : 0 < n) : ∃ b off, ad = some ⟨b, off, none⟩ ∧ ∀ i, i < n → w.cell? ⟨b, off + i, none⟩ = some (.int .i64 (bat l i)) := by
  obtain ⟨b, off, e, hc⟩ := h.2 h0
  refine ⟨b, off, e, fun i hi => ?_⟩
  have := hc i hi 0 (by omega)
  rw [Nat.mul_one, Nat.add_zero] at this
  exact this
theorem RI.slice {w : World} {base : Nat} {v : Value} {l : List Int} (h : RI w base v l) : ∃ a c, v = .slice a l.length c ∧ ZS w a l.length l ∧ l.length ≤ c := by
  rcases h.2 with ⟨rfl, hn⟩ | ⟨g, cap, cur, rfl, hb, hh, h1, h2, h3, h4⟩
  · refine ⟨none, 0, by rw [hn], ⟨rfl, fun h => absurd h (by omega)⟩, by omega⟩
  · refine ⟨_, cap, rfl, ⟨rfl, fun _ => ⟨g, 0, rfl, fun i hi j hj => ?_⟩⟩, h1⟩
    obtain rfl : j = 0 := by omega
    have hc := World.ownsRow.cellAt h i (by omega)
    rw [Nat.zero_add, Nat.mul_one, Nat.add_zero, hc, flatI_at hi]
    rfl
end Go.Proofs.YtngeaigkafamiaaGreat
namespace Go.Proofs.YtngeaigkafamiaaGreat
open Go.ChangeShapes Go.WideShapes Go.ChangeAt Go.RowKit
set_option maxRecDepth 100000
set_option maxHeartbeats 4000000 in
theorem kids_kin (v : Value) (l : List Nd) (n : Int) (w : World) (h : KV w v l) : Calls Tryz.prog 72 #[v, .int .i64 n] w (RowI w (kidsV l n)) := by
  have HB : Hid (∀ w', Seen w w' → ∀ m, Calls Tryz.prog 96 #[v, .int .i64 n, .int .i64 m] w' fun e w'' => e = .returned (.bool (belV l n m)) ∧ Seen w' w'') := fun w' h' m => below_kin v l n m w' (h.seen h')
  have HE : Hid (∀ w', Seen w w' → ∀ m, Calls Tryz.prog 97 #[v, .int .i64 m] w' fun e w'' => e = .returned (.int .i64 (plAt l m).stop) ∧ Seen w' w'') := fun w' h' m => end_kin v l m w' (h.seen h')
  cases hb : inB l n
  · have e1 : Hid (kidsV l n = []) := by unfold Hid kidsV; rw [hb]; rfl
    have e2 : Hid (∀ m, belV l n m = false) := fun m => by unfold belV; rw [hb]; rfl
    clear h hb HE
    go_enter Tryz.func72, Tryz.ntmps72
    go_wp2_with fail
    go_loopw [5, 6] (fun s x wr => s = .slice none 0 0 ∧ (∃ m, x = .int .i64 m) ∧ wr = w) (fun _ _ _ => 0)
    case atStart => exact ⟨rfl, ⟨_, rfl⟩, rfl⟩
    case round =>
      obtain ⟨rfl, ⟨m, rfl⟩, rfl⟩ := hrel
      go_wp2_with (go_at_call 96; refine (HB.out _ (Seen.refl _) m).mono ?_; clear HB; rintro e w1 ⟨rfl, hs⟩; rw [e2.out]; have S1 := Lib.hid hs; clear hs)
      go_ret
      rw [e1.out]
      exact ⟨_, rfl, RI.nil _ _, S1.out⟩
  · obtain ⟨hf, h65, k, hk, rfl, _⟩ := h.node hb
    have e1 : Hid (kidsV l (k : Int) = kidsTo l k (endN l k)) := by unfold Hid kidsV; rw [hb, if_pos rfl, kids_end hf hk]
    have e2 : Hid (∀ m : Nat, belV l (k : Int) m = (decide (k ≤ m) && decide (m < endN l k))) := fun m => by
      unfold belV endV; rw [hb]; simp
    have hel := end_low hk
    have hee := end_le hk
    have HF := Lib.hid hf
    clear h hb hf
    have hk63 : (k : Int) + 1 < 9223372036854775808 := by omega
    go_enter Tryz.func72, Tryz.ntmps72
    go_wp2_with fail
    go_loopw [5, 6] (fun s x wr => ∃ m : Nat, x = .int .i64 m ∧ k < m ∧ m ≤ endN l k ∧ (m < endN l k → (nd l m).p = k) ∧ RI wr w.heap.size s (kidsTo l k m) ∧ Seen w wr) (fun _ x _ => endN l k - (intOf x).toNat)
    case atStart => exact ⟨k + 1, by go_num, by omega, by omega, fun hlt => kid_first HF.out hk hlt, by rw [kids_begin HF.out hk]; exact RI.nil _ _, Seen.refl _⟩
    case round =>
      obtain ⟨m, rfl, hkm, hme, hpar, hrow, hs⟩ := hrel
      have S1 := Lib.hid hs
      have HR := Lib.hid hrow
      have HP := Lib.hid hpar
      clear hs hrow hpar
      have HB1 := Lib.hid (HB.out _ S1.out m)
      rw [e2.out m] at HB1
      by_cases hlt : m < endN l k
      · have eb : (decide (k ≤ m) && decide (m < endN l k)) = true := by simp; omega
        rw [eb] at HB1
        have hml : m < l.length := by omega
        have es : Hid ((plAt l (m : Int)).stop = endN l m) := by unfold Hid; rw [plAt_nat hml]; rfl
        have hnl := end_low hml
        have hlen := kids_length l k m
        have hsz : Hid (w.heap.size ≤ wr.heap.size) := S1.out.size
        clear eb
        go_wp2_with (first
          | (go_at_call 96; refine HB1.out.mono ?_; clear HB1; rintro e w1 ⟨rfl, hs⟩; have S2 := Lib.hid (S1.out.trans hs); have HR2 := Lib.hid (HR.out.seen hs); clear hs)
          | (at_builtin; refine wpList_pushI rfl (.tmp 16) (.tmp 18) rfl w.heap.size u5 (kidsTo l k m) m rfl rfl HR2.out (by omega) S2.out.size ?_; intro v3 w3 hr3 hb3; have R3 := Lib.hid (And.intro hr3 (Below.trans S2.out hb3 : Seen w w3)); clear hr3 hb3)
          | (go_at_call 97; refine (HE.out w3 R3.out.2 m).mono ?_; rintro e w4 ⟨rfl, hs⟩; rw [es.out]; have S4 := Lib.hid hs; clear hs))
        go_roundw
        case rel =>
          refine ⟨endN l m, rfl, by omega, end_kid_le HF.out hml hk (HP.out hlt), fun h => kid_next HF.out hml hk (HP.out hlt) h, ?_, Seen.trans R3.out.2 S4.out⟩
          rw [kids_on HF.out hml (HP.out hlt)]
          exact R3.out.1.seen S4.out
        case measure => simp [intOf]; omega
      · have eb : (decide (k ≤ m) && decide (m < endN l k)) = false := by simp; omega
        rw [eb] at HB1
        clear eb
        obtain rfl : m = endN l k := by omega
        go_wp2_with (go_at_call 96; refine HB1.out.mono ?_; clear HB1; rintro e w1 ⟨rfl, hs⟩; have S2 := Lib.hid hs; clear hs)
        go_ret
        rw [e1.out]
        exact ⟨_, rfl, HR.out.seen S2.out, S1.out.trans S2.out⟩
theorem plAt_made {l : List Nd} {n : Int} (h : inB l n = true) : (plAt l n).made = madeB l n ∧ (plAt l n).out = outB l n ∧ (plAt l n).deep = deep l n ∧ (plAt l n).par = par l n := by
  obtain ⟨k, hk, rfl⟩ := inB_iff.1 h
  rw [plAt_nat hk, par_nat]
  exact ⟨rfl, rfl, rfl, rfl⟩
theorem kidsV_mem {l : List Nd} {n x : Int} (h : x ∈ kidsV l n) : inB l x = true := by
  unfold kidsV at h
  split at h
  · obtain ⟨k, hk, rfl⟩ := kids_mem h
    exact inB_nat hk
  · cases h
theorem kidsV_length (l : List Nd) (n : Int) : (kidsV l n).length ≤ l.length := by
  unfold kidsV
  split
  · exact kids_length _ _ _
  · simp
theorem bat_mem {l : List Int} {i : Nat} (h : i < l.length) : bat l i ∈ l := by
  have := bat_get h
  exact List.mem_of_getElem? this
theorem filter_take (p : Int → Bool) (l : List Int) {i : Nat} (h : i < l.length) : (l.take (i + 1)).filter p = (l.take i).filter p ++ (if p (bat l i) then [bat l i] else []) := by
  rw [List.take_add_one, bat_get h, List.filter_append]
  cases hp : p (bat l i) <;> simp [hp]
set_option maxHeartbeats 4000000 in
theorem flow_kin (v : Value) (l : List Nd) (n : Int) (w : World) (h : KV w v l) : Calls Tryz.prog 46 #[v, .int .i64 n] w (RowI w (flowV l n)) := by
  have HK := Lib.hid (kids_kin v l n w h)
  have HM : Hid (∀ w', Seen w w' → ∀ m, inB l m = true → Calls Tryz.prog 18 #[v, .int .i64 m] w' fun e w'' => e = .returned (.bool (madeB l m)) ∧ Seen w' w'') := fun w' h' m hm => by
    have := made_kin v l m w' (h.seen h')
    rw [(plAt_made hm).1] at this
    exact this
  have HO : Hid (∀ w', Seen w w' → ∀ m, inB l m = true → Calls Tryz.prog 73 #[v, .int .i64 m] w' fun e w'' => e = .returned (.bool (outB l m)) ∧ Seen w' w'') := fun w' h' m hm => by
    have := out_kin v l m w' (h.seen h')
    rw [(plAt_made hm).2.1] at this
    exact this
  have h65 := h.len
  have hkl := kidsV_length l n
  rw [flowV_kids]
  have HI : Hid (∀ x, x ∈ kidsV l n → inB l x = true) := fun x hx => kidsV_mem hx
  obtain ⟨L, hL⟩ : ∃ L, kidsV l n = L := ⟨_, rfl⟩
  rw [hL] at HK HI hkl ⊢
  clear h hL
  go_enter Tryz.func46, Tryz.ntmps46
  go_wp2_with (go_at_call 72; refine HK.out.mono ?_; clear HK; rintro e w1 ⟨u, rfl, hr, hs⟩; have S1 := Lib.hid hs; obtain ⟨ad, c, rfl, hz, _⟩ := hr.slice; have HZ := Lib.hid hz; clear hr hs hz)
  obtain ⟨N, hN⟩ : ∃ N, L.length = N := ⟨_, rfl⟩
  rw [hN] at hkl HZ ⊢
  have HN := Lib.hid hN
  clear hN
  go_loopw [5, 12] (fun s x wr => ∃ i : Nat, x = .int .i64 i ∧ i ≤ N ∧ RI wr w1.heap.size s ((L.take i).filter (flowF l)) ∧ Seen w1 wr) (fun _ x _ => N - (intOf x).toNat)
  case atStart => exact ⟨0, rfl, by omega, by rw [List.take_zero]; exact RI.nil _ _, Seen.refl _⟩
  case round =>
    obtain ⟨i, rfl, hi, hrow, hs⟩ := hrel
    have S2 := Lib.hid hs
    have HR := Lib.hid hrow
    clear hs hrow
    by_cases hlt : i < N
    · have hi' : (i : Int) < (N : Int) := by omega
      have hlL : i < L.length := by have := HN.out; omega
      obtain ⟨b, off, rfl, hc⟩ := HZ.out.cells (by omega)
      have c1 := S2.out.cell (hc i hlt)
      have hin := HI.out _ (bat_mem hlL)
      have hft : Hid ((L.take (i + 1)).filter (flowF l) = (L.take i).filter (flowF l) ++ (if flowF l (bat L i) then [bat L i] else [])) := filter_take _ L hlL
      have hlen : ((L.take i).filter (flowF l)).length ≤ i := Nat.le_trans (List.length_filter_le _ _) (by rw [List.length_take]; omega)
      obtain ⟨X, hX⟩ : ∃ X, bat L i = X := ⟨_, rfl⟩
      rw [hX] at c1 hin hft
      clear hX hc hlL
      have HM1 : Hid (∀ w', Seen w1 w' → Calls Tryz.prog 18 #[v, .int .i64 X] w' fun e w'' => e = .returned (.bool (madeB l X)) ∧ Seen w' w'') := fun w' h' => HM.out w' (S1.out.trans h') X hin
      have HO1 : Hid (∀ w', Seen w1 w' → Calls Tryz.prog 73 #[v, .int .i64 X] w' fun e w'' => e = .returned (.bool (outB l X)) ∧ Seen w' w'') := fun w' h' => HO.out w' (S1.out.trans h') X hin
      unfold flowF at hft
      obtain ⟨F, hF⟩ : ∃ F, (L.take i).filter (flowF l) = F := ⟨_, rfl⟩
      have hft2 : Hid ((L.take (i + 1)).filter (flowF l) = F ++ (if madeB l X && !outB l X then [X] else [])) := by
        have := hft.out
        unfold Hid
        rw [← hF]
        exact this
      rw [hF] at HR hlen
      clear hF hft hin
      obtain ⟨A, hA⟩ : ∃ A, madeB l X = A := ⟨_, rfl⟩
      obtain ⟨O, hO⟩ : ∃ O, outB l X = O := ⟨_, rfl⟩
      rw [hA] at HM1 hft2
      rw [hO] at HO1 hft2
      clear hA hO
      cases A
      · go_wp2_with (go_at_call 18; refine (HM1.out _ S2.out).mono ?_; clear HM1; rintro e w3 ⟨rfl, hs⟩; have S3 := Lib.hid hs; clear hs)
        go_roundw
        case rel =>
          refine ⟨i + 1, by go_num, by omega, ?_, S2.out.trans S3.out⟩
          rw [hft2.out]
          simpa using HR.out.seen S3.out
        case measure => simp [intOf]; omega
      · cases O
        · go_wp2_with (first
            | (go_at_call 18; refine (HM1.out _ S2.out).mono ?_; clear HM1; rintro e w3 ⟨rfl, hs⟩; have S3 := Lib.hid (S2.out.trans hs); have R3 := Lib.hid (HR.out.seen hs); clear hs)
            | (go_at_call 73; refine (HO1.out _ S3.out).mono ?_; clear HO1; rintro e w4 ⟨rfl, hs⟩; have S4 := Lib.hid (S3.out.trans hs); have R4 := Lib.hid (R3.out.seen hs); clear hs)
            | (at_builtin; refine wpList_pushI rfl (.tmp 25) (.tmp 27) rfl w1.heap.size u5 F X rfl rfl R4.out (by omega) S4.out.size ?_; intro v5 w5 hr5 hb5; have R5 := Lib.hid hr5; have B5 := Lib.hid hb5; clear hr5 hb5))
          go_roundw
          case rel =>
            refine ⟨i + 1, by go_num, by omega, ?_, ?_⟩
            · rw [hft2.out]
              simpa using R5.out
            · exact Below.trans S4.out B5.out
          case measure => simp [intOf]; omega
        · go_wp2_with (first
            | (go_at_call 18; refine (HM1.out _ S2.out).mono ?_; clear HM1; rintro e w3 ⟨rfl, hs⟩; have S3 := Lib.hid (S2.out.trans hs); have R3 := Lib.hid (HR.out.seen hs); clear hs)
            | (go_at_call 73; refine (HO1.out _ S3.out).mono ?_; clear HO1; rintro e w4 ⟨rfl, hs⟩; have S4 := Lib.hid (S3.out.trans hs); have R4 := Lib.hid (R3.out.seen hs); clear hs))
          go_roundw
          case rel =>
            refine ⟨i + 1, by go_num, by omega, ?_, S4.out⟩
            rw [hft2.out]
            simpa using R4.out
          case measure => simp [intOf]; omega
    · have hi' : ¬ (i : Int) < (N : Int) := by omega
      obtain rfl : i = N := by omega
      go_wp2_with fail
      go_ret
      refine ⟨_, rfl, ?_, S1.out.trans S2.out⟩
      have := HR.out
      rw [← HN.out, List.take_length] at this
      exact row_more this S1.out.size
end Go.Proofs.YtngeaigkafamiaaGreat
namespace Go.Proofs.YtngeaigkafamiaaGreat
open Go.ChangeShapes Go.WideShapes Go.ChangeAt Go.RowKit
set_option maxRecDepth 100000
theorem wpList_pushM {P : Program} {α : Type} {enc : α → List Value} {size bytes : Nat} {z : Value} {t e : TypeId} (ht : P.underlying t = some (.slice e))
    (hinfo : (P.info? e).map (fun i => (i.zero, i.size, i.bytes)) = some (some z, size, bytes)) (hz : z.cells.size = size) (hpos : 0 < size) (hf : ∀ q, (enc q).length = size) (h1 : ∀ q, ∀ u ∈ enc q, u.oneCell' = true) (hby : bytes ≤ 10000)
    {ops : Array Oper} {rest : List Oper} {op : Oper} {a : Act} {w : World} {Q : Exit → Act → World → Prop} (hgd : op.guard = none) (s x : Operand) (ho : op.op = .call { callee := .builtin .append, args := #[s, x], argTypes := #[t, t] })
    (base : Nat) (v : Value) (l : List α) (y : α) (hs : a.eval s = v) (hx : a.eval x = .slice (some ⟨w.heap.size, 0, none⟩) 1 1) (hown : GR enc e size w base v l) (hl : l.length ≤ 1000000) (hb : base ≤ w.heap.size)
    (h : ∀ g cap w', GR enc e size w' base (.slice (some ⟨g, 0, none⟩) (l.length + 1) cap) (l ++ [y]) → (w.alloc (.cells (enc y).toArray e)).grownBy w' v.ownBlock → (v.ownBlock = some g ∨ w.heap.size ≤ g) → wpList P ops Q rest (a.put op.dst (.slice (some ⟨g, 0, none⟩) (l.length + 1) cap)) w') :
    wpList P ops Q (op :: rest) a (w.alloc (.cells (enc y).toArray e)) := by
  obtain ⟨i0, hi, hz0, hz1, hz2⟩ := info_parts hinfo
  have hm : (l.length + 1) * bytes ≤ 1000001 * 10000 := Nat.mul_le_mul (by omega) hby
  refine wpList_append_src (P := P) _ hgd s x t ho e i0 z size bytes ht hi hz0 hz1 hz2 hz hpos base v l.length (l.flatMap enc) hs (World.ownsRow.alloc hown _) (.slice (some ⟨w.heap.size, 0, none⟩) 1 1) 1 (enc y) hx (.inr ⟨⟨w.heap.size, 0, none⟩, 1, rfl, by rw [hf]; omega, cells_at _ _ _⟩) (h1 y) (by unfold maxLen; omega) (by omega) (by simp; omega) ?_
  intro v' w' h1' h2 h3
  obtain ⟨g, cap, rfl⟩ := ownsRow_succ h1'
  refine h g cap w' ?_ h2 ?_
  · unfold GR
    rw [List.flatMap_append, List.length_append, List.flatMap_cons, List.flatMap_nil, List.append_nil]
    exact h1'
  · rcases h3 with h3 | h3
    · exact .inl h3.symm
    · have h4 : g = (w.alloc (.cells (enc y).toArray e)).heap.size := by simpa [Value.ownBlock] using h3
      refine .inr ?_
      rw [h4]; simp
def own (D : Nat) (v : Value) (k : Nat) : Prop := k = D ∨ v.ownBlock = some k
structure LS (w0 : World) (D : Nat) (kv : Value) (W : World) (v : Value) (ps : List Pd) : Prop where
  seen : Seen w0 W
  blk : Blk W D [kv, v] 85
  row : GR pdl 114 26 W (D + 1) v ps
theorem row_block {w : World} {base : Nat} {e : TypeId} {size n : Nat} {v : Value} {xs : List Value} (h : w.ownsRow base e size v n xs) {g : Nat} (hg : v.ownBlock = some g) : ∃ cur : Array Value, w.heap[g]? = some (.cells cur e) := by
  rcases h.2 with ⟨rfl, _⟩ | ⟨g', cap, cur, rfl, _, hh, _⟩
  · cases hg
  · obtain rfl : g' = g := by simpa [Value.ownBlock] using hg
    exact ⟨cur, hh⟩
section
variable {w0 : World} {D : Nat} {kv : Value} {W W' : World} {v : Value} {ps : List Pd}
theorem LS.apart (h : LS w0 D kv W v ps) {B : Nat} {cur : Array Value} {t : TypeId} (hb : W.heap[B]? = some (.cells cur t)) (h1 : t ≠ 85) (h2 : t ≠ 114) : ¬ own D v B := by
  rintro (e | e)
  · subst e
    have := h.blk
    unfold Blk at this
    rw [hb] at this
    simp at this
    exact h1 this.2
  · obtain ⟨c, hc⟩ := row_block h.row e
    rw [hb] at hc
    simp at hc
    exact h2 hc.2
theorem LS.lt (h : LS w0 D kv W v ps) {k : Nat} (hk : own D v k) : D ≤ k ∧ k < W.heap.size := by
  rcases hk with rfl | hk
  · exact ⟨Nat.le_refl _, h.blk.lt⟩
  · have := h.row.lt k hk
    exact ⟨by omega, this.2⟩
theorem LS.seen' (h : LS w0 D kv W v ps) (hs : Seen W W') : LS w0 D kv W' v ps := ⟨h.seen.trans hs, h.blk.seen hs, h.row.seen hs⟩
theorem Blk.moves {B : Nat} {l : List Value} {t : TypeId} {T' : Nat → Prop} (hb : Blk W B l t) (h : LS w0 D kv W v ps) (h1 : t ≠ 85) (h2 : t ≠ 114) (m : Moves (own D v) T' W W') : Blk W' B l t :=
  (m.block B hb.lt (h.apart hb h1 h2)).trans hb
theorem row_moves {base : Nat} {e : TypeId} {size n : Nat} {u : Value} {xs : List Value} {T' : Nat → Prop} (hr : W.ownsRow base e size u n xs) (h : LS w0 D kv W v ps) (h1 : e ≠ 85) (h2 : e ≠ 114) (m : Moves (own D v) T' W W') : W'.ownsRow base e size u n xs :=
  ownsRow_keeps hr fun g hg => by
    obtain ⟨c, hc⟩ := row_block hr hg
    exact m.block g (hr.lt g hg).2 (h.apart hc h1 h2)
theorem LS.below (h : LS w0 D kv W v ps) {T' : Nat → Prop} (m : Moves (own D v) T' W W') (hD : w0.heap.size ≤ D) : Seen w0 W' :=
  Below.trans h.seen (m.below (Nat.le_trans hD (Nat.le_of_lt h.blk.lt)) fun _ hk => Nat.le_trans hD (h.lt hk).1)
theorem own_seen {D : Nat} {v : Value} {W W' : World} (h : Seen W W') : Moves (own D v) (own D v) W W' := Moves.of_below h
theorem LS.push (h : LS w0 D kv W v ps) (hD : w0.heap.size ≤ D) {p : Pd} {tmp : Obj} {w1 : World} {g n cap : Nat} (hown : GR pdl 114 26 w1 (D + 1) (.slice (some ⟨g, 0, none⟩) n cap) (ps ++ [p])) (hgrow : (W.alloc tmp).grownBy w1 v.ownBlock) (hat : v.ownBlock = some g ∨ W.heap.size ≤ g) :
    Blk w1 D [kv, v] 85 ∧ LS w0 D kv (w1.setCell ⟨D, 1, none⟩ (.slice (some ⟨g, 0, none⟩) n cap)) (.slice (some ⟨g, 0, none⟩) n cap) (ps ++ [p]) ∧ Moves (own D v) (own D (.slice (some ⟨g, 0, none⟩) n cap)) W (w1.setCell ⟨D, 1, none⟩ (.slice (some ⟨g, 0, none⟩) n cap)) := by
  have hlt := h.blk.lt
  have hnv : v.ownBlock ≠ some D := fun e => by have := (h.row.lt D e).1; omega
  have hb : Blk w1 D [kv, v] 85 := (hgrow.block D (by simp; omega) (fun e => hnv e.symm)).trans (h.blk.alloc tmp)
  have m : Moves (own D v) (own D (.slice (some ⟨g, 0, none⟩) n cap)) W (w1.setCell ⟨D, 1, none⟩ (.slice (some ⟨g, 0, none⟩) n cap)) := by
    refine ⟨hgrow.os, hgrow.tape, hgrow.output, ?_, fun k hk ht => ?_, fun k hk => ?_⟩
    · have := hgrow.size
      simp [World.setCell] at this ⊢; omega
    · have h1 : k ≠ D := fun e => ht (.inl e)
      have h2 : v.ownBlock ≠ some k := fun e => ht (.inr e)
      exact (Below.heap_setCell w1 _ _ k h1).trans ((hgrow.block k (by simp; omega) (fun e => h2 e.symm)).trans (Below.heap_alloc W tmp k hk))
    · rcases hk with rfl | hk
      · exact .inl (.inl rfl)
      · obtain rfl : g = k := by simpa [Value.ownBlock] using hk
        rcases hat with h1 | h1
        · exact .inl (.inr h1)
        · exact .inr h1
  refine ⟨hb, ⟨h.below m hD, hb.set 1 _, ?_⟩, m⟩
  exact hown.far (by omega) 1 _
theorem setsL_take (l : List Value) (o m : Nat) (vs : List Value) : (setsL l o vs).take m = setsL (l.take m) o vs := by
  induction vs generalizing l o with
  | nil => rfl
  | cons v r ih => rw [setsL, setsL, ih, List.take_set]
theorem setsL_length (l : List Value) (o : Nat) (vs : List Value) : (setsL l o vs).length = l.length := by
  induction vs generalizing l o with
  | nil => rfl
  | cons v r ih => rw [setsL, ih, List.length_set]
theorem set_same {l : List Value} {i : Nat} {v : Value} (h : l[i]? = some v) : l.set i v = l := by
  apply List.ext_getElem?
  intro j
  rw [List.getElem?_set]
  by_cases e : i = j
  · subst e
    rw [if_pos rfl, h]
    have : i < l.length := by
      rcases Nat.lt_or_ge i l.length with h1 | h1
      · exact h1
      · rw [List.getElem?_eq_none h1] at h; cases h
    rw [if_pos this]
  · rw [if_neg e]
theorem flat_frame (ps : List Pd) {i : Nat} (hi : i < ps.length) (f : Fr) : setsL (ps.flatMap pdl) (i * 26 + 1) (frl f) = (ps.set i ⟨(ps.getD i zPd).n, f⟩).flatMap pdl := by
  have h1 := fl_sets pdl_length ps hi ⟨(ps.getD i zPd).n, f⟩
  have h2 := fl_at pdl_length ps zPd hi (j := 0) (by omega)
  rw [Nat.add_zero] at h2
  rw [← h1]
  generalize ps.flatMap pdl = F at h2 ⊢
  have e : pdl ⟨(ps.getD i zPd).n, f⟩ = .int .i64 (ps.getD i zPd).n :: frl f := rfl
  have h3 : F[i * 26]? = some (.int .i64 (ps.getD i zPd).n) := h2
  rw [e, setsL, set_same h3]
theorem LS.stores (h : LS w0 D kv W v ps) (hD : w0.heap.size ≤ D) {g n cap : Nat} (hv : v = .slice (some ⟨g, 0, none⟩) n cap) {o : Nat} {vs : List Value} {ps' : List Pd} (hl : ps'.length = ps.length) (ho : o + vs.length ≤ ps.length * 26) (e : setsL (ps.flatMap pdl) o vs = ps'.flatMap pdl) :
    (∃ cs : List Value, Blk W g cs 114 ∧ o + vs.length ≤ cs.length) ∧ LS w0 D kv (W.setCells g o vs) v ps' ∧ Moves (own D v) (own D v) W (W.setCells g o vs) := by
  subst hv
  have hr := h.row
  rcases hr.2 with ⟨h1, _⟩ | ⟨g', cap', cur, h1, hb, hh, h2, h3, h4, h5⟩
  · cases h1
  · simp at h1
    obtain ⟨rfl, hn, rfl⟩ := h1
    have hB : Blk W g cur.toList 114 := by unfold Blk; simpa using hh
    have hgD : g ≠ D := by omega
    have t := turns_sets W g o vs
    have m : Moves (own D (.slice (some ⟨g, 0, none⟩) n cap)) (own D (.slice (some ⟨g, 0, none⟩) n cap)) W (W.setCells g o vs) :=
      ⟨t.os, t.tape, t.output, t.size, fun k hk ht => t.block k hk fun e => ht (.inr (by subst e; rfl)), fun _ hk => .inl hk⟩
    refine ⟨⟨cur.toList, hB, ?_⟩, ⟨h.below m hD, h.blk.turns t (Ne.symm hgD), ?_⟩, m⟩
    · have : cur.toList.length = cap * 26 := by simpa using h4
      rw [this]
      have : ps.length * 26 ≤ cap * 26 := Nat.mul_le_mul_right 26 h2
      omega
    · have hbs := block_sets hB o vs rfl
      refine ⟨by rw [fl_len pdl_length], .inr ⟨g, cap, (setsL cur.toList o vs).toArray, by rw [hl, hn], hb, hbs, by rw [hl]; exact h2, h3, ?_, ?_⟩⟩
      · simp [setsL_length]
        simpa using h4
      · show (setsL cur.toList o vs).take (ps'.length * 26) = _
        rw [hl, setsL_take, h5, e]
end
end Go.Proofs.YtngeaigkafamiaaGreat
namespace Go.Proofs.YtngeaigkafamiaaGreat
open Go.ChangeShapes Go.WideShapes Go.ChangeAt Go.RowKit
set_option maxRecDepth 100000
theorem boxesO_len {B : Int → Ct → Option Bo} {c : Ct} {K : List Int} {bs : List Bo} (h : boxesO B c K = some bs) : bs.length = K.length := by
  induction K generalizing bs with
  | nil => simp [boxesO] at h; subst h; rfl
  | cons k r ih =>
    unfold boxesO at h
    split at h
    · cases h
    · split at h
      · cases h
      · rename_i b _ l hl
        simp at h
        subst h
        simp [ih hl]
theorem boxesO_snoc {B : Int → Ct → Option Bo} {c : Ct} {K : List Int} {bs : List Bo} {k : Int} {b : Bo} (h : boxesO B c K = some bs) (hb : B k c = some b) : boxesO B c (K ++ [k]) = some (bs ++ [b]) := by
  induction K generalizing bs with
  | nil => simp [boxesO] at h; subst h; simp [boxesO, hb]
  | cons j r ih =>
    unfold boxesO at h
    split at h
    · cases h
    · split at h
      · cases h
      · rename_i x hx _ l hl
        simp at h
        subst h
        rw [List.cons_append]
        unfold boxesO
        rw [hx, ih hl]
        rfl
theorem boxesO_stop {B : Int → Ct → Option Bo} {c : Ct} {K : List Int} {bs : List Bo} {k : Int} {r : List Int} (h : boxesO B c K = some bs) (hb : B k c = none) : boxesO B c (K ++ k :: r) = none := by
  induction K generalizing bs with
  | nil => simp [boxesO, hb]
  | cons j q ih =>
    unfold boxesO at h
    split at h
    · cases h
    · split at h
      · cases h
      · rename_i x hx _ l hl
        rw [List.cons_append]
        unfold boxesO
        rw [hx, ih hl]
def tot : List Bo → Nat
  | [] => 0
  | b :: r => 1 + b.l.length + tot r
theorem layB_length {K : List Int} {bs : List Bo} (h : K.length = bs.length) : (layB K bs).length = tot bs := by
  induction K generalizing bs with
  | nil => cases bs with
    | nil => rfl
    | cons b r => simp at h
  | cons k r ih => cases bs with
    | nil => simp at h
    | cons b q =>
      have := ih (bs := q) (by simpa using h)
      rw [layB, tot, List.length_cons, List.length_append, this]; omega
theorem layB_snoc {K : List Int} {bs : List Bo} (h : K.length = bs.length) (k : Int) (b : Bo) : layB (K ++ [k]) (bs ++ [b]) = layB K bs ++ (⟨k, b.f⟩ :: b.l) := by
  induction K generalizing bs with
  | nil => cases bs with
    | nil => simp [layB]
    | cons b r => simp at h
  | cons j r ih => cases bs with
    | nil => simp at h
    | cons x q =>
      have := ih (bs := q) (by simpa using h)
      simp only [List.cons_append, layB, this, List.append_assoc]
def plc (p0 : Nat) : List Bo → List Int
  | [] => []
  | b :: r => (p0 : Int) :: plc (p0 + 1 + b.l.length) r
theorem plc_length (p0 : Nat) (bs : List Bo) : (plc p0 bs).length = bs.length := by
  induction bs generalizing p0 with
  | nil => rfl
  | cons b r ih => rw [plc, List.length_cons, ih, List.length_cons]
theorem plc_snoc (p0 : Nat) (bs : List Bo) (b : Bo) : plc p0 (bs ++ [b]) = plc p0 bs ++ [((p0 + tot bs : Nat) : Int)] := by
  induction bs generalizing p0 with
  | nil => simp [plc, tot]
  | cons x r ih =>
    rw [List.cons_append, plc, plc, ih, List.cons_append, tot]
    congr 3
    omega
theorem plc_at (p0 : Nat) (bs : List Bo) {k : Nat} (hk : k < bs.length) : (plc p0 bs).getD k 0 = ((p0 + tot (bs.take k) : Nat) : Int) := by
  induction bs generalizing p0 k with
  | nil => simp at hk
  | cons b r ih =>
    cases k with
    | zero => simp [plc, tot]
    | succ k =>
      rw [plc, List.take_succ_cons, tot]
      show (plc (p0 + 1 + b.l.length) r).getD k 0 = _
      rw [ih _ (by simpa using hk)]
      congr 1
      omega
def layG : List Int → List Bo → List Int → List Pd
  | k :: r, b :: bs, y :: ys => ⟨k, { b.f with y := y }⟩ :: (b.l ++ layG r bs ys)
  | k :: r, b :: bs, [] => ⟨k, b.f⟩ :: (b.l ++ layG r bs [])
  | _, _, _ => []
theorem layG_nil (K : List Int) (bs : List Bo) : layG K bs [] = layB K bs := by
  induction K generalizing bs with
  | nil => cases bs <;> rfl
  | cons k r ih => cases bs with
    | nil => rfl
    | cons b q => simp only [layG, layB, ih]
theorem layG_all {K : List Int} {bs : List Bo} {ys : List Int} (h : ys.length = bs.length) : layG K bs ys = layY K bs ys := by
  induction K generalizing bs ys with
  | nil => cases bs <;> cases ys <;> rfl
  | cons k r ih => cases bs with
    | nil => cases ys <;> rfl
    | cons b q => cases ys with
      | nil => simp at h
      | cons y t => simp only [layG, layY]; rw [ih (by simpa using h)]
theorem layG_step {K : List Int} {bs : List Bo} {ys : List Int} {k : Nat} (h1 : K.length = bs.length) (h2 : ys.length = bs.length) (hk : k < bs.length) :
    ∃ (n : Int) (f : Fr), tot (bs.take k) < (layG K bs (ys.take k)).length ∧ (layG K bs (ys.take k)).getD (tot (bs.take k)) zPd = ⟨n, f⟩ ∧ (layG K bs (ys.take k)).set (tot (bs.take k)) ⟨n, { f with y := ys.getD k 0 }⟩ = layG K bs (ys.take (k + 1)) := by
  induction k generalizing K bs ys with
  | zero =>
    match K, bs, ys with
    | j :: K, b :: bs, y :: ys =>
      refine ⟨j, b.f, by simp [layG, tot], by simp [layG, tot], ?_⟩
      simp [layG, tot]
    | _, [], _ => simp at hk
    | [], _ :: _, _ => simp at h1
    | _, _ :: _, [] => simp at h2
  | succ k ih =>
    match K, bs, ys with
    | j :: K, b :: bs, y :: ys =>
      obtain ⟨n, f, e1, e2, e3⟩ := ih (K := K) (bs := bs) (ys := ys) (by simpa using h1) (by simpa using h2) (by simpa using hk)
      have et : tot ((b :: bs).take (k + 1)) = b.l.length + tot (bs.take k) + 1 := by rw [List.take_succ_cons, tot]; omega
      refine ⟨n, f, ?_, ?_, ?_⟩
      · rw [et, List.take_succ_cons, layG, List.length_cons, List.length_append]; omega
      · rw [et, List.take_succ_cons, layG]
        show (b.l ++ layG K bs (ys.take k)).getD (b.l.length + tot (bs.take k)) zPd = _
        rw [List.getD_eq_getElem?_getD, List.getElem?_append_right (by omega), show b.l.length + tot (bs.take k) - b.l.length = tot (bs.take k) by omega, ← List.getD_eq_getElem?_getD]
        exact e2
      · rw [et, List.take_succ_cons, List.take_succ_cons, layG, layG, List.set_cons_succ, List.set_append_right _ _ (by omega), show b.l.length + tot (bs.take k) - b.l.length = tot (bs.take k) by omega]
        show _ :: (b.l ++ (layG K bs (ys.take k)).set (tot (bs.take k)) ⟨n, { f with y := ys.getD k 0 }⟩) = _
        rw [e3]
    | _, [], _ => simp at hk
    | [], _ :: _, _ => simp at h1
    | _, _ :: _, [] => simp at h2
def chainK (l : List Nd) : Nat → List Int → Nat → Prop
  | a, [], e => a ≤ e
  | a, k :: r, e => ∃ m : Nat, k = m ∧ a ≤ m ∧ m < l.length ∧ chainK l (endN l m) r e
theorem chain_le {l : List Nd} {a e : Nat} {K : List Int} (h : chainK l a K e) : a ≤ e := by
  induction K generalizing a with
  | nil => exact h
  | cons k r ih =>
    obtain ⟨m, _, h1, h2, h3⟩ := h
    have := ih h3
    have := end_low h2
    omega
theorem chain_weak {l : List Nd} {a b e : Nat} {K : List Int} (h : chainK l a K e) (hb : b ≤ a) : chainK l b K e := by
  cases K with
  | nil => exact Nat.le_trans hb h
  | cons k r =>
    obtain ⟨m, e1, h1, h2, h3⟩ := h
    exact ⟨m, e1, by omega, h2, h3⟩
theorem chain_snoc {l : List Nd} {a : Nat} {K : List Int} {m : Nat} (h : chainK l a K m) (hm : m < l.length) : chainK l a (K ++ [(m : Int)]) (endN l m) := by
  induction K generalizing a with
  | nil => exact ⟨m, rfl, h, hm, Nat.le_refl _⟩
  | cons k r ih =>
    obtain ⟨j, e1, h1, h2, h3⟩ := h
    exact ⟨j, e1, h1, h2, ih h3⟩
theorem chain_filter {l : List Nd} {a e : Nat} {K : List Int} (p : Int → Bool) (h : chainK l a K e) : chainK l a (K.filter p) e := by
  induction K generalizing a with
  | nil => exact h
  | cons k r ih =>
    obtain ⟨m, e1, h1, h2, h3⟩ := h
    rw [List.filter_cons]
    split
    · exact ⟨m, e1, h1, h2, ih h3⟩
    · have := end_low h2
      exact chain_weak (ih h3) (by omega)
theorem kids_chain {l : List Nd} (h : FormedT l) {n : Nat} (hn : n < l.length) : ∀ d m, endN l n - m ≤ d → n < m → m ≤ endN l n → (m < endN l n → (nd l m).p = n) → chainK l (n + 1) (kidsTo l n m) m → chainK l (n + 1) (kidsTo l n (endN l n)) (endN l n) := by
  intro d
  induction d with
  | zero =>
    intro m hd h1 h2 _ hc
    obtain rfl : m = endN l n := by omega
    exact hc
  | succ d ih =>
    intro m hd h1 h2 hp hc
    rcases Nat.eq_or_lt_of_le h2 with h3 | h3
    · rw [← h3]; exact hc
    · have hml : m < l.length := Nat.lt_of_lt_of_le h3 (end_le hn)
      have hel := end_low hml
      refine ih (endN l m) (by omega) (by omega) (end_kid_le h hml hn (hp h3)) (fun h5 => kid_next h hml hn (hp h3) h5) ?_
      rw [kids_on h hml (hp h3)]
      exact chain_snoc hc hml
theorem flow_chain {l : List Nd} (h : FormedT l) {n : Nat} (hn : n < l.length) : chainK l (n + 1) (flowV l n) (endN l n) := by
  have h1 := kids_chain h hn (endN l n - (n + 1)) (n + 1) (Nat.le_refl _) (by omega) (end_low hn) (fun h2 => kid_first h hn h2) (by rw [kids_begin h hn]; exact Nat.le_refl _)
  rw [flowV_kids]
  refine chain_filter _ ?_
  unfold kidsV
  rw [inB_nat hn, if_pos rfl, kids_end h hn]
  exact h1
theorem chain_mem {l : List Nd} {a e : Nat} {K1 K2 : List Int} {k : Int} (h : chainK l a (K1 ++ k :: K2) e) : ∃ m : Nat, k = m ∧ m < l.length ∧ endN l m ≤ e := by
  induction K1 generalizing a with
  | nil =>
    obtain ⟨m, e1, _, h2, h3⟩ := h
    exact ⟨m, e1, h2, chain_le h3⟩
  | cons j r ih =>
    obtain ⟨m, _, _, _, h3⟩ := h
    exact ih h3
def Small (l : List Nd) (B : Int → Ct → Option Bo) : Prop := ∀ (m : Nat) (c : Ct) (b : Bo), m < l.length → B m c = some b → m + 1 + b.l.length ≤ endN l m
theorem chain_tot {l : List Nd} {B : Int → Ct → Option Bo} (hB : Small l B) {c : Ct} {a : Nat} {K1 K2 : List Int} {k : Int} {e : Nat} {bs : List Bo} (h : chainK l a (K1 ++ k :: K2) e) (hb : boxesO B c K1 = some bs) : ∀ m : Nat, k = m → a + tot bs ≤ m := by
  induction K1 generalizing a bs with
  | nil =>
    simp [boxesO] at hb
    subst hb
    intro m hm
    obtain ⟨j, e1, h1, _, _⟩ := h
    simp [tot]
    omega
  | cons j r ih =>
    obtain ⟨q, e1, h1, h2, h3⟩ := h
    unfold boxesO at hb
    split at hb
    · cases hb
    · split at hb
      · cases hb
      · rename_i x hx _ y hy
        simp at hb
        subst hb
        intro m hm
        have := ih h3 hy m hm
        rw [e1] at hx
        have := hB q c x h2 hx
        rw [tot]
        omega
theorem chain_all {l : List Nd} {B : Int → Ct → Option Bo} (hB : Small l B) {c : Ct} {a : Nat} {K : List Int} {e : Nat} {bs : List Bo} (h : chainK l a K e) (hb : boxesO B c K = some bs) : a + tot bs ≤ e := by
  induction K generalizing a bs with
  | nil =>
    simp [boxesO] at hb
    subst hb
    exact h
  | cons j r ih =>
    obtain ⟨q, e1, h1, h2, h3⟩ := h
    unfold boxesO at hb
    split at hb
    · cases hb
    · split at hb
      · cases hb
      · rename_i x hx _ y hy
        simp at hb
        subst hb
        have := ih h3 hy
        rw [e1] at hx
        have := hB q c x h2 hx
        rw [tot]
        omega
theorem layY_length (K : List Int) (bs : List Bo) (ys : List Int) : (layY K bs ys).length ≤ tot bs := by
  induction K generalizing bs ys with
  | nil => cases bs <;> cases ys <;> simp [layY]
  | cons k r ih => cases bs with
    | nil => cases ys <;> simp [layY]
    | cons b q => cases ys with
      | nil => simp [layY]
      | cons y t =>
        have := ih q t
        rw [layY, tot, List.length_cons, List.length_append]
        omega
theorem small_box {l : List Nd} (h : FormedT l) (k : Nat) : Small l (boxO l k) := by
  induction k with
  | zero => intro m c b _ hb; simp [boxO] at hb
  | succ k ih =>
    intro m c b hm hb
    unfold boxO at hb
    split at hb
    · split at hb
      · cases hb
      · rename_i a ha
        split at hb
        · simp at hb
          subst hb
          show m + 1 + a.l.length ≤ _
          unfold contO at ha
          split at ha
          · cases ha
          · rename_i bs hbs
            split at ha
            · cases ha
            · rename_i p hp
              split at ha
              · simp at ha
                subst ha
                have h1 := chain_all ih (flow_chain h hm) hbs
                have h2 := layY_length (flowV l m) bs p.y
                show m + 1 + (layY (flowV l m) bs p.y).length ≤ _
                omega
              · cases ha
        · cases hb
    · cases hb
end Go.Proofs.YtngeaigkafamiaaGreat

