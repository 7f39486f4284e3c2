/- Texts of the proof, merged: FMid, FHigh, FCh0, Push, Awake. -/
import Derived.Test.YteplmjgohnbpbaaM15
import Derived.Test.YteplmjgohnbpbaaM24
import Derived.Deep.DeepCutAuto
import Derived.Test.YteplmjgohnbpbaaM9
import Derived.Test.YteplmjgohnbpbaaM8
/- Contracts of inRange and through; no conditions. -/
namespace Go.Proofs.Yteplmjgohnbpbaa
open Go.ChangeShapes Go.WideShapes Go.ChangeAt Go.RowKit
set_option maxRecDepth 100000
/-- The container's sizes may be. -/
def rngB (c : Ct) : Bool := decide (0 ≤ c.w) && (decide (c.w ≤ 1125899906842624) && (decide (0 ≤ orV c.h 0) && decide (orV c.h 0 ≤ 1125899906842624)))
set_option maxHeartbeats 1000000 in
theorem inRange_any (c : Ct) (w : World) :
    Calls Try.prog 23 #[ctv c] w fun e w' => e = .returned (.bool (rngB c)) ∧ Seen w w' := by
  have HV := Lib.hid (show rngB c = (decide (0 ≤ c.w) && (decide (c.w ≤ 1125899906842624) && (decide (0 ≤ orV c.h 0) && decide (orV c.h 0 ≤ 1125899906842624)))) from rfl)
  rw [HV.out]
  clear HV
  obtain ⟨x, ⟨au, n⟩, rtl⟩ := c
  have OR := fun w => or_any ⟨au, n⟩ 0 w
  obtain ⟨o, ho⟩ : ∃ o, orV ⟨au, n⟩ 0 = o := ⟨_, rfl⟩
  simp only
  rw [ho] at OR ⊢
  clear ho
  obtain ⟨W, hW⟩ : ∃ W, W = w.alloc (.cells #[.int .i64 x, .bool au, .int .i64 n, .bool rtl] 81) := ⟨_, rfl⟩
  have k : Blk W w.heap.size [.int .i64 x, .bool au, .int .i64 n, .bool rtl] 81 := by rw [hW]; exact Blk.new w _ _
  have SW : Hid (Seen w W) := by rw [hW]; exact (Seen.refl w).alloc _
  have r0 := k.rules4
  have r0' := r0 W (Seen.refl W)
  clear k
  obtain ⟨E, hE⟩ : ∃ E, (decide (0 ≤ x) && (decide (x ≤ 1125899906842624) && (decide (0 ≤ o) && decide (o ≤ 1125899906842624)))) = E := ⟨_, rfl⟩
  rw [hE]
  have HE := Lib.hid hE
  clear hE
  go_enter Try.func23, Try.ntmps23
  go_upto_region 1 with fail
  rw [← hW]
  clear hW
  by_cases h1 : 0 ≤ x
  · by_cases h2 : x ≤ 1125899906842624
    · by_cases h3 : 0 ≤ o
      · by_cases h4 : o ≤ 1125899906842624
        · have HX : Hid (E = true ∧ True) := ⟨by rw [← HE.out]; simp [h1, h2, h3, h4], trivial⟩
          clear HE
          go_wp2_with (go_at_call 39; refine (OR _).mono ?_; clear OR; rintro e w2 ⟨rfl, hb⟩; have H2 := Lib.hid (show Seen W w2 from hb); have r2 := r0 w2 hb; clear hb)
          go_ret
          exact ⟨by rw [HX.out.1]; first | rfl | exact ret_bool (by simp; omega), SW.out.trans H2.out⟩
        · have HX : Hid (E = false ∧ True) := ⟨by rw [← HE.out]; simp [h4], trivial⟩
          clear HE
          go_wp2_with (go_at_call 39; refine (OR _).mono ?_; clear OR; rintro e w2 ⟨rfl, hb⟩; have H2 := Lib.hid (show Seen W w2 from hb); have r2 := r0 w2 hb; clear hb)
          go_ret
          exact ⟨by rw [HX.out.1]; first | rfl | exact ret_bool (by simp; omega), SW.out.trans H2.out⟩
      · have HX : Hid (E = false ∧ True) := ⟨by rw [← HE.out]; simp [h3], trivial⟩
        clear HE
        go_wp2_with (go_at_call 39; refine (OR _).mono ?_; clear OR; rintro e w2 ⟨rfl, hb⟩; have H2 := Lib.hid (show Seen W w2 from hb); have r2 := r0 w2 hb; clear hb)
        go_ret
        exact ⟨by rw [HX.out.1]; first | rfl | exact ret_bool (by simp; omega), SW.out.trans H2.out⟩
    · have HX : Hid (E = false ∧ True) := ⟨by rw [← HE.out]; simp [h2], trivial⟩
      clear HE
      go_wp2_with (go_at_call 39; refine (OR _).mono ?_; clear OR; rintro e w2 ⟨rfl, hb⟩; have H2 := Lib.hid (show Seen W w2 from hb); have r2 := r0 w2 hb; clear hb)
      go_ret
      exact ⟨by rw [HX.out.1]; first | rfl | exact ret_bool (by simp; omega), SW.out.trans H2.out⟩
  · have HX : Hid (E = false ∧ True) := ⟨by rw [← HE.out]; simp [h1], trivial⟩
    clear HE
    go_wp2_with (go_at_call 39; refine (OR _).mono ?_; clear OR; rintro e w2 ⟨rfl, hb⟩; have H2 := Lib.hid (show Seen W w2 from hb); have r2 := r0 w2 hb; clear hb)
    go_ret
    exact ⟨by rw [HX.out.1]; first | rfl | exact ret_bool (by simp; omega), SW.out.trans H2.out⟩
set_option maxHeartbeats 1000000 in
theorem through_any (a : Option Addr) (c : Nat) (p : Pi) (e : En) (h : Hts) (w : World) :
    Calls Try.prog 70 #[piv (.slice a p.y.length c) p, env e, htv h] w fun r w' => r = .returned (.bool (thrB p e h)) ∧ Seen w w' := by
  have HV := Lib.hid (show thrB p e h = (p.att && (e.flat && (h.own.au || (decide (h.own.n = 0) && decide (p.y.length = 0))))) from rfl)
  rw [HV.out]
  clear HV
  obtain ⟨y, ed, ⟨tp, tn⟩, ⟨up, un⟩, att⟩ := p
  obtain ⟨top, bot, flat⟩ := e
  obtain ⟨⟨au, n⟩, lo, hi⟩ := h
  simp only
  obtain ⟨m, hm⟩ : ∃ m, y.length = m := ⟨_, rfl⟩
  rw [hm]
  clear hm
  by_cases h1 : n = 0
  · subst h1
    by_cases h2 : m = 0
    · subst h2
      cases att <;> cases flat <;> cases au
      all_goals
        go_enter Try.func70, Try.ntmps70
        go_wp2_with fail
        go_ret
        exact ⟨by simp, by unfold Seen; go_grown⟩
    · have h2' : ¬ (m : Int) = 0 := by omega
      cases att <;> cases flat <;> cases au
      all_goals
        go_enter Try.func70, Try.ntmps70
        go_wp2_with fail
        go_ret
        exact ⟨by simp [h2], by unfold Seen; go_grown⟩
  · cases att <;> cases flat <;> cases au
    all_goals
      go_enter Try.func70, Try.ntmps70
      go_wp2_with fail
      go_ret
      exact ⟨by simp [h1], by unfold Seen; go_grown⟩
end Go.Proofs.Yteplmjgohnbpbaa

/- Contract of heightOf; no conditions. -/
namespace Go.Proofs.Yteplmjgohnbpbaa
open Go.ChangeShapes Go.WideShapes Go.ChangeAt Go.RowKit
set_option maxRecDepth 100000
set_option maxHeartbeats 1000000 in
theorem heightOf_any (v : Value) (p : Pi) (e : En) (w : World) :
    Calls Try.prog 50 #[piv v p, env e] w fun r w' => r = .returned (.tuple #[.int .i64 (hgN p e), .bool (hgB p e)]) ∧ Seen w w' := by
  have HV := Lib.hid (show hgN p e = (if hgG p e then hgV p e else 0) ∧ hgB p e = (hgG p e && fitsB (hgV p e)) ∧ hgG p e = (e.bot || valB p.cur) ∧ hgV p e = max (if e.bot then p.edge else wrap64 (p.edge + valN p.cur)) 0 from ⟨rfl, rfl, rfl, rfl⟩)
  obtain ⟨y, ed, ⟨tp, tn⟩, ⟨up, un⟩, att⟩ := p
  obtain ⟨top, bot, flat⟩ := e
  have VA := fun w => value_any ⟨up, un⟩ w
  have FI := fun n w => fits_eq n w
  simp only at HV
  obtain ⟨q, hq⟩ : ∃ q, (⟨y, ed, ⟨tp, tn⟩, ⟨up, un⟩, att⟩ : Pi) = q := ⟨_, rfl⟩
  cases bot
  · obtain ⟨vn, hvn⟩ : ∃ x, valN ⟨up, un⟩ = x := ⟨_, rfl⟩
    obtain ⟨vb, hvb⟩ : ∃ x, valB ⟨up, un⟩ = x := ⟨_, rfl⟩
    rw [hvn, hvb] at VA
    rw [hvn, hvb] at HV
    clear hvn hvb hq
    cases vb
    · have HG := Lib.hid (show hgG ⟨y, ed, ⟨tp, tn⟩, ⟨up, un⟩, att⟩ ⟨top, false, flat⟩ = false ∧ True from ⟨HV.out.2.2.1.trans rfl, trivial⟩)
      have HN := Lib.hid (show hgN ⟨y, ed, ⟨tp, tn⟩, ⟨up, un⟩, att⟩ ⟨top, false, flat⟩ = 0 ∧ True from ⟨HV.out.1.trans (by rw [HG.out.1]; rfl), trivial⟩)
      have HB := Lib.hid (show hgB ⟨y, ed, ⟨tp, tn⟩, ⟨up, un⟩, att⟩ ⟨top, false, flat⟩ = false ∧ True from ⟨HV.out.2.1.trans (by rw [HG.out.1]; rfl), trivial⟩)
      rw [HN.out.1, HB.out.1]
      clear HV HG HN HB FI
      go_enter Try.func50, Try.ntmps50
      go_wp2_with (go_at_call 75; refine (VA _).mono ?_; clear VA; rintro r w2 ⟨rfl, hb⟩)
      go_ret2
      exact ⟨rfl, (((Seen.refl w).alloc _).alloc _).next hb⟩
    · have HG := Lib.hid (show hgG ⟨y, ed, ⟨tp, tn⟩, ⟨up, un⟩, att⟩ ⟨top, false, flat⟩ = true ∧ True from ⟨HV.out.2.2.1.trans rfl, trivial⟩)
      have HX := Lib.hid (show hgV ⟨y, ed, ⟨tp, tn⟩, ⟨up, un⟩, att⟩ ⟨top, false, flat⟩ = max (wrap64 (ed + vn)) 0 ∧ True from ⟨HV.out.2.2.2.trans rfl, trivial⟩)
      have HN := Lib.hid (show hgN ⟨y, ed, ⟨tp, tn⟩, ⟨up, un⟩, att⟩ ⟨top, false, flat⟩ = max (wrap64 (ed + vn)) 0 ∧ True from ⟨HV.out.1.trans (by rw [HG.out.1, HX.out.1]; rfl), trivial⟩)
      have HB := Lib.hid (show hgB ⟨y, ed, ⟨tp, tn⟩, ⟨up, un⟩, att⟩ ⟨top, false, flat⟩ = fitsB (max (wrap64 (ed + vn)) 0) ∧ True from ⟨HV.out.2.1.trans (by rw [HG.out.1, HX.out.1]; rfl), trivial⟩)
      rw [HN.out.1, HB.out.1]
      clear HV HG HN HB HX
      obtain ⟨s, hs⟩ : ∃ s, wrap64 (ed + vn) = s := ⟨_, rfl⟩
      rw [hs]
      by_cases h0 : 0 ≤ s
      · rw [show max s 0 = s by omega]
        go_enter Try.func50, Try.ntmps50
        go_wp2_with (first | (go_at_call 75; refine (VA _).mono ?_; clear VA; rintro r w2 ⟨rfl, hb⟩) | (go_at_call 76; refine (FI _ _).mono ?_; clear FI; rintro r w3 ⟨rfl, rfl⟩))
        all_goals
          go_ret2
          exact ⟨rfl, (((Seen.refl w).alloc _).alloc _).next hb⟩
      · rw [show max s 0 = 0 by omega]
        go_enter Try.func50, Try.ntmps50
        go_wp2_with (first | (go_at_call 75; refine (VA _).mono ?_; clear VA; rintro r w2 ⟨rfl, hb⟩) | (go_at_call 76; refine (FI _ _).mono ?_; clear FI; rintro r w3 ⟨rfl, rfl⟩))
        all_goals
          go_ret2
          exact ⟨rfl, (((Seen.refl w).alloc _).alloc _).next hb⟩
  · have HG := Lib.hid (show hgG ⟨y, ed, ⟨tp, tn⟩, ⟨up, un⟩, att⟩ ⟨top, true, flat⟩ = true ∧ True from ⟨HV.out.2.2.1.trans rfl, trivial⟩)
    have HX := Lib.hid (show hgV ⟨y, ed, ⟨tp, tn⟩, ⟨up, un⟩, att⟩ ⟨top, true, flat⟩ = max ed 0 ∧ True from ⟨HV.out.2.2.2.trans rfl, trivial⟩)
    have HN := Lib.hid (show hgN ⟨y, ed, ⟨tp, tn⟩, ⟨up, un⟩, att⟩ ⟨top, true, flat⟩ = max ed 0 ∧ True from ⟨HV.out.1.trans (by rw [HG.out.1, HX.out.1]; rfl), trivial⟩)
    have HB := Lib.hid (show hgB ⟨y, ed, ⟨tp, tn⟩, ⟨up, un⟩, att⟩ ⟨top, true, flat⟩ = fitsB (max ed 0) ∧ True from ⟨HV.out.2.1.trans (by rw [HG.out.1, HX.out.1]; rfl), trivial⟩)
    rw [HN.out.1, HB.out.1]
    clear HV HG HN HB HX VA hq
    by_cases h0 : 0 ≤ ed
    · rw [show max ed 0 = ed by omega]
      go_enter Try.func50, Try.ntmps50
      go_wp2_with (go_at_call 76; refine (FI _ _).mono ?_; clear FI; rintro r w3 ⟨rfl, rfl⟩)
      all_goals
        go_ret2
        exact ⟨rfl, ((Seen.refl w).alloc _).alloc _⟩
    · rw [show max ed 0 = 0 by omega]
      go_enter Try.func50, Try.ntmps50
      go_wp2_with (go_at_call 76; refine (FI _ _).mono ?_; clear FI; rintro r w3 ⟨rfl, rfl⟩)
      all_goals
        go_ret2
        exact ⟨rfl, ((Seen.refl w).alloc _).alloc _⟩
end Go.Proofs.Yteplmjgohnbpbaa

/- Children in memory; no conditions beyond those written in each theorem. -/
namespace Go.Proofs.Yteplmjgohnbpbaa
open Go.ChangeShapes Go.WideShapes Go.ChangeAt Go.RowKit
set_option maxRecDepth 100000
theorem st43 {w : World} {X o : Nat} {cs : List Value} {t : TypeId} (p n : Int) (h : Blk w X cs t) (hl : o + 2 ≤ cs.length) : (Instr.storeAt 43 (.pointer (some ⟨X, o, none⟩)) (.agg #[.int .i64 p, .int .i64 n])).run Try.prog w = .ok () ((w.setCell ⟨X, o, none⟩ (.int .i64 p)).setCell ⟨X, o + 1, none⟩ (.int .i64 n)) :=
  stC (vs := [.int .i64 p, .int .i64 n]) h hl sz43 (by intro u hu; simp at hu; rcases hu with rfl | rfl <;> rfl)
theorem chl_one (c : Ch) : ∀ u ∈ chl c, u.oneCell' = true := by
  intro u hu
  simp only [chl, List.mem_cons, List.not_mem_nil, or_false] at hu
  rcases hu with rfl | rfl | rfl | rfl | rfl | rfl | rfl | rfl <;> rfl
theorem run_loadC {w : World} {X : Nat} {c : Ch} (h : Blk w X (chl c) 45) : (loadVar 45 ⟨X, 0, none⟩).run Try.prog w = .ok (chv c) w :=
  run_loadVar_mid w X 0 45 (chl c) _ h.range Try.underlying45 rfl sz45
theorem stCh {w : World} {X : Nat} {cs : List Value} {t : TypeId} (c : Ch) (h : Blk w X cs t) (hl : cs.length = 8) : (Instr.storeAt 45 (.pointer (some ⟨X, 0, none⟩)) (chv c)).run Try.prog w = .ok () (w.setCells X 0 (chl c)) :=
  stC (vs := chl c) h (by rw [hl]; exact Nat.le_refl _) sz45 (chl_one c)
theorem blkCh {w : World} {X : Nat} {cs : List Value} (c : Ch) (h : Blk w X cs 45) (hl : cs.length = 8) : Blk (w.setCells X 0 (chl c)) X (chl c) 45 := block_sets h 0 (chl c) (sets_all cs (chl c) hl)
theorem seen_sets {w w' : World} {X o : Nat} {vs : List Value} (h : Seen w w') (hX : w.heap.size ≤ X) : Seen w (w'.setCells X o vs) := h.turns (turns_sets w' X o vs) hX
/-- A whole child stored. -/
theorem wpList_storeCh {ops : Array Oper} {rest : List Oper} {op : Oper} {a : Act} {w : World} {Q : Exit → Act → World → Prop} (hgd : op.guard = none) (x y : Operand) (ho : op.op = .store 45 x y) (X : Nat) (cs : List Value) (c : Ch)
    (hx : a.eval x = .pointer (some ⟨X, 0, none⟩)) (hy : a.eval y = chv c) (hl : cs.length = 8) (hb : Blk w X cs 45)
    (h : ∀ w', Blk w' X (chl c) 45 → Turns X w w' → wpList Try.prog ops Q rest (a.put op.dst undef) w') : wpList Try.prog ops Q (op :: rest) a w :=
  wpList_storeC hgd 45 x y ho X 0 (chl c) hx hy sz45 (chl_one c) hb (by rw [hl]; exact Nat.le_refl _) (sets_all _ _ hl) h
theorem Blk.rulesCh {w : World} {B : Nat} {t : TypeId} {c : Ch} (h : Blk w B (chl c) t) : ∀ w', Seen w w' → w'.cell? ⟨B, 0, none⟩ = some (.int .i64 c.top.p) ∧ w'.cell? ⟨B, 1, none⟩ = some (.int .i64 c.top.n) ∧ w'.cell? ⟨B, 2, none⟩ = some (.int .i64 c.bot.p) ∧ w'.cell? ⟨B, 3, none⟩ = some (.int .i64 c.bot.n) ∧ w'.cell? ⟨B, 4, none⟩ = some (.int .i64 c.inn.p) ∧ w'.cell? ⟨B, 5, none⟩ = some (.int .i64 c.inn.n) ∧ w'.cell? ⟨B, 6, none⟩ = some (.bool c.thr) ∧ w'.cell? ⟨B, 7, none⟩ = some (.int .i64 c.high) ∧ (∀ o, w'.frozen? ⟨B, o, none⟩ = false) :=
  fun _ hs => ⟨(h.seen hs).cell 0, (h.seen hs).cell 1, (h.seen hs).cell 2, (h.seen hs).cell 3, (h.seen hs).cell 4, (h.seen hs).cell 5, (h.seen hs).cell 6, (h.seen hs).cell 7, (h.seen hs).free⟩
end Go.Proofs.Yteplmjgohnbpbaa

/- A slice of elements laid flat that is owned: one element appended. No number of a seat in it; no conditions beyond those written in each theorem. -/
namespace Go.Proofs.Yteplmjgohnbpbaa
open Go.ChangeShapes Go.WideShapes Go.ChangeAt Go.RowKit
set_option maxRecDepth 100000
/-- The row of elements that it owns. -/
def GR {α : Type} (enc : α → List Value) (e : TypeId) (size : Nat) (w : World) (base : Nat) (v : Value) (l : List α) : Prop := w.ownsRow base e size v l.length (l.flatMap enc)
section
variable {α : Type} {enc : α → List Value} {e : TypeId} {size : Nat} {w w' : World} {base : Nat} {v : Value} {l : List α}
theorem GR.seen (h : GR enc e size w base v l) (hs : Seen w w') : GR enc e size w' base v l := row_seen h hs
theorem GR.nil (w : World) (base : Nat) : GR enc e size w base (.slice none 0 0) [] := ⟨by simp, .inl ⟨rfl, rfl⟩⟩
theorem GR.slice (h : GR enc e size w base v l) (hf : ∀ q, (enc q).length = size) (z : α) : ∃ a c, v = .slice a l.length c ∧ SL enc size z w a l.length l ∧ l.length ≤ c := by
  rcases h.2 with ⟨rfl, hn⟩ | ⟨g, cap, cur, rfl, hb, hh, h1, h2, h3, h4⟩
  · refine ⟨none, 0, by rw [hn], ⟨rfl, fun h => absurd h (by omega)⟩, by omega⟩
  · refine ⟨_, cap, rfl, ⟨rfl, fun _ => ⟨g, 0, rfl, fun i hi j hj => ?_⟩⟩, h1⟩
    have hl : i * size + j < l.length * size := by
      have : (i + 1) * size ≤ l.length * size := Nat.mul_le_mul_right size hi
      rw [Nat.add_mul] at this; omega
    have hc := World.ownsRow.cellAt h (i * size + j) hl
    rw [Nat.zero_add, hc]
    exact fl_at hf l z hi hj
theorem GR.far (h : GR enc e size w base v l) {B : Nat} (hB : B < base) (o : Nat) (u : Value) : GR enc e size (w.setCell ⟨B, o, none⟩ u) base v l :=
  ownsRow_keeps h (fun g hg => Below.heap_setCell w _ _ g (fun e => by have := (h.lt g hg).1; simp at e; omega))
end
theorem cells_at (w : World) (xs : List Value) (t : TypeId) : ∀ j v, xs[j]? = some v → (w.alloc (.cells xs.toArray t)).cell? ((⟨w.heap.size, 0, none⟩ : Addr).add j) = some v := by
  intro j v h
  rw [add_plain, Go.Joins.cell_of_block (World.alloc_heap_new w _), List.getElem?_toArray, Nat.zero_add]
  exact h
/-- x = append(x, y), y in a new block. -/
theorem wpList_pushG {P : Program} {α : Type} {enc : α → List Value} {size bytes : Nat} {z : Value} {t e : TypeId} (ht : P.underlying t = some (.slice e))
    (hinfo : (P.info? e).map (fun i => (i.zero, i.size, i.bytes)) = some (some z, size, bytes)) (hz : z.cells.size = size) (hpos : 0 < size) (hf : ∀ q, (enc q).length = size) (h1 : ∀ q, ∀ u ∈ enc q, u.oneCell' = true) (hby : bytes ≤ 10000)
    {ops : Array Oper} {rest : List Oper} {op : Oper} {a : Act} {w : World} {Q : Exit → Act → World → Prop} (hgd : op.guard = none) (s x : Operand) (ho : op.op = .call { callee := .builtin .append, args := #[s, x], argTypes := #[t, t] })
    (base : Nat) (v : Value) (l : List α) (y : α) (hs : a.eval s = v) (hx : a.eval x = .slice (some ⟨w.heap.size, 0, none⟩) 1 1) (hown : GR enc e size w base v l) (hl : l.length ≤ 1000000) (hb : base ≤ w.heap.size)
    (h : ∀ g cap w', GR enc e size w' base (.slice (some ⟨g, 0, none⟩) (l.length + 1) cap) (l ++ [y]) → (w.alloc (.cells (enc y).toArray e)).grownBy w' v.ownBlock → wpList P ops Q rest (a.put op.dst (.slice (some ⟨g, 0, none⟩) (l.length + 1) cap)) w') :
    wpList P ops Q (op :: rest) a (w.alloc (.cells (enc y).toArray e)) := by
  obtain ⟨i0, hi, hz0, hz1, hz2⟩ := info_parts hinfo
  have hm : (l.length + 1) * bytes ≤ 1000001 * 10000 := Nat.mul_le_mul (by omega) hby
  refine wpList_append_own (P := P) _ hgd s x t ho base e i0 z size bytes ht hi hz0 hz1 hz2 hz hpos v l.length (l.flatMap enc) hs (World.ownsRow.alloc hown _) ⟨w.heap.size, 0, none⟩ 1 1 (enc y) hx (by rw [hf]; omega) (cells_at _ _ _) (h1 y) (by unfold maxLen; omega) (by omega) (by simp; omega) ?_
  intro v' w' h1 h2 _
  obtain ⟨g, cap, rfl⟩ := ownsRow_succ h1
  refine h g cap w' ?_ h2
  unfold GR
  rw [List.flatMap_append, List.length_append, List.flatMap_cons, List.flatMap_nil, List.append_nil]
  exact h1
end Go.Proofs.Yteplmjgohnbpbaa

/- Contracts of the law's own Plain and awake; no conditions beyond those written in each theorem. -/
namespace Go.Proofs.Yteplmjgohnbpbaa
open Go.ChangeShapes Go.WideShapes Go.ChangeAt Go.RowKit
set_option maxRecDepth 100000
/-- The style that the law calls plain, with k of its four pads laid. -/
def plainK (k : Nat) : Sty := ⟨true, 0, List.replicate 14 ⟨0, 0⟩ ++ (List.replicate k ⟨1, 0⟩ ++ List.replicate (4 - k) ⟨0, 0⟩), [0, 0, 0, 0], false, false, 0, false, 0, 0⟩
theorem plain_full {k : Nat} (h : k ≤ 4) : Full (plainK k) := ⟨by simp [plainK]; omega, rfl⟩
theorem plain_step {k : Nat} (h : k < 4) : ((stl (plainK k)).set (30 + k * 2) (.int .i64 1)).set (30 + k * 2 + 1) (.int .i64 0) = stl (plainK (k + 1)) := by
  match k, h with
  | 0, _ => rfl
  | 1, _ => rfl
  | 2, _ => rfl
  | 3, _ => rfl
theorem Hs.keeps {w w' : World} {X : Nat} {s : Sty} (h : Hs w X s) (e : w'.heap[X]? = w.heap[X]?) : Hs w' X s := e.trans h
theorem zero_lit : (#[.bool false, .int .i64 0, .int .i64 0, .int .i64 0, .int .i64 0, .int .i64 0, .int .i64 0, .int .i64 0, .int .i64 0, .int .i64 0, .int .i64 0, .int .i64 0, .int .i64 0, .int .i64 0, .int .i64 0, .int .i64 0, .int .i64 0, .int .i64 0, .int .i64 0, .int .i64 0, .int .i64 0, .int .i64 0, .int .i64 0, .int .i64 0, .int .i64 0, .int .i64 0, .int .i64 0, .int .i64 0, .int .i64 0, .int .i64 0, .int .i64 0, .int .i64 0, .int .i64 0, .int .i64 0, .int .i64 0, .int .i64 0, .int .i64 0, .int .i64 0, .int .i64 0, .int .i64 0, .int .i64 0, .int .i64 0, .bool false, .bool false, .int .i64 0, .bool false, .int .i64 0, .int .i64 0] : Array Value) = (stl zeroS).toArray := by kernel_rfl
theorem plain_lit : (#[.bool true, .int .i64 0, .int .i64 0, .int .i64 0, .int .i64 0, .int .i64 0, .int .i64 0, .int .i64 0, .int .i64 0, .int .i64 0, .int .i64 0, .int .i64 0, .int .i64 0, .int .i64 0, .int .i64 0, .int .i64 0, .int .i64 0, .int .i64 0, .int .i64 0, .int .i64 0, .int .i64 0, .int .i64 0, .int .i64 0, .int .i64 0, .int .i64 0, .int .i64 0, .int .i64 0, .int .i64 0, .int .i64 0, .int .i64 0, .int .i64 0, .int .i64 0, .int .i64 0, .int .i64 0, .int .i64 0, .int .i64 0, .int .i64 0, .int .i64 0, .int .i64 0, .int .i64 0, .int .i64 0, .int .i64 0, .bool false, .bool false, .int .i64 0, .bool false, .int .i64 0, .int .i64 0] : Array Value) = (stl (plainK 0)).toArray := by kernel_rfl
set_option maxRecDepth 100000 in
set_option maxHeartbeats 4000000 in
theorem plain_any (w : World) : Calls Try.prog 15 #[] w fun e w' => e = .returned (sv (plainK 4)) ∧ Seen w w' := by
  obtain ⟨W, hW⟩ : ∃ W, W = (w.alloc (.cells (stl zeroS).toArray 39)).alloc (.cells (stl zeroS).toArray 39) := ⟨_, rfl⟩
  have HZ : Hid (Hs W w.heap.size zeroS) := by rw [hW]; exact (hs_new w zeroS).seen ((Seen.refl _).alloc _)
  have HP : Hid (Hs W (w.heap.size + 1) zeroS) := by
    unfold Hid
    rw [hW]
    have := hs_new (w.alloc (.cells (stl zeroS).toArray 39)) zeroS
    simpa using this
  have SW : Hid (Seen w W) := by rw [hW]; exact ((Seen.refl w).alloc _).alloc _
  go_enter Try.func15, Try.ntmps15
  go_wp2_with (rw [plain_lit, zero_lit, ← hW]; refine wpList_storeS rfl _ _ rfl (w.heap.size + 1) zeroS (plainK 0) rfl rfl (plain_full (by omega)) zero_full HP.out ?_; intro w1 hs1 ht1; have R1 := Lib.hid (And.intro hs1 ht1); clear hs1 ht1 hW)
  go_loopw [4] (fun i wr => ∃ k : Nat, k ≤ 4 ∧ i = .int .i64 k ∧ Hs wr w.heap.size zeroS ∧ Hs wr (w.heap.size + 1) (plainK k) ∧ Seen w wr) (fun i _ => 4 - (intOf i).toNat)
  case atStart =>
    exact ⟨0, Nat.zero_le _, rfl, HZ.out.keeps (R1.out.2.block _ HZ.out.lt (by omega)), R1.out.1, SW.out.turns R1.out.2 (by omega)⟩
  case round =>
    obtain ⟨k, hk, rfl, h1, h2, h3⟩ := hrel
    have H1 := Lib.hid h1
    have H2 := Lib.hid h2
    have H3 := Lib.hid h3
    clear h1 h2 h3
    by_cases hlt : k < 4
    · have hk' : (k : Int) < 4 := by omega
      obtain ⟨c0, c1⟩ := H2.out.two (plain_full hk) (i := 14 + k) (by omega)
      rw [show 2 + (14 + k) * 2 = 30 + k * 2 by omega] at c0 c1
      have f0 := H2.out.free (30 + k * 2)
      have f1 := H2.out.free (30 + k * 2 + 1)
      go_wp2_with fail
      refine ⟨⟨k + 1, hlt, by go_num, H1.out.keeps ?_, ?_, ?_⟩, by simp [intOf]; omega⟩
      · rw [Below.heap_setCell _ ⟨w.heap.size + 1, 30 + k * 2 + 1, none⟩ _ _ (by show w.heap.size ≠ w.heap.size + 1; omega), Below.heap_setCell _ ⟨w.heap.size + 1, 30 + k * 2, none⟩ _ _ (by show w.heap.size ≠ w.heap.size + 1; omega)]
      · exact Hs.set (Hs.set H2.out _ _ rfl) _ _ (plain_step hlt)
      · exact (H3.out.turns (Turns.set _ _ _ _) (by omega)).turns (Turns.set _ _ _ _) (by omega)
    · have hk' : ¬ (k : Int) < 4 := by omega
      obtain rfl : k = 4 := by omega
      go_wp2_with (first
        | refine wpList_loadS rfl _ rfl (w.heap.size + 1) (plainK 4) rfl (plain_full hk) H2.out ?_
        | (refine wpList_storeS rfl _ _ rfl w.heap.size zeroS (plainK 4) rfl rfl (plain_full hk) zero_full H1.out ?_; intro w2 hs2 ht2; have R2 := Lib.hid (And.intro hs2 ht2); clear hs2 ht2))
      refine bodyPost_ret (results_cell Try.results15 rfl (run_loadS R2.out.1 (plain_full hk))) rfl ?_
      exact ⟨rfl, H3.out.turns R2.out.2 (Nat.le_refl _)⟩
theorem plain_formed : formedB (plainK 4) = true := decide_eq_true (by unfold FormedP; exact ⟨by decide, by decide, by decide, by decide, by decide⟩)
theorem plain_within : withinB (plainK 4) = true := decide_eq_true (by unfold WithinP; exact ⟨by decide, by decide, by decide⟩)
theorem zero_unformed : formedB zeroS = false := decide_eq_false fun h => (h.2.2.1 0 (by omega)).1 (by decide)
end Go.Proofs.Yteplmjgohnbpbaa
