/- Texts of the proof, merged: FR4m, FR5w, FR5m. -/
import Derived.Test.YtngeaigkafamiaaGreatM22
import Derived.Test.YtngeaigkafamiaaGreatM23
import Derived.Test.YtngeaigkafamiaaGreatM24
import Derived.Test.YtngeaigkafamiaaGreatM21
import Derived.Test.YtngeaigkafamiaaGreatM13
import Derived.Test.YtngeaigkafamiaaGreatM18
namespace Go.Proofs.YtngeaigkafamiaaGreat
open Go.ChangeShapes Go.WideShapes Go.ChangeAt Go.RowKit
set_option maxRecDepth 100000
theorem oneSl (a : Option Addr) (m c : Nat) : (Value.slice a m c).oneCell' = true := by cases a <;> rfl
theorem flow_split {l : List Nd} {n : Int} {t : Nat} (h : (kidB l n t && flowF l t) = true) : ∀ d, ∃ r, flowTo l n (t + 1 + d) = flowTo l n t ++ (t : Int) :: r := by
  intro d
  induction d with
  | zero => exact ⟨[], by rw [Nat.add_zero, flow_step, if_pos h]⟩
  | succ d ih =>
    obtain ⟨r, hr⟩ := ih
    rw [show t + 1 + (d + 1) = (t + 1 + d) + 1 by omega, flow_step, hr]
    exact ⟨_, by rw [List.append_assoc]; rfl⟩
theorem flowTo_skip {l : List Nd} {n : Int} {t : Nat} (h : (kidB l n t && flowF l t) = false) : flowTo l n (t + 1) = flowTo l n t := by
  rw [flow_step, h]; simp
theorem flowTo_take {l : List Nd} {n : Int} {t : Nat} (h : (kidB l n t && flowF l t) = true) : flowTo l n (t + 1) = flowTo l n t ++ [(t : Int)] := by
  rw [flow_step, h]; simp
theorem flowV_to {l : List Nd} {n : Nat} (h : n < l.length) : flowV l n = flowTo l n l.length := by unfold flowV; rw [inB_nat h]; rfl
theorem run_index22 (g o k n c : Nat) (hk : k < n) (w : World) : (Instr.indexAt 22 (.slice (some ⟨g, o, none⟩) n c) (.int .i64 k)).run Tryz.prog w = .ok (.pointer (some ⟨g, o + k * 49, none⟩)) w := by
  simp [Instr.indexAt, asIntOf, run_underlying Tryz.underlying22, Tryz.sizeOf69, add_plain]
  omega
theorem gr_turns {α : Type} {enc : α → List Value} {e : TypeId} {size base : Nat} {w w' : World} {v : Value} {l : List α} (h : GR enc e size w base v l) {X : Nat} {cs : List Value} {t : TypeId} (hX : Blk w X cs t) (ht : t ≠ e) (k : Turns X w w') : GR enc e size w' base v l :=
  ownsRow_keeps h fun gg hg => k.block gg (h.lt gg hg).2 fun ee => type_apart h hX ht (ee ▸ hg)
theorem RJ.turns {W0 : World} {XO : Nat} {w w' : World} {v : Value} {ps : List Pd} {u : Value} {chs : List Ch} {q : Value} {pl : List Int} (h : RJ W0 XO w v ps u chs q pl) {X : Nat} {cs : List Value} {t : TypeId} (hX : Blk w X cs t) (h1 : t ≠ 116) (h2 : t ≠ 48) (h3 : t ≠ 3) (hne : X ≠ XO) (hge : W0.heap.size ≤ X) (k : Turns X w w') : RJ W0 XO w' v ps u chs q pl :=
  ⟨Seen.turns h.seen k hge, h.blk.turns k (Ne.symm hne), gr_turns h.row hX h1 k, gr_turns h.ch hX h2 k, gr_turns h.pl hX h3 k⟩
structure SD (W0 : World) (XO : Nat) (w : World) (v : Value) (u : Value) (chs : List Ch) (q : Value) (pl : List Int) : Prop where
  seen : Seen W0 w
  blk : Blk w XO (layl v (.slice none 0 0) zPi 0) 55
  ch : GR chl 48 8 w W0.heap.size u chs
  pl : GR encI 3 1 w W0.heap.size q pl
section
variable {W0 : World} {XO : Nat} {w w' : World} {v : Value} {ps : List Pd} {u : Value} {chs : List Ch} {q : Value} {pl : List Int}
theorem RJ.side (h : RJ W0 XO w v ps u chs q pl) : SD W0 XO w v u chs q pl := ⟨h.seen, h.blk, h.ch, h.pl⟩
theorem SD.next (h : SD W0 XO w v u chs q pl) (hs : Seen w w') : SD W0 XO w' v u chs q pl := ⟨h.seen.trans hs, h.blk.seen hs, h.ch.seen hs, h.pl.seen hs⟩
theorem blk_grownR {X : Nat} {cs : List Value} {t : TypeId} {v2 : Value} {n2 : Nat} {xs : List Value} {base : Nat} (hb : Blk w X cs t) (ht : t ≠ 116) (hr : w.ownsRow base 116 26 v2 n2 xs) (hg : w.grownBy w' v2.ownBlock) : Blk w' X cs t :=
  (hg.block X hb.lt fun e => type_apart hr hb ht e.symm).trans hb
theorem SD.grown (h : SD W0 XO w v u chs q pl) {v2 : Value} {n2 : Nat} {xs : List Value} (hr : w.ownsRow W0.heap.size 116 26 v2 n2 xs) (hg : w.grownBy w' v2.ownBlock) : SD W0 XO w' v u chs q pl :=
  ⟨Below.grown h.seen hg h.seen.size (fun j hj => (hr.lt j hj).1), blk_grownR h.blk (by decide) hr hg,
    ownsRow_keeps h.ch fun g hg' => hg.block g (h.ch.lt g hg').2 fun e => rows_apart hr h.ch (by decide) hg' e.symm,
    ownsRow_keeps h.pl fun g hg' => hg.block g (h.pl.lt g hg').2 fun e => rows_apart hr h.pl (by decide) hg' e.symm⟩
theorem row_grownR {base : Nat} {v1 : Value} {n1 : Nat} {ys : List Value} {r : Option Nat} (h : w.ownsRow base 116 26 v1 n1 ys) (hg : w.grownBy w' r) (hne : ∀ g, v1.ownBlock = some g → r ≠ some g) : w'.ownsRow base 116 26 v1 n1 ys :=
  ownsRow_keeps h fun g hg' => hg.block g (h.lt g hg').2 fun e => hne g hg' e.symm
theorem SD.store (h : SD W0 XO w v u chs q pl) (hXO : W0.heap.size ≤ XO) {v2 : Value} {ps : List Pd} (hr : GR pdl 116 26 w W0.heap.size v2 ps) : RJ W0 XO (w.setCell ⟨XO, 0, none⟩ v2) v2 ps u chs q pl := by
  have t : Turns XO w (w.setCell ⟨XO, 0, none⟩ v2) := turns_sets w XO 0 [v2]
  exact ⟨Seen.turns h.seen t hXO, h.blk.set 0 v2, gr_turns hr h.blk (by decide) t, gr_turns h.ch h.blk (by decide) t, gr_turns h.pl h.blk (by decide) t⟩
end
theorem new_rowP (w : World) (q : Pd) (base : Nat) (hb : base ≤ w.heap.size) : (w.alloc (.cells (pdl q).toArray 116)).ownsRow base 116 26 (.slice (some ⟨w.heap.size, 0, none⟩) 1 1) 1 (pdl q) := ⟨by rw [pdl_length], .inr ⟨w.heap.size, 1, (pdl q).toArray, rfl, hb, World.alloc_heap_new w _, Nat.le_refl _, by unfold maxLen; omega, by simp [pdl_length], by rw [List.take_of_length_le (by simp [pdl_length])]⟩⟩
theorem gr_stores {base g n cap : Nat} {w : World} {ps ps' : List Pd} (hr : GR pdl 116 26 w base (.slice (some ⟨g, 0, none⟩) n cap) ps) {o : Nat} {vs : List Value} (hl : ps'.length = ps.length) (ho : o + vs.length ≤ ps.length * 26) (e : setsL (ps.flatMap pdl) o vs = ps'.flatMap pdl) :
    (∃ cs : List Value, Blk w g cs 116 ∧ o + vs.length ≤ cs.length) ∧ base ≤ g ∧ GR pdl 116 26 (w.setCells g o vs) base (.slice (some ⟨g, 0, none⟩) n cap) ps' := by
  rcases hr.2 with ⟨h1, _⟩ | ⟨g', cap', cur, h1, hb, hh, h2, h3, h4, h5⟩
  · cases h1
  · simp at h1
    obtain ⟨rfl, hn, rfl⟩ := h1
    have hB : Blk w g cur.toList 116 := by unfold Blk; simpa using hh
    refine ⟨⟨cur.toList, hB, ?_⟩, hb, ?_⟩
    · have : cur.toList.length = cap * 26 := by simpa using h4
      rw [this]
      have : ps.length * 26 ≤ cap * 26 := Nat.mul_le_mul_right 26 h2
      omega
    · have hbs := block_sets hB o vs rfl
      refine ⟨by rw [fl_len pdl_length], .inr ⟨g, cap, (setsL cur.toList o vs).toArray, by rw [hl, hn], hb, hbs, by rw [hl]; exact h2, h3, ?_, ?_⟩⟩
      · simp [setsL_length]
        simpa using h4
      · show (setsL cur.toList o vs).take (ps'.length * 26) = _
        rw [hl, setsL_take, h5, e]
theorem rp_turns' {base : Nat} {w w' : World} {v : Value} {y : List Int} {X : Nat} {cs : List Value} {t : TypeId} (h : RP w base v y) (hX : Blk w X cs t) (ht : t ≠ 2) (k : Turns X w w') : RP w' base v y :=
  ownsRow_keeps h fun gg hg => k.block gg (h.lt gg hg).2 fun e => type_apart h hX ht (e ▸ hg)
theorem run_index51 (g k n c : Nat) (hk : k < n) (w : World) : (Instr.indexAt 51 (.slice (some ⟨g, 0, none⟩) n c) (.int .i64 k)).run Tryz.prog w = .ok (.pointer (some ⟨g, k * 26, none⟩)) w := by
  simp [Instr.indexAt, asIntOf, run_underlying Tryz.underlying51, Tryz.sizeOf116, add_plain]
  omega
theorem run_index135 (g o k n c : Nat) (hk : k < n) (w : World) : (Instr.indexAt 135 (.slice (some ⟨g, o, none⟩) n c) (.int .i64 k)).run Tryz.prog w = .ok (.pointer (some ⟨g, o + k, none⟩)) w := by
  simp [Instr.indexAt, asIntOf, run_underlying Tryz.underlying135, Tryz.sizeOf3, add_plain]
  omega
theorem run_index39 (g o k n c : Nat) (hk : k < n) (w : World) : (Instr.indexAt 39 (.slice (some ⟨g, o, none⟩) n c) (.int .i64 k)).run Tryz.prog w = .ok (.pointer (some ⟨g, o + k, none⟩)) w := by
  simp [Instr.indexAt, asIntOf, run_underlying Tryz.underlying39, Tryz.sizeOf2, add_plain]
  omega
theorem wpList_loadX {ops : Array Oper} {rest : List Oper} {op : Oper} {a : Act} {w : World} {Q : Exit → Act → World → Prop} (hgd : op.guard = none) (x : Operand) (ho : op.op = .load 48 x) (X o : Nat) (c : Ch)
    (hx : a.eval x = .pointer (some ⟨X, o, none⟩)) (hr : w.rangeAt X o (chl c)) (h : wpList Tryz.prog ops Q rest (a.put op.dst (chv c)) w) : wpList Tryz.prog ops Q (op :: rest) a w :=
  wpList_load_mid hgd 48 x ho X o hx (chl c) _ hr Tryz.underlying48 rfl zz48 h
theorem flP_one (l : List Pd) : ∀ u ∈ l.flatMap pdl, u.oneCell' = true := by
  intro u hu
  obtain ⟨q, _, hq⟩ := List.mem_flatMap.1 hu
  exact pdl_one q u hq
theorem wr51 {w : World} {X o : Nat} {cs : List Value} {t : TypeId} {u : Value} (a : Option Addr) (n c : Nat) (h : Blk w X cs t) (hc : cs[o]? = some u) : (Instr.storeAt 51 (.pointer (some ⟨X, o, none⟩)) (.slice a n c)).run Tryz.prog w = .ok () (w.setCell ⟨X, o, none⟩ (.slice a n c)) := by
  have c0 : w.cell? ⟨X, o, none⟩ = some u := (h.cell o).trans hc
  have f := h.free o
  cases a <;> go_simp
end Go.Proofs.YtngeaigkafamiaaGreat
namespace Go.Proofs.YtngeaigkafamiaaGreat
open Go.ChangeShapes Go.WideShapes Go.ChangeAt Go.RowKit
set_option maxRecDepth 100000
section
variable {P : Program} {ops : Array Oper} {rest : List Oper} {o : Oper} {a : Act} {w : World} {Q : Exit → Act → World → Prop}
theorem pRun (d : Option Tmp) (v : Value) (w' : World) (hd : o.dst = d) (hw : Region.wanted o (yielded ops a.tmps) = true) (hx : (execOp a.eval o).run P w = .ok (.value v) w')
    (h : wpList P ops Q rest (a.put d v) w') : wpList P ops Q (o :: rest) a w := by
  subst hd
  refine wpList_step fun K hK => ?_
  rw [if_pos hw]
  unfold Oper.wp
  rw [hx, Oper.upon_value]
  exact hK _ _ h
theorem ZR (d : Option Tmp) (v : Value) (w' : World) (h : wpList P ops Q rest (a.put d v) w') (hd : o.dst = d := by rfl) (hw : Region.wanted o (yielded ops a.tmps) = true := by refine id ?_; kernel_rfl) (hx : (execOp a.eval o).run P w = .ok (.value v) w' := by refine id ?_; kernel_rfl) : wpList P ops Q (o :: rest) a w :=
  pRun d v w' hd hw hx h
theorem ZX (d : Option Tmp) (v : Value) (w' : World) (hx : (execOp a.eval o).run P w = .ok (.value v) w') (h : wpList P ops Q rest (a.put d v) w') (hd : o.dst = d := by rfl) (hw : Region.wanted o (yielded ops a.tmps) = true := by refine id ?_; kernel_rfl) : wpList P ops Q (o :: rest) a w :=
  pRun d v w' hd hw hx h
theorem pNo (d : Option Tmp) (hd : o.dst = d) (hw : Region.wanted o (yielded ops a.tmps) = false) (h : wpList P ops Q rest (a.put d undef) w) : wpList P ops Q (o :: rest) a w := by
  subst hd
  refine wpList_step fun K hK => ?_
  rw [if_neg (by rw [hw]; decide)]
  exact hK _ _ h
theorem pSkip (d : Option Tmp) (w' : World) (hd : o.dst = d) (hw : Region.wanted o (yielded ops a.tmps) = true) (hx : (execOp a.eval o).run P w = .ok .skip w')
    (h : wpList P ops Q rest (a.put d undef) w') : wpList P ops Q (o :: rest) a w := by
  subst hd
  refine wpList_step fun K hK => ?_
  rw [if_pos hw]
  unfold Oper.wp
  rw [hx, Oper.upon_skip]
  exact hK _ _ h
theorem pCall (d : Option Tmp) (f : FuncId) (args : Array Value) (hd : o.dst = d) (hw : Region.wanted o (yielded ops a.tmps) = true) (hx : (execOp a.eval o).run P w = .ok (.enter f args) w)
    (h : Calls P f args w fun e w' => ∃ v, e = .returned v ∧ wpList P ops Q rest (a.put d v) w') : wpList P ops Q (o :: rest) a w := by
  subst hd
  refine wpList_step fun K hK => ?_
  rw [if_pos hw]
  unfold Oper.wp
  rw [hx, Oper.upon_enter]
  refine h.mono fun e w' hh => ?_
  obtain ⟨v, rfl, hn⟩ := hh
  exact hK _ _ hn
end
section
variable {ops : Array Oper} {rest : List Oper} {o : Oper} {a : Act} {w : World} {Q : Exit → Act → World → Prop}
theorem pStore2 (X i : Nat) (n : Int) {cs : List Value} {t : TypeId} {u : Value} (hd : o.dst = none) (hw : Region.wanted o (yielded ops a.tmps) = true) (he : execOp a.eval o = toSkip (Instr.storeAt 2 (.pointer (some ⟨X, i, none⟩)) (.int .i64 n)))
    (hb : Blk w X cs t) (hc : cs[i]? = some u) (h : ∀ w', Blk w' X (cs.set i (.int .i64 n)) t → Turns X w w' → wpList Tryz.prog ops Q rest (a.put none undef) w') : wpList Tryz.prog ops Q (o :: rest) a w :=
  pSkip none _ hd hw (run_skip_by _ he (wr2 n hb hc)) (h _ (hb.set i _) (Turns.set _ _ _ _))
theorem pStoreC (ty : TypeId) (X i : Nat) (vs : List Value) {cs cs' : List Value} {t : TypeId} (hd : o.dst = none) (hw : Region.wanted o (yielded ops a.tmps) = true) (he : execOp a.eval o = toSkip (Instr.storeAt ty (.pointer (some ⟨X, i, none⟩)) (.agg vs.toArray)))
    (hi : (Tryz.prog.info? ty).map (·.size) = some vs.length) (h1 : ∀ u ∈ vs, u.oneCell' = true) (hb : Blk w X cs t) (hn : i + vs.length ≤ cs.length) (e : setsL cs i vs = cs')
    (h : ∀ w', Blk w' X cs' t → Turns X w w' → wpList Tryz.prog ops Q rest (a.put none undef) w') : wpList Tryz.prog ops Q (o :: rest) a w :=
  pSkip none _ hd hw (run_skip_by _ he (stC (vs := vs) hb hn hi h1)) (h _ (block_sets hb i vs e) (turns_sets _ _ _ _))
end
theorem run_loadFr {w : World} {X : Nat} {f : Fr} (h : Blk w X (frl f) 50) : (loadVar 50 ⟨X, 0, none⟩).run Tryz.prog w = .ok (frv f) w :=
  run_loadVar_mid w X 0 50 (frl f) _ h.range Tryz.underlying50 rfl zz50
theorem zs_four (w : World) (a b c d : Int) (t : TypeId) : ZI (w.alloc (.cells #[.int .i64 a, .int .i64 b, .int .i64 c, .int .i64 d] t)) (some ⟨w.heap.size, 0, none⟩) 4 [a, b, c, d] := by
  have k : Blk (w.alloc (.cells #[.int .i64 a, .int .i64 b, .int .i64 c, .int .i64 d] t)) w.heap.size [.int .i64 a, .int .i64 b, .int .i64 c, .int .i64 d] t := Blk.new w _ _
  refine ⟨rfl, fun _ => ⟨_, _, rfl, fun i hi => ?_⟩⟩
  rcases (show i = 0 ∨ i = 1 ∨ i = 2 ∨ i = 3 by omega) with rfl | rfl | rfl | rfl
  · exact k.cell 0
  · exact k.cell 1
  · exact k.cell 2
  · exact k.cell 3
theorem zs_pair (w : World) (a b : Int) (t : TypeId) : ZI (w.alloc (.cells #[.int .i64 a, .int .i64 b] t)) (some ⟨w.heap.size, 0, none⟩) 2 [a, b] := by
  have k : Blk (w.alloc (.cells #[.int .i64 a, .int .i64 b] t)) w.heap.size [.int .i64 a, .int .i64 b] t := Blk.new w _ _
  refine ⟨rfl, fun _ => ⟨_, _, rfl, fun i hi => ?_⟩⟩
  rcases (show i = 0 ∨ i = 1 by omega) with rfl | rfl
  · exact k.cell 0
  · exact k.cell 1
theorem sum4_any (a b c d : Int) (w : World) : Calls Tryz.prog 24 #[.slice (some ⟨w.heap.size, 0, none⟩) 4 4] (w.alloc (.cells #[.int .i64 a, .int .i64 b, .int .i64 c, .int .i64 d] 2)) fun e w' => e = .returned (.tuple #[.int .i64 (sumN [a, b, c, d]), .bool (sumB [a, b, c, d])]) ∧ Seen w w' :=
  (refSum_any _ 4 4 [a, b, c, d] _ (zs_four w a b c d 2) (by decide)).mono fun _ _ h => ⟨h.1, h.2 ▸ (Seen.refl w).alloc _⟩
theorem sum2_any (a b : Int) (w : World) : Calls Tryz.prog 24 #[.slice (some ⟨w.heap.size, 0, none⟩) 2 2] (w.alloc (.cells #[.int .i64 a, .int .i64 b] 2)) fun e w' => e = .returned (.tuple #[.int .i64 (sumN [a, b]), .bool (sumB [a, b])]) ∧ Seen w w' :=
  (refSum_any _ 2 2 [a, b] _ (zs_pair w a b 2) (by decide)).mono fun _ _ h => ⟨h.1, h.2 ▸ (Seen.refl w).alloc _⟩
theorem RInAns.form {l : List Nd} {k : Nat} {K : List Int} {c : Ct} {e : En} {W w' : World} {r : Ending} (h : RInAns l k K c e W r w') :
    Seen W w' ∧ ∃ lv yv P hi ok, r = .returned (.tuple #[layv lv yv P hi, .bool ok]) ∧ lv.oneCell' = true ∧ yv.oneCell' = true ∧
      ((contO (boxO l k) K c e = none ∧ ok = false) ∨ (∃ b a cap, contO (boxO l k) K c e = some b ∧ ok = true ∧ P = b.p ∧ hi = b.hi ∧ yv = .slice a b.p.y.length cap ∧ GR pdl 116 26 w' W.heap.size lv b.l ∧ RP w' W.heap.size yv b.p.y)) := by
  obtain ⟨hs, ⟨h1, v, yv, P, hi, o1, o2, rfl⟩ | ⟨b, v, a, cap, h1, rfl, hg, hr⟩⟩ := h
  · exact ⟨hs, v, yv, P, hi, false, rfl, o1, o2, .inl ⟨h1, rfl⟩⟩
  · obtain ⟨va, vc, rfl, -, -⟩ := hg.slice pdl_length zPd
    exact ⟨hs, _, _, b.p, b.hi, true, rfl, oneSl _ _ _, oneSl _ _ _, .inr ⟨b, a, cap, h1, rfl, rfl, rfl, rfl, hg, hr⟩⟩
end Go.Proofs.YtngeaigkafamiaaGreat
namespace Go.Proofs.YtngeaigkafamiaaGreat
open Go.ChangeShapes Go.WideShapes Go.ChangeAt Go.RowKit
set_option maxRecDepth 100000
def arR (s : Sty) (x : Int) : List Int := [(bd4 s).d, (sds (pd4 s) x).d.n, (sds (pd4 s) x).b.n, (bd4 s).b]
def bxR (s : Sty) (x : Int) (rtl : Bool) : Bx :=
  ⟨x, (sds (mg4 s) x).d, ofS (lat s.lens 4).k (lat s.lens 4).n x true, (sds (mg4 s) x).b, sumN (arR s x), rtl, ofOrV (lat s.lens 6).k (lat s.lens 6).n x true 0, ofOrV (lat s.lens 7).k (lat s.lens 7).n x true 1125899906842624⟩
def okX (s : Sty) (x : Int) (h : Sz) (rtl : Bool) : Bool :=
  knB s x h && (sumB (arR s x) && (ofB (lat s.lens 4).k (lat s.lens 4).n x true && ((ofB (lat s.lens 6).k (lat s.lens 6).n x true && ofB (lat s.lens 7).k (lat s.lens 7).n x true) && solB (bxR s x rtl))))
def enR (K : Kn) : En := ⟨!K.alone && K.top, !K.alone && (K.bot && (K.ht.own.au && decide (K.ht.lo = 0))), !K.alone && (K.bot && decide (K.ht.lo = 0))⟩
def frR (K : Kn) (o : O3) (bd : I4) (H : Int) : Fr :=
  ⟨o.l, 0, o.w, H, ⟨orV K.mg.a 0, o.r, orV K.mg.c 0, o.l⟩, ⟨K.pd.a.n, K.pd.b.n, K.pd.c.n, K.pd.d.n⟩, bd, !K.ht.own.au, zeroC⟩
theorem sum_zero5 (a b c d : Int) : sumB [a, b, 0, c, d] = sumB [a, b, c, d] ∧ sumN [a, b, 0, c, d] = sumN [a, b, c, d] := by
  have e : isum [a, b, 0, c, d] = isum [a, b, c, d] := by simp [isum]
  have f : fitsB 0 = true := by decide
  have hb : sumB [a, b, 0, c, d] = sumB [a, b, c, d] := by unfold sumB; rw [e]; simp [f]
  exact ⟨hb, by unfold sumN; rw [hb, e]⟩
theorem pads_or {s : Sty} (hs : formedB s = true) {x : Int} (hx : 0 ≤ x) : or4 (sds (pd4 s) x) = ⟨(sds (pd4 s) x).a.n, (sds (pd4 s) x).b.n, (sds (pd4 s) x).c.n, (sds (pd4 s) x).d.n⟩ := by
  obtain ⟨⟨a1, a2⟩, ⟨b1, b2⟩, ⟨c1, c2⟩, ⟨d1, d2⟩⟩ := pad_kind hs
  have ea := (side_pad (q := pd4 s) a1 a2 hx).2.2.2
  have eb := (side_pad (q := pd4 s) b1 b2 hx).2.2.2
  have ec := (side_pad (q := pd4 s) c1 c2 hx).2.2.2
  have ed := (side_pad (q := pd4 s) d1 d2 hx).2.2.2
  show (⟨orV (sideS (pd4 s) x (pd4 s).a) 0, orV (sideS (pd4 s) x (pd4 s).b) 0, orV (sideS (pd4 s) x (pd4 s).c) 0, orV (sideS (pd4 s) x (pd4 s).d) 0⟩ : I4) = _
  rw [ea, eb, ec, ed]
  rfl
theorem ar_same {s : Sty} (hs : formedB s = true) {x : Int} (hx : 0 ≤ x) (h : Sz) (rtl : Bool) : sumB (arL (fr0 s ⟨x, h, rtl⟩)) = sumB (arR s x) ∧ sumN (arL (fr0 s ⟨x, h, rtl⟩)) = sumN (arR s x) := by
  have e : arL (fr0 s ⟨x, h, rtl⟩) = [(bd4 s).d, (sds (pd4 s) x).d.n, 0, (sds (pd4 s) x).b.n, (bd4 s).b] := by
    show [(bd4 s).d, (or4 (sds (pd4 s) x)).d, 0, (or4 (sds (pd4 s) x)).b, (bd4 s).b] = _
    rw [pads_or hs hx]
  rw [e]
  exact sum_zero5 _ _ _ _
theorem in_same {s : Sty} (hs : formedB s = true) {x : Int} (hx : 0 ≤ x) (h : Sz) (rtl : Bool) : acIn s (fr0 s ⟨x, h, rtl⟩) (sds (mg4 s) x) ⟨x, h, rtl⟩ = bxR s x rtl := by
  unfold acIn bxR
  rw [(ar_same hs hx h rtl).2]
theorem ok_same {s : Sty} (hs : formedB s = true) {x : Int} (hx : 0 ≤ x) (h : Sz) (rtl : Bool) : (frB s ⟨x, h, rtl⟩ && htsB s h) = okX s x h rtl := by
  unfold frB acB acG sdB okX knB
  rw [show (⟨x, h, rtl⟩ : Ct).w = x from rfl, in_same hs hx, (ar_same hs hx h rtl).1]
  ac_rfl
theorem fr_same {s : Sty} (hs : formedB s = true) {x : Int} (hx : 0 ≤ x) {h : Sz} {rtl : Bool} (l : List Nd) (n : Nat) (he : styAt l n = s) (ho : okX s x h rtl = true) (H : Int) :
    { frF s ⟨x, h, rtl⟩ with h := H, kn := !(htsF s h).own.au } = frR (knO l n x h) (solO (bxR s x rtl)) (bd4 s) H := by
  have hf : frB s ⟨x, h, rtl⟩ = true := by
    have := ok_same hs hx h rtl
    rw [ho, Bool.and_eq_true] at this
    exact this.1
  obtain ⟨e, -⟩ := frame_is hf
  rw [show (⟨x, h, rtl⟩ : Ct).w = x from rfl, in_same hs hx] at e
  rw [e]
  subst he
  unfold frR withO fr0 knO
  simp only
  rw [pads_or hs hx]
  rfl
theorem en_same {s : Sty} (hs : formedB s = true) {x : Int} (hx : 0 ≤ x) {h : Sz} {rtl : Bool} (l : List Nd) (n : Nat) (he : styAt l n = s) (ho : okX s x h rtl = true) :
    endE (frF s ⟨x, h, rtl⟩) (htsF s h) (indB s n) = enR (knO l n x h) := by
  have hfr := fr_same hs hx l n he ho 0
  have hb : (frF s ⟨x, h, rtl⟩).bd = bd4 s := by have := congrArg Fr.bd hfr; exact this
  subst he
  have hp : (frF (styAt l n) ⟨x, h, rtl⟩).pd = ⟨(sds (pd4 (styAt l n)) x).a.n, (sds (pd4 (styAt l n)) x).b.n, (sds (pd4 (styAt l n)) x).c.n, (sds (pd4 (styAt l n)) x).d.n⟩ := by have := congrArg Fr.pd hfr; exact this
  unfold endE enR flatB knO
  rw [hb, hp]
  simp only
  generalize decide ((bd4 (styAt l n)).a = 0) = A
  generalize decide ((bd4 (styAt l n)).c = 0) = B
  generalize decide ((sds (pd4 (styAt l n)) x).a.n = 0) = C
  generalize decide ((sds (pd4 (styAt l n)) x).c.n = 0) = D
  generalize decide ((htsF (styAt l n) h).lo = 0) = L
  generalize (htsF (styAt l n) h).own.au = U
  generalize indB (styAt l n) n = I
  cases A <;> cases B <;> cases C <;> cases D <;> cases L <;> cases U <;> cases I <;> rfl
theorem box_no {l : List Nd} {n : Nat} (hs : formedB (styAt l n) = true) {x : Int} (hx : 0 ≤ x) {h : Sz} {rtl : Bool} (ho : okX (styAt l n) x h rtl = false) (k : Nat) : boxO l (k + 1) n ⟨x, h, rtl⟩ = none := by
  unfold boxO
  rw [show (⟨x, h, rtl⟩ : Ct).h = h from rfl, ok_same hs hx, ho]
  rfl
theorem box_yes {l : List Nd} {n : Nat} (hs : formedB (styAt l n) = true) {x : Int} (hx : 0 ≤ x) {h : Sz} {rtl : Bool} (ho : okX (styAt l n) x h rtl = true) (k : Nat) :
    boxO l (k + 1) n ⟨x, h, rtl⟩ = match contO (boxO l k) (flowV l n) ⟨(solO (bxR (styAt l n) x rtl)).w, innS (knO l n x h).ht, (styAt l n).rtl⟩ (enR (knO l n x h)) with
      | none => none
      | some a => if chB (frR (knO l n x h) (solO (bxR (styAt l n) x rtl)) (bd4 (styAt l n)) (outN (knO l n x h).ht a.hi)) then
          some ⟨{ frR (knO l n x h) (solO (bxR (styAt l n) x rtl)) (bd4 (styAt l n)) (outN (knO l n x h).ht a.hi) with ch := chO (frR (knO l n x h) (solO (bxR (styAt l n) x rtl)) (bd4 (styAt l n)) (outN (knO l n x h).ht a.hi)) a.p (enR (knO l n x h)) (knO l n x h).ht }, a.p, a.hi, a.l⟩
        else none := by
  have hw : (frF (styAt l n) ⟨x, h, rtl⟩).w = (solO (bxR (styAt l n) x rtl)).w := congrArg Fr.w (fr_same hs hx l n rfl ho 0)
  rw [boxO, show (⟨x, h, rtl⟩ : Ct).h = h from rfl, ok_same hs hx, ho, if_pos rfl, en_same hs hx l n rfl ho]
  have hc : ctIn (styAt l n) (frF (styAt l n) ⟨x, h, rtl⟩) (htsF (styAt l n) h) = ⟨(solO (bxR (styAt l n) x rtl)).w, innS (knO l n x h).ht, (styAt l n).rtl⟩ := by
    unfold ctIn; rw [hw]; rfl
  have hd : ∀ hi, doneF (frF (styAt l n) ⟨x, h, rtl⟩) (htsF (styAt l n) h) hi = frR (knO l n x h) (solO (bxR (styAt l n) x rtl)) (bd4 (styAt l n)) (outN (knO l n x h).ht hi) := fun hi => fr_same hs hx l n rfl ho _
  rw [hc]
  simp only [hd]
  rfl
theorem rng_box {l : List Nd} {n : Nat} (hs : formedB (styAt l n) = true) {x : Int} {h : Sz} {rtl : Bool} (hr : rngB ⟨x, h, rtl⟩ = true) (ho : okX (styAt l n) x h rtl = true) :
    rngB ⟨(solO (bxR (styAt l n) x rtl)).w, innS (knO l n x h).ht, (styAt l n).rtl⟩ = true := by
  have hx : 0 ≤ x := (rng_parts hr).1
  have hf : frB (styAt l n) ⟨x, h, rtl⟩ = true := by
    have := ok_same hs hx h rtl
    rw [ho, Bool.and_eq_true] at this
    exact this.1
  have hw : (frF (styAt l n) ⟨x, h, rtl⟩).w = (solO (bxR (styAt l n) x rtl)).w := congrArg Fr.w (fr_same hs hx l n rfl ho 0)
  have := rng_in hs hr hf
  unfold ctIn at this
  rw [hw] at this
  exact this
theorem sum_two {a b c d H : Int} (ha : 0 ≤ a) (hb : 0 ≤ b) (hc : 0 ≤ c) (hd : 0 ≤ d) (hH : 0 ≤ H) :
    sumB [a, b, H, c, d] = (sumB [a, b, c, d] && sumB [sumN [a, b, c, d], H]) ∧ (sumB [a, b, H, c, d] = true → sumN [a, b, H, c, d] = sumN [sumN [a, b, c, d], H]) := by
  cases h1 : sumB [a, b, c, d]
  · refine ⟨?_, ?_⟩
    · rw [Bool.false_and]
      cases h2 : sumB [a, b, H, c, d]
      · rfl
      · exfalso
        unfold sumB at h1 h2
        simp only [List.all_cons, List.all_nil, isum, Bool.and_eq_true, Bool.and_eq_false_iff, fitsB_iff] at h1 h2
        have : ∀ y : Int, fitsB y = false → ¬ (-1125899906842624 ≤ y ∧ y ≤ 1125899906842624) := fun y => fitsB_no
        rcases h1 with (h | h | h | h | h) | h
        · exact this _ h (by omega)
        · exact this _ h (by omega)
        · exact this _ h (by omega)
        · exact this _ h (by omega)
        · cases h
        · exact this _ h (by omega)
    · intro h2
      exfalso
      unfold sumB at h1 h2
      simp only [List.all_cons, List.all_nil, isum, Bool.and_eq_true, Bool.and_eq_false_iff, fitsB_iff] at h1 h2
      have : ∀ y : Int, fitsB y = false → ¬ (-1125899906842624 ≤ y ∧ y ≤ 1125899906842624) := fun y => fitsB_no
      rcases h1 with (h | h | h | h | h) | h
      · exact this _ h (by omega)
      · exact this _ h (by omega)
      · exact this _ h (by omega)
      · exact this _ h (by omega)
      · cases h
      · exact this _ h (by omega)
  · have e : sumN [a, b, c, d] = a + b + c + d := by unfold sumN; rw [h1, if_pos rfl]; simp only [isum]; omega
    rw [e, Bool.true_and]
    have hB : sumB [a, b, H, c, d] = sumB [a + b + c + d, H] := by
      unfold sumB at h1 ⊢
      simp only [List.all_cons, List.all_nil, isum, Bool.and_eq_true, fitsB_iff] at h1
      rw [Bool.eq_iff_iff]
      simp only [List.all_cons, List.all_nil, isum, Bool.and_eq_true, fitsB_iff, and_true]
      omega
    refine ⟨hB, fun h2 => ?_⟩
    unfold sumN
    rw [← hB, h2, if_pos rfl, if_pos rfl]
    simp only [isum]
    omega
theorem outN_pos {h : Hts} (hl : 0 ≤ h.lo) (x : Int) : 0 ≤ outN h x := by unfold outN clampI; omega
theorem end_same {l : List Nd} {n : Nat} (hs : formedB (styAt l n) = true) {x : Int} {h : Sz} {rtl : Bool} (hr : rngB ⟨x, h, rtl⟩ = true) (o : O3) (hi : Int) {B : Int → Ct → Option Bo} {c : Ct} {a : La} (hB : ∀ k b, B k c = some b → ChOK b.f.ch)
    (ha : contO B (flowV l n) c (enR (knO l n x h)) = some a) {K : Kn} (hK : knO l n x h = K) {H up : Int} (hH : outN K.ht hi = H) (hu : sumN [(bd4 (styAt l n)).a, K.pd.a.n, K.pd.c.n, (bd4 (styAt l n)).c] = up) :
    chB (frR K o (bd4 (styAt l n)) H) = (sumB [(bd4 (styAt l n)).a, K.pd.a.n, K.pd.c.n, (bd4 (styAt l n)).c] && sumB [up, H]) ∧
    (chB (frR K o (bd4 (styAt l n)) H) = true → chO (frR K o (bd4 (styAt l n)) H) a.p (enR K) K.ht = refCh K (frR K o (bd4 (styAt l n)) H) a.p (enR K).bot (sumN [up, H])) := by
  obtain ⟨hx, -, hh⟩ := rng_parts hr
  obtain ⟨⟨a1, a2⟩, ⟨b1, b2⟩, ⟨c1, c2⟩, ⟨d1, d2⟩⟩ := pad_kind hs
  have pa := (side_pad (q := pd4 (styAt l n)) a1 a2 hx).2.1
  have pc := (side_pad (q := pd4 (styAt l n)) c1 c2 hx).2.1
  obtain ⟨ba, bb, bc, bd⟩ := bord_pos hs
  have hlo : 0 ≤ (htsF (styAt l n) h).lo := ofOr_pos (size_pos hs (by decide) (by decide)) hh (Int.le_refl 0)
  subst hK
  have hHp : 0 ≤ H := by rw [← hH]; exact outN_pos hlo hi
  have pa' : 0 ≤ (knO l n x h).pd.a.n := pa
  have pc' : 0 ≤ (knO l n x h).pd.c.n := pc
  obtain ⟨s1, s2⟩ := sum_two ba pa' pc' bc hHp
  rw [hu] at s1 s2
  obtain ⟨hp, hat, hkk, hyl⟩ := cont_ok hB ha
  have hmc : fit50 (orV (knO l n x h).mg.c 0) := or_in (side_in _ _ _)
  have hem : (knO l n x h).empty = decide (a.p.y.length = 0) := by
    show decide (((flowV l n).length : Int) = 0) = _
    rw [hyl]
    exact decide_eq_decide.2 (by omega)
  refine ⟨s1, fun hc => ?_⟩
  have hthr : thrB a.p (enR (knO l n x h)) (knO l n x h).ht = refThr (knO l n x h) a.p := by
    unfold thrB refThr
    rw [hem]
    by_cases he : a.p.y.length = 0
    · have hK0 : flowV l n = [] := List.eq_nil_of_length_eq_zero (by rw [← hyl]; exact he)
      have hatt : a.p.att = (enR (knO l n x h)).top := by rw [hkk hK0]; rfl
      rw [hatt, decide_eq_true he, if_pos rfl]
      unfold enR
      simp only
      generalize (knO l n x h).alone = A
      generalize (knO l n x h).top = T
      generalize (knO l n x h).bot = Bt
      generalize decide ((knO l n x h).ht.lo = 0) = L
      generalize (knO l n x h).ht.own.au = U
      generalize decide ((knO l n x h).ht.own.n = 0) = Z
      cases A <;> cases T <;> cases Bt <;> cases L <;> cases U <;> cases Z <;> rfl
    · rw [decide_eq_false he, if_neg (by decide), Bool.and_false, Bool.or_false]
      cases hq : a.p.att
      · rw [Bool.false_and, Bool.and_false, Bool.and_false]
      · have ht := hat hq
        unfold enR at ht ⊢
        simp only at ht ⊢
        rw [Bool.and_eq_true] at ht
        obtain ⟨t1, t2⟩ := ht
        rw [t1, t2]
        generalize (knO l n x h).bot = Bt
        generalize decide ((knO l n x h).ht.lo = 0) = L
        generalize (knO l n x h).ht.own.au = U
        cases Bt <;> cases L <;> cases U <;> rfl
  have hbot : (if (enR (knO l n x h)).bot = true then joinS (ofM (orV (knO l n x h).mg.c 0)) a.p.cur else ofM (orV (knO l n x h).mg.c 0)) = (if ((enR (knO l n x h)).bot && !(knO l n x h).empty) = true then joinS (ofM (orV (knO l n x h).mg.c 0)) a.p.cur else ofM (orV (knO l n x h).mg.c 0)) := by
    cases hb : (enR (knO l n x h)).bot
    · rfl
    · rw [hem, Bool.true_and, if_pos rfl]
      by_cases he : a.p.y.length = 0
      · have hK0 : flowV l n = [] := List.eq_nil_of_length_eq_zero (by rw [← hyl]; exact he)
        have hcur : a.p.cur = zSt := by rw [hkk hK0]; rfl
        rw [decide_eq_true he, hcur, join_zero (st_of hmc)]
        rfl
      · rw [decide_eq_false he]; rfl
  unfold chO refCh
  rw [hthr]
  show (⟨_, if refThr (knO l n x h) a.p = true then _ else (if (enR (knO l n x h)).bot = true then joinS (ofM (orV (knO l n x h).mg.c 0)) a.p.cur else ofM (orV (knO l n x h).mg.c 0)), _, _, sumN [(bd4 (styAt l n)).a, (knO l n x h).pd.a.n, H, (knO l n x h).pd.c.n, (bd4 (styAt l n)).c]⟩ : Ch) = _
  rw [hbot, s2 hc]
  rfl
end Go.Proofs.YtngeaigkafamiaaGreat

