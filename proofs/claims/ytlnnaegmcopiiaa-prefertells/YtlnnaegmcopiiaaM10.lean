/- Texts of the proof, merged: EqS, EqN, NdMem. -/
import Derived.Test.YtlnnaegmcopiiaaM9
import Derived.Test.YtlnnaegmcopiiaaM3
import Derived.Test.YtlnnaegmcopiiaaM4
/- A style compared with itself; no conditions beyond those written in each theorem. -/
namespace Go.Proofs.Ytlnnaegmcopiiaa
open Go.ChangeShapes Go.WideShapes Go.ChangeAt Go.RowKit
set_option maxRecDepth 100000
theorem eq_len (d : Nat) (a b : Int) (w : World) : (Op.equalIn (d + 2) 35 (.agg #[.int .i64 a, .int .i64 b]) (.agg #[.int .i64 a, .int .i64 b])).run Try.prog w = .ok true w := by
  go_simp
theorem eq24 (d : Nat) (a0 b0 a1 b1 a2 b2 a3 b3 : Int) (w : World) : (Op.equalIn (d + 3) 36 (.agg #[.int .i64 a0, .int .i64 b0, .int .i64 a1, .int .i64 b1, .int .i64 a2, .int .i64 b2, .int .i64 a3, .int .i64 b3]) (.agg #[.int .i64 a0, .int .i64 b0, .int .i64 a1, .int .i64 b1, .int .i64 a2, .int .i64 b2, .int .i64 a3, .int .i64 b3])).run Try.prog w = .ok true w := by
  rw [Op.equalIn.eq_def]
  simp only [Sem.run_bind, run_underlying Try.underlying36, Result.andThen_ok, Try.sizeOf35]
  simp [Std.Legacy.Range.forIn_eq_forIn_range', Std.Legacy.Range.size, List.range', part, Try.isAgg35, Try.sizeOf35, Sem.run_bind, eq_len, List.extract_toArray, List.extract_eq_take_drop]
theorem eq25 (d : Nat) (a0 a1 a2 a3 : Int) (w : World) : (Op.equalIn (d + 3) 37 (.agg #[.int .i64 a0, .int .i64 a1, .int .i64 a2, .int .i64 a3]) (.agg #[.int .i64 a0, .int .i64 a1, .int .i64 a2, .int .i64 a3])).run Try.prog w = .ok true w := by
  rw [Op.equalIn.eq_def]
  simp only [Sem.run_bind, run_underlying Try.underlying37, Result.andThen_ok, Try.sizeOf2]
  simp [Std.Legacy.Range.forIn_eq_forIn_range', Std.Legacy.Range.size, List.range', part, Try.isAgg2, Try.sizeOf2, Sem.run_bind, run_equalIn_int, Try.underlying2]
set_option maxHeartbeats 4000000 in
set_option maxRecDepth 100000 in
theorem equal_style (d : Nat) (s : Sty) (hf : Full s) (w : World) : (Op.equalIn (d + 4) 39 (sv s) (sv s)).run Try.prog w = .ok true w := by
  obtain ⟨shown, pos, lens, bord, rtl, hasz, z, clip, back, line⟩ := s
  have h1 : lens.length = 18 := hf.lens
  have h2 : bord.length = 4 := hf.bord
  clear hf
  match lens, h1 with
  | [q0, q1, q2, q3, q4, q5, q6, q7, q8, q9, q10, q11, q12, q13, q14, q15, q16, q17], _ =>
    match bord, h2 with
    | [n0, n1, n2, n3], _ =>
      show (Op.equalIn (d + 4) 39 (.agg #[.bool shown, .int .i64 pos, .int .i64 q0.k, .int .i64 q0.n, .int .i64 q1.k, .int .i64 q1.n, .int .i64 q2.k, .int .i64 q2.n, .int .i64 q3.k, .int .i64 q3.n, .int .i64 q4.k, .int .i64 q4.n, .int .i64 q5.k, .int .i64 q5.n, .int .i64 q6.k, .int .i64 q6.n, .int .i64 q7.k, .int .i64 q7.n, .int .i64 q8.k, .int .i64 q8.n, .int .i64 q9.k, .int .i64 q9.n, .int .i64 q10.k, .int .i64 q10.n, .int .i64 q11.k, .int .i64 q11.n, .int .i64 q12.k, .int .i64 q12.n, .int .i64 q13.k, .int .i64 q13.n, .int .i64 q14.k, .int .i64 q14.n, .int .i64 q15.k, .int .i64 q15.n, .int .i64 q16.k, .int .i64 q16.n, .int .i64 q17.k, .int .i64 q17.n, .int .i64 n0, .int .i64 n1, .int .i64 n2, .int .i64 n3, .bool rtl, .bool hasz, .int .i64 z, .bool clip, .int .i64 back, .int .i64 line]) (.agg #[.bool shown, .int .i64 pos, .int .i64 q0.k, .int .i64 q0.n, .int .i64 q1.k, .int .i64 q1.n, .int .i64 q2.k, .int .i64 q2.n, .int .i64 q3.k, .int .i64 q3.n, .int .i64 q4.k, .int .i64 q4.n, .int .i64 q5.k, .int .i64 q5.n, .int .i64 q6.k, .int .i64 q6.n, .int .i64 q7.k, .int .i64 q7.n, .int .i64 q8.k, .int .i64 q8.n, .int .i64 q9.k, .int .i64 q9.n, .int .i64 q10.k, .int .i64 q10.n, .int .i64 q11.k, .int .i64 q11.n, .int .i64 q12.k, .int .i64 q12.n, .int .i64 q13.k, .int .i64 q13.n, .int .i64 q14.k, .int .i64 q14.n, .int .i64 q15.k, .int .i64 q15.n, .int .i64 q16.k, .int .i64 q16.n, .int .i64 q17.k, .int .i64 q17.n, .int .i64 n0, .int .i64 n1, .int .i64 n2, .int .i64 n3, .bool rtl, .bool hasz, .int .i64 z, .bool clip, .int .i64 back, .int .i64 line])).run Try.prog w = _
      rw [run_equalIn_agg w (d + 3) 39 _ _ (by kernel_rfl) (by kernel_rfl)]
      have h24 := eq24
      have h25 := eq25
      go_simp
theorem equal_self (s : Sty) (hf : Full s) (w : World) : (Op.equalIn 10000 39 (sv s) (sv s)).run Try.prog w = .ok true w := equal_style 9996 s hf w
theorem eql_self (s : Sty) (hf : Full s) (w : World) : (binOp .eql 39 (sv s) (sv s)).run Try.prog w = .ok (.bool true) w := by
  have h := equal_self s hf w
  unfold sv at h ⊢
  rw [run_eql_struct, h]; rfl
theorem neq_self (s : Sty) (hf : Full s) (w : World) : (binOp .neq 39 (sv s) (sv s)).run Try.prog w = .ok (.bool false) w := by
  have h := equal_self s hf w
  unfold sv at h ⊢
  rw [run_neq_struct, h]; rfl
theorem guard_self (o : BinOp) (x y : Operand) (s s' : Sty) (w : World) : (eqGuard o 39 x y (sv s) (sv s')).run Try.prog w = .ok () w := run_eqGuard_agg w o 39 x y _ _ Try.eqGuardType39
end Go.Proofs.Ytlnnaegmcopiiaa

/- A node compared with itself; parts of a node; no conditions beyond those written in each theorem. -/
namespace Go.Proofs.Ytlnnaegmcopiiaa
open Go.ChangeShapes Go.WideShapes Go.ChangeAt Go.RowKit
set_option maxRecDepth 100000
/-- A node as a value. -/
def nv (x : Nd) : Value := .agg (ndl x).toArray
theorem part_style (x : Nd) (w : World) : (part 39 (ndl x).toArray 0).run Try.prog w = .ok (sv x.s) w := by
  unfold part
  simp only [Sem.run_bind, Try.isAgg39, Result.andThen_ok, if_true, Try.sizeOf39, Sem.run_pure]
  have e : (ndl x).toArray.extract 0 (0 + 48) = (stl x.s).toArray := by
    rw [List.extract_toArray, List.extract_eq_take_drop, List.drop_zero]
    unfold ndl
    rw [List.take_append_of_le_length (by rw [x.full.len]; omega), List.take_of_length_le (by rw [x.full.len]; omega)]
  rw [e]; rfl
theorem part_parent (x : Nd) (w : World) : (part 3 (ndl x).toArray 48).run Try.prog w = .ok (.int .i64 x.p) w := by
  unfold part
  have e : (ndl x).toArray[48]? = some (.int .i64 x.p) := by rw [List.getElem?_toArray]; exact ndl_par x
  simp [Sem.run_bind, Try.isAgg3, e]
theorem fields51 : ((Try.prog.fieldsOf 42).toList.map fun f => (f.type, f.offset)) = [(39, 0), (3, 48)] := by kernel_rfl
theorem equal_node (x : Nd) (w : World) : (Op.equalIn 10000 42 (nv x) (nv x)).run Try.prog w = .ok true w := by
  unfold nv
  rw [run_equalIn_agg w 9999 42 _ _ (by kernel_rfl) (by kernel_rfl)]
  obtain ⟨a, b, hab, h1, h2, h3, h4⟩ : ∃ a b, (Try.prog.fieldsOf 42).toList = [a, b] ∧ a.type = 39 ∧ a.offset = 0 ∧ b.type = 3 ∧ b.offset = 48 := by
    have h := fields51
    generalize (Try.prog.fieldsOf 42).toList = fs at h
    obtain ⟨a, r, rfl, ha, hr⟩ := List.map_eq_cons_iff.1 h
    obtain ⟨b, r2, rfl, hb, hr2⟩ := List.map_eq_cons_iff.1 hr
    obtain rfl := List.map_eq_nil_iff.1 hr2
    simp at ha hb
    exact ⟨a, b, rfl, ha.1, ha.2, hb.1, hb.2⟩
  have e1 := fun w => equal_style 9995 x.s x.full w
  have e2 := fun w => run_equalIn_int (P := Try.prog) w 9998 3 .i64 .i64 x.p x.p Try.underlying3
  rw [hab]
  simp [Op.eqFields, Sem.run_bind, h1, h2, h3, h4, part_style, part_parent, e1, e2]
theorem neq_node (x : Nd) (w : World) : (binOp .neq 42 (nv x) (nv x)).run Try.prog w = .ok (.bool false) w := by
  have h := equal_node x w
  unfold nv at h ⊢
  rw [run_neq_struct, h]; rfl
theorem guard_node (o : BinOp) (x y : Operand) (s s' : Nd) (w : World) : (eqGuard o 42 x y (nv s) (nv s')).run Try.prog w = .ok () w := run_eqGuard_agg w o 42 x y _ _ Try.eqGuardType42
end Go.Proofs.Ytlnnaegmcopiiaa

/- Loads and stores of nodes; no conditions beyond those written in each theorem. -/
namespace Go.Proofs.Ytlnnaegmcopiiaa
open Go.ChangeShapes Go.WideShapes Go.ChangeAt Go.RowKit
set_option maxRecDepth 100000
theorem info51 : (Try.prog.info? 42).map (·.size) = some 49 := by kernel_rfl
/-- The cells of a node lie there. -/
def At (w : World) (b o : Nat) (x : Nd) : Prop := w.rangeAt b o (ndl x)
theorem At.seen {w w' : World} {b o : Nat} {x : Nd} (h : At w b o x) (hs : Seen w w') : At w' b o x := fun j v hj => hs.cell (h j v hj)
theorem At.sty {w : World} {b o : Nat} {x : Nd} (h : At w b o x) : w.rangeAt b o (stl x.s) := fun j v hj => by
  refine h j v ?_
  unfold ndl
  rw [List.getElem?_append_left]
  · exact hj
  · rcases Nat.lt_or_ge j (stl x.s).length with h1 | h1
    · exact h1
    · rw [List.getElem?_eq_none h1] at hj; cases hj
theorem At.par {w : World} {b o : Nat} {x : Nd} (h : At w b o x) : w.cell? ⟨b, o + 48, none⟩ = some (.int .i64 x.p) := h 48 _ (ndl_par x)
theorem NS.ats {w : World} {ad : Option Addr} {n : Nat} {l : List Nd} (h : NS w ad n l) (h0 : 0 < n) :
    ∃ b off, ad = some ⟨b, off, none⟩ ∧ ∀ i, i < n → At w b (off + i * 49) (nd l i) := by
  obtain ⟨b, off, e, hc⟩ := h.2 h0
  refine ⟨b, off, e, fun i hi j v hj => ?_⟩
  have hj' : j < 49 := by
    rcases Nat.lt_or_ge j 49 with h1 | h1
    · exact h1
    · rw [List.getElem?_eq_none (by rw [ndl_length]; exact h1)] at hj; cases hj
  rw [hc i hi j hj']
  exact hj
/-- The block X is this node. -/
def Hn (w : World) (X : Nat) (x : Nd) : Prop := w.heap[X]? = some (.cells (ndl x).toArray 42)
theorem Hn.at {w : World} {X : Nat} {x : Nd} (h : Hn w X x) : At w X 0 x := fun j v hj => by
  rw [Go.Joins.cell_of_block h]; simpa using hj
theorem Hn.lt {w : World} {X : Nat} {x : Nd} (h : Hn w X x) : X < w.heap.size := by
  rcases Nat.lt_or_ge X w.heap.size with h1 | h1
  · exact h1
  · unfold Hn at h; rw [Array.getElem?_eq_none h1] at h; cases h
theorem Hn.seen {w w' : World} {X : Nat} {x : Nd} (h : Hn w X x) (hs : Seen w w') : Hn w' X x := (hs.block X h.lt).trans h
theorem hn_new (w : World) (x : Nd) : Hn (w.alloc (.cells (ndl x).toArray 42)) w.heap.size x := World.alloc_heap_new w _
/-- The load of a whole node. -/
theorem wpList_loadN {ops : Array Oper} {rest : List Oper} {op : Oper} {a : Act} {w : World} {Q : Exit → Act → World → Prop} (hgd : op.guard = none) (x : Operand) (ho : op.op = .load 42 x) (b o : Nat) (q : Nd)
    (hx : a.eval x = .pointer (some ⟨b, o, none⟩)) (hs : At w b o q) (h : wpList Try.prog ops Q rest (a.put op.dst (nv q)) w) : wpList Try.prog ops Q (op :: rest) a w :=
  wpList_load_mid hgd 42 x ho b o hx (ndl q) _ hs Try.underlying42 rfl (by rw [ndl_length]; exact info51) h
/-- The load of its style. -/
theorem wpList_loadNS {ops : Array Oper} {rest : List Oper} {op : Oper} {a : Act} {w : World} {Q : Exit → Act → World → Prop} (hgd : op.guard = none) (x : Operand) (ho : op.op = .load 39 x) (b o : Nat) (q : Nd)
    (hx : a.eval x = .pointer (some ⟨b, o, none⟩)) (hs : At w b o q) (h : wpList Try.prog ops Q rest (a.put op.dst (sv q.s)) w) : wpList Try.prog ops Q (op :: rest) a w :=
  wpList_load_mid hgd 39 x ho b o hx (stl q.s) _ hs.sty Try.underlying39 rfl (by rw [q.full.len]; exact info27) h
/-- The same under a guard that holds. -/
theorem wpList_loadNSg {ops : Array Oper} {rest : List Oper} {op : Oper} {a : Act} {w : World} {Q : Exit → Act → World → Prop} (hw : Region.wanted op (yielded ops a.tmps) = true) (x : Operand) (ho : op.op = .load 39 x) (b o : Nat) (q : Nd)
    (hx : a.eval x = .pointer (some ⟨b, o, none⟩)) (hs : At w b o q) (h : wpList Try.prog ops Q rest (a.put op.dst (sv q.s)) w) : wpList Try.prog ops Q (op :: rest) a w := by
  refine wpList_step fun K hK => ?_
  rw [if_pos hw]
  exact wp_load_mid 39 x ho b o hx (stl q.s) _ hs.sty Try.underlying39 rfl (by rw [q.full.len]; exact info27) (hK _ _ h)
/-- A whole node stored. -/
theorem wpList_storeN {ops : Array Oper} {rest : List Oper} {op : Oper} {a : Act} {w : World} {Q : Exit → Act → World → Prop} (hgd : op.guard = none) (x y : Operand) (ho : op.op = .store 42 x y) (X : Nat) (q' q : Nd)
    (hx : a.eval x = .pointer (some ⟨X, 0, none⟩)) (hy : a.eval y = nv q) (hs : Hn w X q')
    (h : ∀ w', Hn w' X q → Turns X w w' → wpList Try.prog ops Q rest (a.put op.dst undef) w') : wpList Try.prog ops Q (op :: rest) a w := by
  refine wpList_storeC hgd 42 x y ho X 0 (ndl q) hx hy (by rw [ndl_length]; exact info51) (ndl_one q) hs (by rw [ndl_length, ndl_length]; omega) ?_ h
  have := setsL_mid [] (ndl q') [] (ndl q) (by rw [ndl_length, ndl_length])
  simpa using this
theorem zeroN_lit : (#[.bool false, .int .i64 0, .int .i64 0, .int .i64 0, .int .i64 0, .int .i64 0, .int .i64 0, .int .i64 0, .int .i64 0, .int .i64 0, .int .i64 0, .int .i64 0, .int .i64 0, .int .i64 0, .int .i64 0, .int .i64 0, .int .i64 0, .int .i64 0, .int .i64 0, .int .i64 0, .int .i64 0, .int .i64 0, .int .i64 0, .int .i64 0, .int .i64 0, .int .i64 0, .int .i64 0, .int .i64 0, .int .i64 0, .int .i64 0, .int .i64 0, .int .i64 0, .int .i64 0, .int .i64 0, .int .i64 0, .int .i64 0, .int .i64 0, .int .i64 0, .int .i64 0, .int .i64 0, .int .i64 0, .int .i64 0, .bool false, .bool false, .int .i64 0, .bool false, .int .i64 0, .int .i64 0, .int .i64 0] : Array Value) = (ndl zeroN).toArray := by kernel_rfl
/-- Behind 'x := l[k]' (a new cell, the node stored into it). -/
theorem Seen.fresh {w w1 w2 : World} {o : Obj} (h : Seen w w1) (k : Turns w1.heap.size (w1.alloc o) w2) : Seen w w2 := (h.alloc o).turns k h.size
end Go.Proofs.Ytlnnaegmcopiiaa
