/- Loads and stores of nodes; no conditions beyond those written in each theorem. -/
import Derived.Test.YtlnnaegmcopiiaaSteps
import Derived.Test.YtlnnaegmcopiiaaEqN
namespace Go.Proofs.Ytlnnaegmcopiiaa
open Go.ChangeShapes Go.WideShapes Go.ChangeAt Go.RowKit
set_option maxRecDepth 100000
theorem info51 : (Try.prog.info? 42).map (·.size) = some 49 := by kernel_rfl
/-- The cells of a node lie there. -/
def At (w : World) (b o : Nat) (x : Nd) : Prop := w.rangeAt b o (ndl x)
theorem At.seen {w w' : World} {b o : Nat} {x : Nd} (h : At w b o x) (hs : Seen w w') : At w' b o x := fun j v hj => hs.cell (h j v hj)
theorem At.sty {w : World} {b o : Nat} {x : Nd} (h : At w b o x) : w.rangeAt b o (stl x.s) := fun j v hj => by
  refine h j v ?_
  unfold ndl
  rw [List.getElem?_append_left]
  · exact hj
  · rcases Nat.lt_or_ge j (stl x.s).length with h1 | h1
    · exact h1
    · rw [List.getElem?_eq_none h1] at hj; cases hj
theorem At.par {w : World} {b o : Nat} {x : Nd} (h : At w b o x) : w.cell? ⟨b, o + 48, none⟩ = some (.int .i64 x.p) := h 48 _ (ndl_par x)
theorem NS.ats {w : World} {ad : Option Addr} {n : Nat} {l : List Nd} (h : NS w ad n l) (h0 : 0 < n) :
    ∃ b off, ad = some ⟨b, off, none⟩ ∧ ∀ i, i < n → At w b (off + i * 49) (nd l i) := by
  obtain ⟨b, off, e, hc⟩ := h.2 h0
  refine ⟨b, off, e, fun i hi j v hj => ?_⟩
  have hj' : j < 49 := by
    rcases Nat.lt_or_ge j 49 with h1 | h1
    · exact h1
    · rw [List.getElem?_eq_none (by rw [ndl_length]; exact h1)] at hj; cases hj
  rw [hc i hi j hj']
  exact hj
/-- The block X is this node. -/
def Hn (w : World) (X : Nat) (x : Nd) : Prop := w.heap[X]? = some (.cells (ndl x).toArray 42)
theorem Hn.at {w : World} {X : Nat} {x : Nd} (h : Hn w X x) : At w X 0 x := fun j v hj => by
  rw [Go.Joins.cell_of_block h]; simpa using hj
theorem Hn.lt {w : World} {X : Nat} {x : Nd} (h : Hn w X x) : X < w.heap.size := by
  rcases Nat.lt_or_ge X w.heap.size with h1 | h1
  · exact h1
  · unfold Hn at h; rw [Array.getElem?_eq_none h1] at h; cases h
theorem Hn.seen {w w' : World} {X : Nat} {x : Nd} (h : Hn w X x) (hs : Seen w w') : Hn w' X x := (hs.block X h.lt).trans h
theorem hn_new (w : World) (x : Nd) : Hn (w.alloc (.cells (ndl x).toArray 42)) w.heap.size x := World.alloc_heap_new w _
/-- The load of a whole node. -/
theorem wpList_loadN {ops : Array Oper} {rest : List Oper} {op : Oper} {a : Act} {w : World} {Q : Exit → Act → World → Prop} (hgd : op.guard = none) (x : Operand) (ho : op.op = .load 42 x) (b o : Nat) (q : Nd)
    (hx : a.eval x = .pointer (some ⟨b, o, none⟩)) (hs : At w b o q) (h : wpList Try.prog ops Q rest (a.put op.dst (nv q)) w) : wpList Try.prog ops Q (op :: rest) a w :=
  wpList_load_mid hgd 42 x ho b o hx (ndl q) _ hs Try.underlying42 rfl (by rw [ndl_length]; exact info51) h
/-- The load of its style. -/
theorem wpList_loadNS {ops : Array Oper} {rest : List Oper} {op : Oper} {a : Act} {w : World} {Q : Exit → Act → World → Prop} (hgd : op.guard = none) (x : Operand) (ho : op.op = .load 39 x) (b o : Nat) (q : Nd)
    (hx : a.eval x = .pointer (some ⟨b, o, none⟩)) (hs : At w b o q) (h : wpList Try.prog ops Q rest (a.put op.dst (sv q.s)) w) : wpList Try.prog ops Q (op :: rest) a w :=
  wpList_load_mid hgd 39 x ho b o hx (stl q.s) _ hs.sty Try.underlying39 rfl (by rw [q.full.len]; exact info27) h
/-- The same under a guard that holds. -/
theorem wpList_loadNSg {ops : Array Oper} {rest : List Oper} {op : Oper} {a : Act} {w : World} {Q : Exit → Act → World → Prop} (hw : Region.wanted op (yielded ops a.tmps) = true) (x : Operand) (ho : op.op = .load 39 x) (b o : Nat) (q : Nd)
    (hx : a.eval x = .pointer (some ⟨b, o, none⟩)) (hs : At w b o q) (h : wpList Try.prog ops Q rest (a.put op.dst (sv q.s)) w) : wpList Try.prog ops Q (op :: rest) a w := by
  refine wpList_step fun K hK => ?_
  rw [if_pos hw]
  exact wp_load_mid 39 x ho b o hx (stl q.s) _ hs.sty Try.underlying39 rfl (by rw [q.full.len]; exact info27) (hK _ _ h)
/-- A whole node stored. -/
theorem wpList_storeN {ops : Array Oper} {rest : List Oper} {op : Oper} {a : Act} {w : World} {Q : Exit → Act → World → Prop} (hgd : op.guard = none) (x y : Operand) (ho : op.op = .store 42 x y) (X : Nat) (q' q : Nd)
    (hx : a.eval x = .pointer (some ⟨X, 0, none⟩)) (hy : a.eval y = nv q) (hs : Hn w X q')
    (h : ∀ w', Hn w' X q → Turns X w w' → wpList Try.prog ops Q rest (a.put op.dst undef) w') : wpList Try.prog ops Q (op :: rest) a w := by
  refine wpList_storeC hgd 42 x y ho X 0 (ndl q) hx hy (by rw [ndl_length]; exact info51) (ndl_one q) hs (by rw [ndl_length, ndl_length]; omega) ?_ h
  have := setsL_mid [] (ndl q') [] (ndl q) (by rw [ndl_length, ndl_length])
  simpa using this
theorem zeroN_lit : (#[.bool false, .int .i64 0, .int .i64 0, .int .i64 0, .int .i64 0, .int .i64 0, .int .i64 0, .int .i64 0, .int .i64 0, .int .i64 0, .int .i64 0, .int .i64 0, .int .i64 0, .int .i64 0, .int .i64 0, .int .i64 0, .int .i64 0, .int .i64 0, .int .i64 0, .int .i64 0, .int .i64 0, .int .i64 0, .int .i64 0, .int .i64 0, .int .i64 0, .int .i64 0, .int .i64 0, .int .i64 0, .int .i64 0, .int .i64 0, .int .i64 0, .int .i64 0, .int .i64 0, .int .i64 0, .int .i64 0, .int .i64 0, .int .i64 0, .int .i64 0, .int .i64 0, .int .i64 0, .int .i64 0, .int .i64 0, .bool false, .bool false, .int .i64 0, .bool false, .int .i64 0, .int .i64 0, .int .i64 0] : Array Value) = (ndl zeroN).toArray := by kernel_rfl
/-- Behind 'x := l[k]' (a new cell, the node stored into it). -/
theorem Seen.fresh {w w1 w2 : World} {o : Obj} (h : Seen w w1) (k : Turns w1.heap.size (w1.alloc o) w2) : Seen w w2 := (h.alloc o).turns k h.size
end Go.Proofs.Ytlnnaegmcopiiaa
