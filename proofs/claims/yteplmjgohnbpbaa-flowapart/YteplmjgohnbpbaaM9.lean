/- Texts of the proof, merged: EqN, NdMem, KinMem, Base. -/
import Derived.Test.YteplmjgohnbpbaaM8
import Derived.Test.YteplmjgohnbpbaaM3
import Derived.Test.YteplmjgohnbpbaaM4
import Derived.Test.YteplmjgohnbpbaaM5
import Derived.Laws.MakeOwn
import Derived.Test.YteplmjgohnbpbaaM0
import Derived.WalkKit
import Derived.ProofKit
import Derived.OpenShut
import Derived.Lib.Hide
/- A node compared with itself; parts of a node; no conditions beyond those written in each theorem. -/
namespace Go.Proofs.Yteplmjgohnbpbaa
open Go.ChangeShapes Go.WideShapes Go.ChangeAt Go.RowKit
set_option maxRecDepth 100000
/-- A node as a value. -/
def nv (x : Nd) : Value := .agg (ndl x).toArray
theorem part_style (x : Nd) (w : World) : (part 39 (ndl x).toArray 0).run Try.prog w = .ok (sv x.s) w := by
  unfold part
  simp only [Sem.run_bind, Try.isAgg39, Result.andThen_ok, if_true, Try.sizeOf39, Sem.run_pure]
  have e : (ndl x).toArray.extract 0 (0 + 48) = (stl x.s).toArray := by
    rw [List.extract_toArray, List.extract_eq_take_drop, List.drop_zero]
    unfold ndl
    rw [List.take_append_of_le_length (by rw [x.full.len]; omega), List.take_of_length_le (by rw [x.full.len]; omega)]
  rw [e]; rfl
theorem part_parent (x : Nd) (w : World) : (part 3 (ndl x).toArray 48).run Try.prog w = .ok (.int .i64 x.p) w := by
  unfold part
  have e : (ndl x).toArray[48]? = some (.int .i64 x.p) := by rw [List.getElem?_toArray]; exact ndl_par x
  simp [Sem.run_bind, Try.isAgg3, e]
theorem fields51 : ((Try.prog.fieldsOf 41).toList.map fun f => (f.type, f.offset)) = [(39, 0), (3, 48)] := by kernel_rfl
theorem equal_node (x : Nd) (w : World) : (Op.equalIn 10000 41 (nv x) (nv x)).run Try.prog w = .ok true w := by
  unfold nv
  rw [run_equalIn_agg w 9999 41 _ _ (by kernel_rfl) (by kernel_rfl)]
  obtain ⟨a, b, hab, h1, h2, h3, h4⟩ : ∃ a b, (Try.prog.fieldsOf 41).toList = [a, b] ∧ a.type = 39 ∧ a.offset = 0 ∧ b.type = 3 ∧ b.offset = 48 := by
    have h := fields51
    generalize (Try.prog.fieldsOf 41).toList = fs at h
    obtain ⟨a, r, rfl, ha, hr⟩ := List.map_eq_cons_iff.1 h
    obtain ⟨b, r2, rfl, hb, hr2⟩ := List.map_eq_cons_iff.1 hr
    obtain rfl := List.map_eq_nil_iff.1 hr2
    simp at ha hb
    exact ⟨a, b, rfl, ha.1, ha.2, hb.1, hb.2⟩
  have e1 := fun w => equal_style 9995 x.s x.full w
  have e2 := fun w => run_equalIn_int (P := Try.prog) w 9998 3 .i64 .i64 x.p x.p Try.underlying3
  rw [hab]
  simp [Op.eqFields, Sem.run_bind, h1, h2, h3, h4, part_style, part_parent, e1, e2]
theorem neq_node (x : Nd) (w : World) : (binOp .neq 41 (nv x) (nv x)).run Try.prog w = .ok (.bool false) w := by
  have h := equal_node x w
  unfold nv at h ⊢
  rw [run_neq_struct, h]; rfl
theorem guard_node (o : BinOp) (x y : Operand) (s s' : Nd) (w : World) : (eqGuard o 41 x y (nv s) (nv s')).run Try.prog w = .ok () w := run_eqGuard_agg w o 41 x y _ _ Try.eqGuardType41
end Go.Proofs.Yteplmjgohnbpbaa

/- Loads and stores of nodes; no conditions beyond those written in each theorem. -/
namespace Go.Proofs.Yteplmjgohnbpbaa
open Go.ChangeShapes Go.WideShapes Go.ChangeAt Go.RowKit
set_option maxRecDepth 100000
theorem info51 : (Try.prog.info? 41).map (·.size) = some 49 := by kernel_rfl
/-- The cells of a node lie there. -/
def At (w : World) (b o : Nat) (x : Nd) : Prop := w.rangeAt b o (ndl x)
theorem At.seen {w w' : World} {b o : Nat} {x : Nd} (h : At w b o x) (hs : Seen w w') : At w' b o x := fun j v hj => hs.cell (h j v hj)
theorem At.sty {w : World} {b o : Nat} {x : Nd} (h : At w b o x) : w.rangeAt b o (stl x.s) := fun j v hj => by
  refine h j v ?_
  unfold ndl
  rw [List.getElem?_append_left]
  · exact hj
  · rcases Nat.lt_or_ge j (stl x.s).length with h1 | h1
    · exact h1
    · rw [List.getElem?_eq_none h1] at hj; cases hj
theorem At.par {w : World} {b o : Nat} {x : Nd} (h : At w b o x) : w.cell? ⟨b, o + 48, none⟩ = some (.int .i64 x.p) := h 48 _ (ndl_par x)
theorem NS.ats {w : World} {ad : Option Addr} {n : Nat} {l : List Nd} (h : NS w ad n l) (h0 : 0 < n) :
    ∃ b off, ad = some ⟨b, off, none⟩ ∧ ∀ i, i < n → At w b (off + i * 49) (nd l i) := by
  obtain ⟨b, off, e, hc⟩ := h.2 h0
  refine ⟨b, off, e, fun i hi j v hj => ?_⟩
  have hj' : j < 49 := by
    rcases Nat.lt_or_ge j 49 with h1 | h1
    · exact h1
    · rw [List.getElem?_eq_none (by rw [ndl_length]; exact h1)] at hj; cases hj
  rw [hc i hi j hj']
  exact hj
/-- The block X is this node. -/
def Hn (w : World) (X : Nat) (x : Nd) : Prop := w.heap[X]? = some (.cells (ndl x).toArray 41)
theorem Hn.at {w : World} {X : Nat} {x : Nd} (h : Hn w X x) : At w X 0 x := fun j v hj => by
  rw [Go.Joins.cell_of_block h]; simpa using hj
theorem Hn.lt {w : World} {X : Nat} {x : Nd} (h : Hn w X x) : X < w.heap.size := by
  rcases Nat.lt_or_ge X w.heap.size with h1 | h1
  · exact h1
  · unfold Hn at h; rw [Array.getElem?_eq_none h1] at h; cases h
theorem Hn.seen {w w' : World} {X : Nat} {x : Nd} (h : Hn w X x) (hs : Seen w w') : Hn w' X x := (hs.block X h.lt).trans h
theorem hn_new (w : World) (x : Nd) : Hn (w.alloc (.cells (ndl x).toArray 41)) w.heap.size x := World.alloc_heap_new w _
/-- The load of a whole node. -/
theorem wpList_loadN {ops : Array Oper} {rest : List Oper} {op : Oper} {a : Act} {w : World} {Q : Exit → Act → World → Prop} (hgd : op.guard = none) (x : Operand) (ho : op.op = .load 41 x) (b o : Nat) (q : Nd)
    (hx : a.eval x = .pointer (some ⟨b, o, none⟩)) (hs : At w b o q) (h : wpList Try.prog ops Q rest (a.put op.dst (nv q)) w) : wpList Try.prog ops Q (op :: rest) a w :=
  wpList_load_mid hgd 41 x ho b o hx (ndl q) _ hs Try.underlying41 rfl (by rw [ndl_length]; exact info51) h
/-- The load of its style. -/
theorem wpList_loadNS {ops : Array Oper} {rest : List Oper} {op : Oper} {a : Act} {w : World} {Q : Exit → Act → World → Prop} (hgd : op.guard = none) (x : Operand) (ho : op.op = .load 39 x) (b o : Nat) (q : Nd)
    (hx : a.eval x = .pointer (some ⟨b, o, none⟩)) (hs : At w b o q) (h : wpList Try.prog ops Q rest (a.put op.dst (sv q.s)) w) : wpList Try.prog ops Q (op :: rest) a w :=
  wpList_load_mid hgd 39 x ho b o hx (stl q.s) _ hs.sty Try.underlying39 rfl (by rw [q.full.len]; exact info27) h
/-- The same under a guard that holds. -/
theorem wpList_loadNSg {ops : Array Oper} {rest : List Oper} {op : Oper} {a : Act} {w : World} {Q : Exit → Act → World → Prop} (hw : Region.wanted op (yielded ops a.tmps) = true) (x : Operand) (ho : op.op = .load 39 x) (b o : Nat) (q : Nd)
    (hx : a.eval x = .pointer (some ⟨b, o, none⟩)) (hs : At w b o q) (h : wpList Try.prog ops Q rest (a.put op.dst (sv q.s)) w) : wpList Try.prog ops Q (op :: rest) a w := by
  refine wpList_step fun K hK => ?_
  rw [if_pos hw]
  exact wp_load_mid 39 x ho b o hx (stl q.s) _ hs.sty Try.underlying39 rfl (by rw [q.full.len]; exact info27) (hK _ _ h)
/-- A whole node stored. -/
theorem wpList_storeN {ops : Array Oper} {rest : List Oper} {op : Oper} {a : Act} {w : World} {Q : Exit → Act → World → Prop} (hgd : op.guard = none) (x y : Operand) (ho : op.op = .store 41 x y) (X : Nat) (q' q : Nd)
    (hx : a.eval x = .pointer (some ⟨X, 0, none⟩)) (hy : a.eval y = nv q) (hs : Hn w X q')
    (h : ∀ w', Hn w' X q → Turns X w w' → wpList Try.prog ops Q rest (a.put op.dst undef) w') : wpList Try.prog ops Q (op :: rest) a w := by
  refine wpList_storeC hgd 41 x y ho X 0 (ndl q) hx hy (by rw [ndl_length]; exact info51) (ndl_one q) hs (by rw [ndl_length, ndl_length]; omega) ?_ h
  have := setsL_mid [] (ndl q') [] (ndl q) (by rw [ndl_length, ndl_length])
  simpa using this
theorem zeroN_lit : (#[.bool false, .int .i64 0, .int .i64 0, .int .i64 0, .int .i64 0, .int .i64 0, .int .i64 0, .int .i64 0, .int .i64 0, .int .i64 0, .int .i64 0, .int .i64 0, .int .i64 0, .int .i64 0, .int .i64 0, .int .i64 0, .int .i64 0, .int .i64 0, .int .i64 0, .int .i64 0, .int .i64 0, .int .i64 0, .int .i64 0, .int .i64 0, .int .i64 0, .int .i64 0, .int .i64 0, .int .i64 0, .int .i64 0, .int .i64 0, .int .i64 0, .int .i64 0, .int .i64 0, .int .i64 0, .int .i64 0, .int .i64 0, .int .i64 0, .int .i64 0, .int .i64 0, .int .i64 0, .int .i64 0, .int .i64 0, .bool false, .bool false, .int .i64 0, .bool false, .int .i64 0, .int .i64 0, .int .i64 0] : Array Value) = (ndl zeroN).toArray := by kernel_rfl
/-- Behind 'x := l[k]' (a new cell, the node stored into it). -/
theorem Seen.fresh {w w1 w2 : World} {o : Obj} (h : Seen w w1) (k : Turns w1.heap.size (w1.alloc o) w2) : Seen w w2 := (h.alloc o).turns k h.size
end Go.Proofs.Yteplmjgohnbpbaa

/- The memory of a Kin: rows of elements laid out flat, places, styles; contracts of Len and has; no conditions beyond those written in each theorem. -/
namespace Go.Proofs.Yteplmjgohnbpbaa
open Go.ChangeShapes Go.WideShapes Go.ChangeAt Go.RowKit
set_option maxRecDepth 100000
theorem fl_split {α : Type} {enc : α → List Value} (l : List α) {i : Nat} (hi : i < l.length) : l.flatMap enc = (l.take i).flatMap enc ++ (enc l[i] ++ (l.drop (i + 1)).flatMap enc) := by
  rw [← List.flatMap_cons, ← List.drop_eq_getElem_cons hi, ← List.flatMap_append, List.take_append_drop]
section
variable {α : Type} {enc : α → List Value} {size : Nat} (hf : ∀ q, (enc q).length = size)
include hf
theorem fl_len (l : List α) : (l.flatMap enc).length = l.length * size := by
  induction l with
  | nil => simp
  | cons a l ih => rw [List.flatMap_cons, List.length_append, hf, ih, List.length_cons, Nat.add_mul]; omega
theorem fl_at (l : List α) (z : α) {i : Nat} (hi : i < l.length) {j : Nat} (hj : j < size) : (l.flatMap enc)[i * size + j]? = (enc (l.getD i z))[j]? := by
  induction l generalizing i with
  | nil => simp at hi
  | cons a l ih =>
    rw [List.flatMap_cons]
    cases i with
    | zero => rw [List.getElem?_append_left (by rw [hf]; omega), Nat.zero_mul, Nat.zero_add]; rfl
    | succ i =>
      have e2 : (a :: l).getD (i + 1) z = l.getD i z := rfl
      rw [e2, List.getElem?_append_right (by rw [hf, Nat.add_mul]; omega), hf, show (i + 1) * size + j - size = i * size + j by rw [Nat.add_mul]; omega]
      exact ih (by simpa using hi)
theorem fl_sets (l : List α) {i : Nat} (hi : i < l.length) (x : α) : setsL (l.flatMap enc) (i * size) (enc x) = (l.set i x).flatMap enc := by
  have e : ((l.take i).flatMap enc).length = i * size := by rw [fl_len hf, List.length_take, Nat.min_eq_left (by omega)]
  rw [fl_split l hi, ← e, setsL_mid _ _ _ _ (by rw [hf, hf]), fl_split (l.set i x) (by rw [List.length_set]; exact hi)]
  rw [List.getElem_set_self, List.take_set_of_le (Nat.le_refl i), List.drop_set_of_lt (by omega)]
theorem made_flat (hpos : 0 < size) (z : α) (n : Nat) : madeCells (enc z).toArray (n * size) = ((List.replicate n z).flatMap enc).toArray := by
  have hs : (enc z).toArray.size = size := by simp [hf]
  apply Array.ext
  · rw [size_madeCells]; simp [fl_len hf]
  · intro i h1 h2
    rw [size_madeCells] at h1
    have hq : i / size < n := Nat.div_lt_of_lt_mul (by rw [Nat.mul_comm]; exact h1)
    have hm : i % size < size := Nat.mod_lt _ hpos
    have e : i = i / size * size + i % size := by rw [Nat.mul_comm]; exact (Nat.div_add_mod i size).symm
    have h3 := fl_at hf (List.replicate n z) z (i := i / size) (by simpa using hq) hm
    rw [← e] at h3
    have e2 : (List.replicate n z).getD (i / size) z = z := by rw [List.getD_eq_getElem?_getD, List.getElem?_replicate, if_pos hq]; rfl
    rw [e2] at h3
    have h4 : (enc z)[i % size]? = some ((enc z)[i % size]'(by rw [hf]; exact hm)) := List.getElem?_eq_getElem _
    rw [h4] at h3
    have h5 : ((List.replicate n z).flatMap enc).toArray[i] = (enc z)[i % size]'(by rw [hf]; exact hm) := by
      rw [List.getElem_toArray]
      rw [List.getElem?_eq_getElem (by simpa using h2)] at h3
      exact Option.some.inj h3
    rw [h5]
    simp [madeCells, hs]
    rw [h4]; rfl
theorem sl_of_block {w : World} {G : Nat} {t : TypeId} (z : α) {l : List α} (h : w.heap[G]? = some (.cells (l.flatMap enc).toArray t)) : SL enc size z w (some ⟨G, 0, none⟩) l.length l := by
  refine ⟨rfl, fun _ => ⟨G, 0, rfl, fun i hi j hj => ?_⟩⟩
  rw [Go.Joins.cell_of_block h, List.getElem?_toArray, Nat.zero_add]
  exact fl_at hf l z hi hj
end
/-- What the other nodes make of a node. -/
structure Pl where
  par : Int
  stop : Int
  deep : Int
  made : Bool
  out : Bool
def pll (p : Pl) : List Value := [.int .i64 p.par, .int .i64 p.stop, .int .i64 p.deep, .bool p.made, .bool p.out]
def plv (p : Pl) : Value := .agg (pll p).toArray
theorem pll_length (p : Pl) : (pll p).length = 5 := rfl
def zeroP : Pl := ⟨0, 0, 0, false, false⟩
def noP : Pl := ⟨-1, 0, 0, false, false⟩
/-- The place of node n, with these ends. -/
def plE (l : List Nd) (E : Nat → Nat) (n : Nat) : Pl := ⟨(nd l n).p, E n, deep l n, madeB l n, outB l n⟩
def plAt (l : List Nd) (n : Int) : Pl := if inB l n then plE l (endN l) n.toNat else noP
def styAt (l : List Nd) (n : Int) : Sty := if inB l n then (nd l n.toNat).s else zeroS
theorem styAt_full (l : List Nd) (n : Int) : Full (styAt l n) := by
  unfold styAt; split
  · exact (nd l _).full
  · exact zero_full
def stn (x : Nd) : List Value := stl x.s
theorem stn_length (x : Nd) : (stn x).length = 48 := x.full.len
def places (l : List Nd) (E : Nat → Nat) : List Pl := (List.range l.length).map (plE l E)
theorem places_length (l : List Nd) (E : Nat → Nat) : (places l E).length = l.length := by simp [places]
theorem places_at {l : List Nd} {E : Nat → Nat} {n : Nat} (h : n < l.length) : (places l E).getD n zeroP = plE l E n := by
  unfold places
  rw [List.getD_eq_getElem?_getD, List.getElem?_map, List.getElem?_range h]; rfl
/-- The Kin at the block B, its styles at G, its places at H. -/
structure KK (w : World) (B G H : Nat) (l : List Nd) (E : Nat → Nat) : Prop where
  obj : w.heap[B]? = some (.cells #[.slice (some ⟨G, 0, none⟩) l.length l.length, .slice (some ⟨H, 0, none⟩) l.length l.length] 75)
  sty : w.heap[G]? = some (.cells (l.flatMap stn).toArray 39)
  pls : w.heap[H]? = some (.cells ((places l E).flatMap pll).toArray 77)
theorem lt_of_block {w : World} {X : Nat} {o : Obj} (h : w.heap[X]? = some o) : X < w.heap.size := by
  rcases Nat.lt_or_ge X w.heap.size with h1 | h1
  · exact h1
  · rw [Array.getElem?_eq_none h1] at h; cases h
theorem KK.keeps {w w' : World} {B G H : Nat} {l : List Nd} {E : Nat → Nat} (h : KK w B G H l E) (hb : w'.heap[B]? = w.heap[B]?) (hg : w'.heap[G]? = w.heap[G]?) (hh : w'.heap[H]? = w.heap[H]?) : KK w' B G H l E :=
  ⟨hb.trans h.obj, hg.trans h.sty, hh.trans h.pls⟩
theorem KK.seen {w w' : World} {B G H : Nat} {l : List Nd} {E : Nat → Nat} (h : KK w B G H l E) (hs : Seen w w') : KK w' B G H l E :=
  h.keeps (hs.block _ (lt_of_block h.obj)) (hs.block _ (lt_of_block h.sty)) (hs.block _ (lt_of_block h.pls))
theorem KK.objs {w : World} {B G H : Nat} {l : List Nd} {E : Nat → Nat} (h : KK w B G H l E) : w.cell? ⟨B, 0, none⟩ = some (.slice (some ⟨G, 0, none⟩) l.length l.length) ∧ w.cell? ⟨B, 1, none⟩ = some (.slice (some ⟨H, 0, none⟩) l.length l.length) :=
  ⟨by rw [Go.Joins.cell_of_block h.obj]; rfl, by rw [Go.Joins.cell_of_block h.obj]; rfl⟩
theorem KK.place {w : World} {B G H : Nat} {l : List Nd} {E : Nat → Nat} (h : KK w B G H l E) {n : Nat} (hn : n < l.length) :
    w.cell? ⟨H, n * 5, none⟩ = some (.int .i64 (nd l n).p) ∧ w.cell? ⟨H, n * 5 + 1, none⟩ = some (.int .i64 (E n)) ∧ w.cell? ⟨H, n * 5 + 2, none⟩ = some (.int .i64 (deep l n)) ∧ w.cell? ⟨H, n * 5 + 3, none⟩ = some (.bool (madeB l n)) ∧ w.cell? ⟨H, n * 5 + 4, none⟩ = some (.bool (outB l n)) := by
  have key : ∀ j, j < 5 → w.cell? ⟨H, n * 5 + j, none⟩ = (pll (plE l E n))[j]? := fun j hj => by
    rw [Go.Joins.cell_of_block h.pls, List.getElem?_toArray, fl_at pll_length _ zeroP (by rw [places_length]; exact hn) hj, places_at hn]
  exact ⟨key 0 (by omega), key 1 (by omega), key 2 (by omega), key 3 (by omega), key 4 (by omega)⟩
theorem KK.style {w : World} {B G H : Nat} {l : List Nd} {E : Nat → Nat} (h : KK w B G H l E) {n : Nat} (hn : n < l.length) : w.rangeAt G (n * 48) (stl (nd l n).s) := fun j v hj => by
  have hj' : j < 48 := by
    rcases Nat.lt_or_ge j 48 with h1 | h1
    · exact h1
    · rw [List.getElem?_eq_none (by rw [(nd l n).full.len]; exact h1)] at hj; cases hj
  rw [Go.Joins.cell_of_block h.sty, List.getElem?_toArray, fl_at stn_length l zeroN hn hj']
  exact hj
/-- A Kin as a value: of a tree, or nil. -/
def KV (w : World) (v : Value) (l : List Nd) : Prop := (v = .pointer none ∧ l = []) ∨ (FormedT l ∧ l.length ≤ 65535 ∧ ∃ B G H, v = .pointer (some ⟨B, 0, none⟩) ∧ KK w B G H l (endN l))
theorem KV.seen {w w' : World} {v : Value} {l : List Nd} (h : KV w v l) (hs : Seen w w') : KV w' v l := by
  rcases h with h | ⟨h1, h2, B, G, H, e, h3⟩
  · exact .inl h
  · exact .inr ⟨h1, h2, B, G, H, e, h3.seen hs⟩
theorem KV.len {w : World} {v : Value} {l : List Nd} (h : KV w v l) : l.length ≤ 65535 := by
  rcases h with ⟨_, rfl⟩ | h
  · simp
  · exact h.2.1
theorem len_any (v : Value) (l : List Nd) (w : World) (h : KV w v l) : Calls Try.prog 60 #[v] w fun e w' => e = .returned (.int .i64 l.length) ∧ w' = w := by
  rcases h with ⟨rfl, rfl⟩ | ⟨_, _, B, G, H, rfl, hk⟩
  · go_enter Try.func60, Try.ntmps60
    go_wp2_with fail
    go_ret
    exact ⟨rfl, rfl⟩
  · obtain ⟨c0, c1⟩ := hk.objs
    clear hk
    go_enter Try.func60, Try.ntmps60
    go_wp2_with fail
    go_ret
    exact ⟨rfl, rfl⟩
theorem has_any (v : Value) (l : List Nd) (n : Int) (w : World) (h : KV w v l) : Calls Try.prog 38 #[v, .int .i64 n] w fun e w' => e = .returned (.bool (inB l n)) ∧ w' = w := by
  have HL := Lib.hid (len_any v l w h)
  clear h
  unfold inB
  by_cases h0 : 0 ≤ n
  · go_enter Try.func38, Try.ntmps38
    go_wp2_with (go_at_call 60; refine HL.out.mono ?_; clear HL; rintro e w1 ⟨rfl, rfl⟩)
    go_ret
    exact ⟨by simp [h0], rfl⟩
  · go_enter Try.func38, Try.ntmps38
    go_wp2_with fail
    go_ret
    exact ⟨by simp; omega, rfl⟩
end Go.Proofs.Yteplmjgohnbpbaa

/- Contracts of the functions of package fix, of their reference twins and of the law package's own check, over the translation of this seat; no conditions beyond those written in each theorem. -/
namespace Go.Proofs.Yteplmjgohnbpbaa
open Go.ChangeShapes Go.WideShapes Go.ChangeAt Go.RowKit
set_option maxRecDepth 100000

def fitsB (n : Int) : Bool := decide (-1125899906842624 ≤ n ∧ n ≤ 1125899906842624)

theorem fitsB_t {n : Int} (h1 : -1125899906842624 ≤ n) (h2 : n ≤ 1125899906842624) : fitsB n = true := by
  unfold fitsB; simp; omega
theorem fitsB_f {n : Int} (h : ¬ (-1125899906842624 ≤ n ∧ n ≤ 1125899906842624)) : fitsB n = false := by
  unfold fitsB; simpa using h

theorem fits_any (n : Int) (w : World) :
    Calls Try.prog 76 #[.int .i64 n] w fun e w' => e = .returned (.bool (fitsB n)) ∧ w = w' := by
  by_cases h1 : -1125899906842624 ≤ n
  · by_cases h2 : n ≤ 1125899906842624
    · have H := Lib.hid (fitsB_t h1 h2)
      go_enter Try.func76, Try.ntmps76
      go_wp2
      go_ret
      exact ⟨ret_bool H.out.symm, rfl⟩
    · have H := Lib.hid (fitsB_f (n := n) (by omega))
      go_enter Try.func76, Try.ntmps76
      go_wp2
      go_ret
      exact ⟨ret_bool H.out.symm, rfl⟩
  · have H := Lib.hid (fitsB_f (n := n) (by omega))
    go_enter Try.func76, Try.ntmps76
    go_wp2
    go_ret
    exact ⟨ret_bool H.out.symm, rfl⟩

/-- 'the lesser of n and m, or l if that is greater', as a number. -/
def clampI (n l m : Int) : Int := max (min n m) l

def halfI (n : Int) : Int := n / 2

theorem half_any (n : Int) (w : World) :
    Calls Try.prog 103 #[.int .i64 n] w fun e w' => e = .returned (.int .i64 (halfI n)) ∧ w = w' := by
  have H := Lib.hid (show halfI n = n / 2 from rfl)
  go_enter Try.func103, Try.ntmps103
  go_wp2
  go_ret
  exact ⟨ret_int (by rw [H.out]), rfl⟩

theorem tdiv2 (n : Int) (h : n < 0) : n.tdiv 2 = -((-n) / 2) := by
  have h2 : n = -(-n) := by omega
  rw [h2, Int.neg_tdiv, Int.tdiv_eq_ediv_of_nonneg (by omega)]; omega
theorem tmod2 (n : Int) (h : n < 0) : n.tmod 2 = -((-n) % 2) := by
  have h2 : n = -(-n) := by omega
  rw [h2, Int.neg_tmod, Int.tmod_eq_emod_of_nonneg (by omega)]; omega

end Go.Proofs.Yteplmjgohnbpbaa
