/- Nodes and slices of one node made by literals; no conditions beyond those written in each theorem. -/
import Derived.Test.YtlnnaegmcopiiaaNdMem
import Derived.Great.BuildSlice
namespace Go.Proofs.Ytlnnaegmcopiiaa
open Go.ChangeShapes Go.WideShapes Go.ChangeAt Go.RowKit
set_option maxRecDepth 100000
theorem fold_sets (vs cs : List Value) (off k : Nat) : (vs.zipIdx k).foldl (fun (a : Array Value) (p : Value × Nat) => a.setIfInBounds (off + p.2) p.1) cs.toArray = (setsL cs (off + k) vs).toArray := by
  induction vs generalizing cs k with
  | nil => rfl
  | cons v r ih =>
    rw [List.zipIdx_cons, List.foldl_cons, List.setIfInBounds_toArray, ih, setsL]
    rfl
theorem fill_cons {place : Nat → Option (Nat × Nat)} {cs cs' vs : List Value} {i off : Nat} {v : Value} {rest : List (Nat × Value)} (hp : place i = some (off, vs.length)) (hv : v.cells = vs.toArray) (hle : off + vs.length ≤ cs.length) (e : setsL cs off vs = cs') :
    Instr.fill place cs.toArray ((i, v) :: rest) = Instr.fill place cs'.toArray rest := by
  have h1 : (v.cells.size ≠ vs.length || off + v.cells.size > cs.toArray.size) = false := by
    rw [hv]; simp; omega
  have h2 : v.cells.zipIdx.foldl (fun (a : Array Value) (p : Value × Nat) => a.setIfInBounds (off + p.2) p.1) cs.toArray = cs'.toArray := by
    have h4 := fold_sets vs cs off 0
    rw [Nat.add_zero] at h4
    rw [hv, ← e, ← h4]
    simp
  have h3 : Instr.fill place cs.toArray ((i, v) :: rest) = if (v.cells.size ≠ vs.length || off + v.cells.size > cs.toArray.size) = true then none else Instr.fill place (v.cells.zipIdx.foldl (fun (a : Array Value) (p : Value × Nat) => a.setIfInBounds (off + p.2) p.1) cs.toArray) rest := by
    rw [Instr.fill, hp]
  rw [h3, h1, h2]
  rfl
theorem built51 (parts : List (Nat × Value)) : Try.prog.built 42 parts = Instr.fill ([(0, 48), (48, 1)].toArray[·]?) (ndl zeroN).toArray parts := by kernel_rfl
theorem sv_cells (s : Sty) : (sv s).cells = (stl s).toArray := rfl
theorem nv_cells (x : Nd) : (nv x).cells = (ndl x).toArray := rfl
theorem fill_par (s : Sty) (hf : Full s) (p q : Int) : Instr.fill ([(0, 48), (48, 1)].toArray[·]?) (ndl ⟨s, q, hf⟩).toArray [(1, .int .i64 p)] = some (ndl ⟨s, p, hf⟩).toArray := by
  rw [fill_cons (vs := [.int .i64 p]) (off := 48) (cs' := ndl ⟨s, p, hf⟩) rfl rfl (by rw [ndl_length]; simp)]
  · rfl
  · have := setsL_mid (stl s) [.int .i64 q] [] [.int .i64 p] rfl
    rw [hf.len] at this
    simpa [ndl] using this
theorem built_both (s : Sty) (hf : Full s) (p : Int) : Try.prog.built 42 [(0, sv s), (1, .int .i64 p)] = some (ndl ⟨s, p, hf⟩).toArray := by
  rw [built51, fill_cons (vs := stl s) (off := 0) (cs' := ndl ⟨s, 0, hf⟩) (by rw [hf.len]; rfl) rfl (by rw [ndl_length, hf.len]; omega), fill_par]
  have := setsL_mid [] (stl zeroS) [.int .i64 0] (stl s) (by rw [hf.len, zero_full.len])
  simpa [ndl, zeroN] using this
theorem built_par (p : Int) : Try.prog.built 42 [(1, .int .i64 p)] = some (ndl ⟨zeroS, p, zero_full⟩).toArray := by
  rw [built51]
  exact fill_par zeroS zero_full p 0
/-- api.Node{S: s, Parent: p}. -/
theorem wpList_buildN {ops : Array Oper} {rest : List Oper} {o : Oper} {a : Act} {w : World} {Q : Exit → Act → World → Prop} (hg : o.guard = none) (x y : Operand) (ho : o.op = .build 42 #[(0, x), (1, y)]) (s : Sty) (hf : Full s) (p : Int)
    (hx : a.eval x = sv s) (hy : a.eval y = .int .i64 p) (h : wpList Try.prog ops Q rest (a.put o.dst (nv ⟨s, p, hf⟩)) w) : wpList Try.prog ops Q (o :: rest) a w := by
  refine wpList_buildTo hg 42 _ ho _ rfl (ndl ⟨s, p, hf⟩).toArray ?_ h
  have e : ((#[(0, x), (1, y)] : Array (Nat × Operand)).map fun (i, x) => (i, a.eval x)).toList = [(0, sv s), (1, .int .i64 p)] := by
    simp [hx, hy]
  rw [e, built_both s hf]
/-- api.Node{Parent: p}. -/
theorem wpList_buildP {ops : Array Oper} {rest : List Oper} {o : Oper} {a : Act} {w : World} {Q : Exit → Act → World → Prop} (hg : o.guard = none) (y : Operand) (ho : o.op = .build 42 #[(1, y)]) (p : Int)
    (hy : a.eval y = .int .i64 p) (h : wpList Try.prog ops Q rest (a.put o.dst (nv ⟨zeroS, p, zero_full⟩)) w) : wpList Try.prog ops Q (o :: rest) a w := by
  refine wpList_buildTo hg 42 _ ho _ rfl (ndl ⟨zeroS, p, zero_full⟩).toArray ?_ h
  have e : ((#[(1, y)] : Array (Nat × Operand)).map fun (i, x) => (i, a.eval x)).toList = [(1, .int .i64 p)] := by
    simp [hy]
  rw [e, built_par]
theorem info51z : (Try.prog.info? 42).map (fun i => (i.zero, i.size, i.bytes)) = some (some (.agg (ndl zeroN).toArray), 49, 384) := by kernel_rfl
theorem row_zero : (Array.range (1 * 49)).map ((ndl zeroN).toArray[· % (ndl zeroN).toArray.size]!) = (ndl zeroN).toArray := by kernel_rfl
/-- []api.Node{x}. -/
theorem wpList_buildS1 {ops : Array Oper} {rest : List Oper} {o : Oper} {a : Act} {w : World} {Q : Exit → Act → World → Prop} (hg : o.guard = none) (x : Operand) (ho : o.op = .buildSlice 22 1 #[(0, x)]) (q : Nd)
    (hx : a.eval x = nv q) (h : wpList Try.prog ops Q rest (a.put o.dst (.slice (some ⟨w.heap.size, 0, none⟩) 1 1)) (w.alloc (.cells (ndl q).toArray 42))) : wpList Try.prog ops Q (o :: rest) a w := by
  obtain ⟨i0, hi, hz0, hz1, hz2⟩ := info_parts info51z
  refine wpList_buildSlice hg 22 42 1 _ ho (ndl q).toArray i0 _ Try.underlying22 hi hz0 (by rw [hz1]; decide) (by rw [hz1]; decide) ?_ h
  have e : ((#[(0, x)] : Array (Nat × Operand)).map fun (i, x) => (i, a.eval x)).toList = [(0, nv q)] := by simp [hx]
  rw [e, hz1]
  show Instr.fill _ ((Array.range (1 * 49)).map ((ndl zeroN).toArray[· % (ndl zeroN).toArray.size]!)) _ = _
  rw [row_zero, fill_cons (vs := ndl q) (off := 0) (cs' := ndl q) (by rw [ndl_length]) rfl (by rw [ndl_length, ndl_length]; omega)]
  · rfl
  · have := setsL_mid [] (ndl zeroN) [] (ndl q) (by rw [ndl_length, ndl_length])
    simpa using this
/-- The row that it makes. -/
theorem new_rowN (w : World) (q : Nd) (base : Nat) (hb : base ≤ w.heap.size) : (w.alloc (.cells (ndl q).toArray 42)).ownsRow base 42 49 (.slice (some ⟨w.heap.size, 0, none⟩) 1 1) 1 (flatN [q]) :=
  ⟨by rw [flatN_length]; rfl, .inr ⟨w.heap.size, 1, (ndl q).toArray, rfl, hb, World.alloc_heap_new w _, Nat.le_refl _, by unfold maxLen; omega, by simp [ndl_length], by rw [List.take_of_length_le (by simp [ndl_length])]; simp [flatN]⟩⟩
/-- What a row of nodes reads as. -/
theorem ns_of_own {w : World} {base n : Nat} {v : Value} {l : List Nd} (h : w.ownsRow base 42 49 v n (flatN l)) (hl : l.length = n) : ∃ a c, v = .slice a n c ∧ NS w a n l ∧ n ≤ c ∧ (a = none → c = 0) := by
  rcases h.2 with ⟨rfl, rfl⟩ | ⟨g, cap, cur, rfl, hb, hh, h1, h2, h3, h4⟩
  · exact ⟨none, 0, rfl, ⟨hl, fun h => absurd h (by omega)⟩, by omega, fun _ => rfl⟩
  · refine ⟨_, cap, rfl, ⟨hl, fun _ => ⟨g, 0, rfl, fun i hi j hj => ?_⟩⟩, h1, fun e => by cases e⟩
    rw [Nat.zero_add, h.cellAt (i * 49 + j) (by omega)]
    exact flatN_at l (by omega) hj
end Go.Proofs.Ytlnnaegmcopiiaa
