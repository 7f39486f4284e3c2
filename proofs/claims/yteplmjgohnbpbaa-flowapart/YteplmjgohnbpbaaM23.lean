/- Texts of the proof, merged: Build, FMem, FFr0. -/
import Derived.Test.YteplmjgohnbpbaaM9
import Derived.Great.BuildSlice
import Derived.Test.YteplmjgohnbpbaaM22
/- Nodes and slices of one node made by literals; no conditions beyond those written in each theorem. -/
namespace Go.Proofs.Yteplmjgohnbpbaa
open Go.ChangeShapes Go.WideShapes Go.ChangeAt Go.RowKit
set_option maxRecDepth 100000
theorem fold_sets (vs cs : List Value) (off k : Nat) : (vs.zipIdx k).foldl (fun (a : Array Value) (p : Value × Nat) => a.setIfInBounds (off + p.2) p.1) cs.toArray = (setsL cs (off + k) vs).toArray := by
  induction vs generalizing cs k with
  | nil => rfl
  | cons v r ih =>
    rw [List.zipIdx_cons, List.foldl_cons, List.setIfInBounds_toArray, ih, setsL]
    rfl
theorem fill_cons {place : Nat → Option (Nat × Nat)} {cs cs' vs : List Value} {i off : Nat} {v : Value} {rest : List (Nat × Value)} (hp : place i = some (off, vs.length)) (hv : v.cells = vs.toArray) (hle : off + vs.length ≤ cs.length) (e : setsL cs off vs = cs') :
    Instr.fill place cs.toArray ((i, v) :: rest) = Instr.fill place cs'.toArray rest := by
  have h1 : (v.cells.size ≠ vs.length || off + v.cells.size > cs.toArray.size) = false := by
    rw [hv]; simp; omega
  have h2 : v.cells.zipIdx.foldl (fun (a : Array Value) (p : Value × Nat) => a.setIfInBounds (off + p.2) p.1) cs.toArray = cs'.toArray := by
    have h4 := fold_sets vs cs off 0
    rw [Nat.add_zero] at h4
    rw [hv, ← e, ← h4]
    simp
  have h3 : Instr.fill place cs.toArray ((i, v) :: rest) = if (v.cells.size ≠ vs.length || off + v.cells.size > cs.toArray.size) = true then none else Instr.fill place (v.cells.zipIdx.foldl (fun (a : Array Value) (p : Value × Nat) => a.setIfInBounds (off + p.2) p.1) cs.toArray) rest := by
    rw [Instr.fill, hp]
  rw [h3, h1, h2]
  rfl
theorem built51 (parts : List (Nat × Value)) : Try.prog.built 41 parts = Instr.fill ([(0, 48), (48, 1)].toArray[·]?) (ndl zeroN).toArray parts := by kernel_rfl
theorem sv_cells (s : Sty) : (sv s).cells = (stl s).toArray := rfl
theorem nv_cells (x : Nd) : (nv x).cells = (ndl x).toArray := rfl
theorem fill_par (s : Sty) (hf : Full s) (p q : Int) : Instr.fill ([(0, 48), (48, 1)].toArray[·]?) (ndl ⟨s, q, hf⟩).toArray [(1, .int .i64 p)] = some (ndl ⟨s, p, hf⟩).toArray := by
  rw [fill_cons (vs := [.int .i64 p]) (off := 48) (cs' := ndl ⟨s, p, hf⟩) rfl rfl (by rw [ndl_length]; simp)]
  · rfl
  · have := setsL_mid (stl s) [.int .i64 q] [] [.int .i64 p] rfl
    rw [hf.len] at this
    simpa [ndl] using this
theorem built_both (s : Sty) (hf : Full s) (p : Int) : Try.prog.built 41 [(0, sv s), (1, .int .i64 p)] = some (ndl ⟨s, p, hf⟩).toArray := by
  rw [built51, fill_cons (vs := stl s) (off := 0) (cs' := ndl ⟨s, 0, hf⟩) (by rw [hf.len]; rfl) rfl (by rw [ndl_length, hf.len]; omega), fill_par]
  have := setsL_mid [] (stl zeroS) [.int .i64 0] (stl s) (by rw [hf.len, zero_full.len])
  simpa [ndl, zeroN] using this
theorem built_par (p : Int) : Try.prog.built 41 [(1, .int .i64 p)] = some (ndl ⟨zeroS, p, zero_full⟩).toArray := by
  rw [built51]
  exact fill_par zeroS zero_full p 0
/-- api.Node{S: s, Parent: p}. -/
theorem wpList_buildN {ops : Array Oper} {rest : List Oper} {o : Oper} {a : Act} {w : World} {Q : Exit → Act → World → Prop} (hg : o.guard = none) (x y : Operand) (ho : o.op = .build 41 #[(0, x), (1, y)]) (s : Sty) (hf : Full s) (p : Int)
    (hx : a.eval x = sv s) (hy : a.eval y = .int .i64 p) (h : wpList Try.prog ops Q rest (a.put o.dst (nv ⟨s, p, hf⟩)) w) : wpList Try.prog ops Q (o :: rest) a w := by
  refine wpList_buildTo hg 41 _ ho _ rfl (ndl ⟨s, p, hf⟩).toArray ?_ h
  have e : ((#[(0, x), (1, y)] : Array (Nat × Operand)).map fun (i, x) => (i, a.eval x)).toList = [(0, sv s), (1, .int .i64 p)] := by
    simp [hx, hy]
  rw [e, built_both s hf]
/-- api.Node{Parent: p}. -/
theorem wpList_buildP {ops : Array Oper} {rest : List Oper} {o : Oper} {a : Act} {w : World} {Q : Exit → Act → World → Prop} (hg : o.guard = none) (y : Operand) (ho : o.op = .build 41 #[(1, y)]) (p : Int)
    (hy : a.eval y = .int .i64 p) (h : wpList Try.prog ops Q rest (a.put o.dst (nv ⟨zeroS, p, zero_full⟩)) w) : wpList Try.prog ops Q (o :: rest) a w := by
  refine wpList_buildTo hg 41 _ ho _ rfl (ndl ⟨zeroS, p, zero_full⟩).toArray ?_ h
  have e : ((#[(1, y)] : Array (Nat × Operand)).map fun (i, x) => (i, a.eval x)).toList = [(1, .int .i64 p)] := by
    simp [hy]
  rw [e, built_par]
theorem info51z : (Try.prog.info? 41).map (fun i => (i.zero, i.size, i.bytes)) = some (some (.agg (ndl zeroN).toArray), 49, 384) := by kernel_rfl
theorem row_zero : (Array.range (1 * 49)).map ((ndl zeroN).toArray[· % (ndl zeroN).toArray.size]!) = (ndl zeroN).toArray := by kernel_rfl
/-- []api.Node{x}. -/
theorem wpList_buildS1 {ops : Array Oper} {rest : List Oper} {o : Oper} {a : Act} {w : World} {Q : Exit → Act → World → Prop} (hg : o.guard = none) (x : Operand) (ho : o.op = .buildSlice 22 1 #[(0, x)]) (q : Nd)
    (hx : a.eval x = nv q) (h : wpList Try.prog ops Q rest (a.put o.dst (.slice (some ⟨w.heap.size, 0, none⟩) 1 1)) (w.alloc (.cells (ndl q).toArray 41))) : wpList Try.prog ops Q (o :: rest) a w := by
  obtain ⟨i0, hi, hz0, hz1, hz2⟩ := info_parts info51z
  refine wpList_buildSlice hg 22 41 1 _ ho (ndl q).toArray i0 _ Try.underlying22 hi hz0 (by rw [hz1]; decide) (by rw [hz1]; decide) ?_ h
  have e : ((#[(0, x)] : Array (Nat × Operand)).map fun (i, x) => (i, a.eval x)).toList = [(0, nv q)] := by simp [hx]
  rw [e, hz1]
  show Instr.fill _ ((Array.range (1 * 49)).map ((ndl zeroN).toArray[· % (ndl zeroN).toArray.size]!)) _ = _
  rw [row_zero, fill_cons (vs := ndl q) (off := 0) (cs' := ndl q) (by rw [ndl_length]) rfl (by rw [ndl_length, ndl_length]; omega)]
  · rfl
  · have := setsL_mid [] (ndl zeroN) [] (ndl q) (by rw [ndl_length, ndl_length])
    simpa using this
/-- The row that it makes. -/
theorem new_rowN (w : World) (q : Nd) (base : Nat) (hb : base ≤ w.heap.size) : (w.alloc (.cells (ndl q).toArray 41)).ownsRow base 41 49 (.slice (some ⟨w.heap.size, 0, none⟩) 1 1) 1 (flatN [q]) :=
  ⟨by rw [flatN_length]; rfl, .inr ⟨w.heap.size, 1, (ndl q).toArray, rfl, hb, World.alloc_heap_new w _, Nat.le_refl _, by unfold maxLen; omega, by simp [ndl_length], by rw [List.take_of_length_le (by simp [ndl_length])]; simp [flatN]⟩⟩
/-- What a row of nodes reads as. -/
theorem ns_of_own {w : World} {base n : Nat} {v : Value} {l : List Nd} (h : w.ownsRow base 41 49 v n (flatN l)) (hl : l.length = n) : ∃ a c, v = .slice a n c ∧ NS w a n l ∧ n ≤ c ∧ (a = none → c = 0) := by
  rcases h.2 with ⟨rfl, rfl⟩ | ⟨g, cap, cur, rfl, hb, hh, h1, h2, h3, h4⟩
  · exact ⟨none, 0, rfl, ⟨hl, fun h => absurd h (by omega)⟩, by omega, fun _ => rfl⟩
  · refine ⟨_, cap, rfl, ⟨hl, fun _ => ⟨g, 0, rfl, fun i hi j hj => ?_⟩⟩, h1, fun e => by cases e⟩
    rw [Nat.zero_add, h.cellAt (i * 49 + j) (by omega)]
    exact flatN_at l (by omega) hj
end Go.Proofs.Yteplmjgohnbpbaa

/- Frames in memory: loads, stores, literals, results; no conditions beyond those written in each theorem. -/
namespace Go.Proofs.Yteplmjgohnbpbaa
open Go.ChangeShapes Go.WideShapes Go.ChangeAt Go.RowKit
set_option maxRecDepth 100000
theorem infoL : (Try.prog.info? 53).map (·.size) = some 9 := by kernel_rfl
theorem infoP : (Try.prog.info? 61).map (·.size) = some 26 := by kernel_rfl
theorem sets_all (l m : List Value) (h : l.length = m.length) : setsL l 0 m = m := by
  have := setsL_mid [] l [] m h
  simpa using this
theorem seen_set {w w' : World} {B o : Nat} {v : Value} (h : Seen w w') (hB : w.heap.size ≤ B) : Seen w (w'.setCell ⟨B, o, none⟩ v) := Below.setCell h hB v
theorem Blk.turns {w w' : World} {X B : Nat} {l : List Value} {t : TypeId} (h : Blk w B l t) (k : Turns X w w') (hne : B ≠ X) : Blk w' B l t := (k.block B h.lt hne).trans h
/-- A whole frame stored. -/
theorem wpList_storeF {ops : Array Oper} {rest : List Oper} {op : Oper} {a : Act} {w : World} {Q : Exit → Act → World → Prop} (hgd : op.guard = none) (x y : Operand) (ho : op.op = .store 47 x y) (X : Nat) (f' f : Fr)
    (hx : a.eval x = .pointer (some ⟨X, 0, none⟩)) (hy : a.eval y = frv f) (hb : Blk w X (frl f') 47)
    (h : ∀ w', Blk w' X (frl f) 47 → Turns X w w' → wpList Try.prog ops Q rest (a.put op.dst undef) w') : wpList Try.prog ops Q (op :: rest) a w :=
  wpList_storeC hgd 47 x y ho X 0 (frl f) hx hy infoF (frl_one f) hb (Nat.le_refl _) (sets_all _ _ rfl) h
theorem frv_zero : frv zFr = .agg #[.int .i64 0, .int .i64 0, .int .i64 0, .int .i64 0, .int .i64 0, .int .i64 0, .int .i64 0, .int .i64 0, .int .i64 0, .int .i64 0, .int .i64 0, .int .i64 0, .int .i64 0, .int .i64 0, .int .i64 0, .int .i64 0, .bool false, .int .i64 0, .int .i64 0, .int .i64 0, .int .i64 0, .int .i64 0, .int .i64 0, .bool false, .int .i64 0] := rfl
theorem built_bd (a b c d : Int) : Try.prog.built 47 [(6, .agg #[.int .i64 a, .int .i64 b, .int .i64 c, .int .i64 d])] = some (frl ⟨0, 0, 0, 0, zI4, zI4, ⟨a, b, c, d⟩, false, zeroC⟩).toArray := by kernel_rfl
theorem built_zF : Try.prog.built 47 [] = some (frl zFr).toArray := by kernel_rfl
/-- Frame{}. -/
theorem wpList_buildF0 {ops : Array Oper} {rest : List Oper} {o : Oper} {a : Act} {w : World} {Q : Exit → Act → World → Prop} (hg : o.guard = none) (ho : o.op = .build 47 #[])
    (h : wpList Try.prog ops Q rest (a.put o.dst (frv zFr)) w) : wpList Try.prog ops Q (o :: rest) a w := by
  refine wpList_buildTo hg 47 _ ho _ rfl (frl zFr).toArray ?_ h
  have e : ((#[] : Array (Nat × Operand)).map fun (i, x) => (i, a.eval x)).toList = [] := by simp
  rw [e]
  exact built_zF
/-- Frame{Border: x}. -/
theorem wpList_buildFb {ops : Array Oper} {rest : List Oper} {o : Oper} {a : Act} {w : World} {Q : Exit → Act → World → Prop} (hg : o.guard = none) (x : Operand) (ho : o.op = .build 47 #[(6, x)]) (q : I4)
    (hx : a.eval x = .agg #[.int .i64 q.a, .int .i64 q.b, .int .i64 q.c, .int .i64 q.d]) (h : wpList Try.prog ops Q rest (a.put o.dst (frv ⟨0, 0, 0, 0, zI4, zI4, q, false, zeroC⟩)) w) : wpList Try.prog ops Q (o :: rest) a w := by
  refine wpList_buildTo hg 47 _ ho _ rfl (frl ⟨0, 0, 0, 0, zI4, zI4, q, false, zeroC⟩).toArray ?_ h
  have e : ((#[(6, x)] : Array (Nat × Operand)).map fun (i, x) => (i, a.eval x)).toList = [(6, .agg #[.int .i64 q.a, .int .i64 q.b, .int .i64 q.c, .int .i64 q.d])] := by simp [hx]
  rw [e]
  exact built_bd q.a q.b q.c q.d
theorem blk_zero (w : World) : Blk (w.alloc (.cells #[.int .i64 0, .int .i64 0, .int .i64 0, .int .i64 0, .int .i64 0, .int .i64 0, .int .i64 0, .int .i64 0, .int .i64 0, .int .i64 0, .int .i64 0, .int .i64 0, .int .i64 0, .int .i64 0, .int .i64 0, .int .i64 0, .bool false, .int .i64 0, .int .i64 0, .int .i64 0, .int .i64 0, .int .i64 0, .int .i64 0, .bool false, .int .i64 0] 47)) w.heap.size (frl zFr) 47 := Blk.new w (frl zFr) 47
theorem run_loadF {w : World} {X : Nat} {f : Fr} (h : Blk w X (frl f) 47) : (loadVar 47 ⟨X, 0, none⟩).run Try.prog w = .ok (frv f) w :=
  run_loadVar_mid w X 0 47 (frl f) _ h.range Try.underlying47 rfl infoF
theorem run_loadLay {w : World} {X : Nat} {lv yv : Value} {p : Pi} {hi : Int} (h : Blk w X (layl lv yv p hi) 53) : (loadVar 53 ⟨X, 0, none⟩).run Try.prog w = .ok (layv lv yv p hi) w :=
  run_loadVar_mid w X 0 53 (layl lv yv p hi) _ h.range Try.underlying53 rfl infoL
/-- Two results, the first of them in a cell. -/
theorem results_two {fn : Func} {tmps : Array Value} {k j : Nat} {t : TypeId} {w : World} {X : Addr} {v u : Value} (hr : fn.results = #[.cell k t, .tmp j]) (hp : tmps.getD k undef = .pointer (some X)) (hu : tmps.getD j undef = u) (hl : (loadVar t X).run Try.prog w = .ok v w) :
    (results fn tmps).run Try.prog w = .ok (.tuple #[v, u]) w := by
  have hp' : tmps[k]?.getD undef = .pointer (some X) := by simpa using hp
  have hu' : tmps[j]?.getD undef = u := by simpa using hu
  simp [results, hr, asAddr, hp', hu', hl]
/-- Three results, the first two of them in cells. -/
theorem results_three {fn : Func} {tmps : Array Value} {k k' j : Nat} {t t' : TypeId} {w : World} {X X' : Addr} {v v' u : Value} (hr : fn.results = #[.cell k t, .cell k' t', .tmp j]) (hp : tmps.getD k undef = .pointer (some X)) (hp2 : tmps.getD k' undef = .pointer (some X')) (hu : tmps.getD j undef = u) (hl : (loadVar t X).run Try.prog w = .ok v w) (hl2 : (loadVar t' X').run Try.prog w = .ok v' w) :
    (results fn tmps).run Try.prog w = .ok (.tuple #[v, v', u]) w := by
  have hp' : tmps[k]?.getD undef = .pointer (some X) := by simpa using hp
  have hp2' : tmps[k']?.getD undef = .pointer (some X') := by simpa using hp2
  have hu' : tmps[j]?.getD undef = u := by simpa using hu
  simp [results, hr, asAddr, hp', hp2', hu', hl, hl2]
theorem ldc2 {w : World} {a : Addr} {v : Value} (h : w.cell? a = some v) : (Instr.loadAt 2 (.pointer (some a))).run Try.prog w = .ok v w := by
  simp [Instr.loadAt, Instr.sureAddr, loadVar, Try.isAgg2, h]
theorem ldc3 {w : World} {a : Addr} {v : Value} (h : w.cell? a = some v) : (Instr.loadAt 3 (.pointer (some a))).run Try.prog w = .ok v w := by
  simp [Instr.loadAt, Instr.sureAddr, loadVar, Try.isAgg3, h]
theorem ldc4 {w : World} {a : Addr} {v : Value} (h : w.cell? a = some v) : (Instr.loadAt 4 (.pointer (some a))).run Try.prog w = .ok v w := by
  simp [Instr.loadAt, Instr.sureAddr, loadVar, Try.isAgg4, h]
theorem ldc27 {w : World} {a : Addr} {v : Value} (h : w.cell? a = some v) : (Instr.loadAt 27 (.pointer (some a))).run Try.prog w = .ok v w := by
  simp [Instr.loadAt, Instr.sureAddr, loadVar, Try.isAgg27, h]
theorem ldc48 {w : World} {a : Addr} {v : Value} (h : w.cell? a = some v) : (Instr.loadAt 48 (.pointer (some a))).run Try.prog w = .ok v w := by
  simp [Instr.loadAt, Instr.sureAddr, loadVar, Try.isAgg48, h]
theorem ldc49 {w : World} {a : Addr} {v : Value} (h : w.cell? a = some v) : (Instr.loadAt 49 (.pointer (some a))).run Try.prog w = .ok v w := by
  simp [Instr.loadAt, Instr.sureAddr, loadVar, Try.isAgg49, h]
theorem sz24 : (Try.prog.info? 24).map (·.size) = some 2 := by kernel_rfl
theorem lda24 {w : World} {X o : Nat} {vs : List Value} (h : w.rangeAt X o vs) (hl : vs.length = 2) : (Instr.loadAt 24 (.pointer (some ⟨X, o, none⟩))).run Try.prog w = .ok (.agg vs.toArray) w :=
  run_loadAt_mid w X o 24 vs _ h Try.underlying24 rfl (by rw [hl]; exact sz24)
theorem sz43 : (Try.prog.info? 43).map (·.size) = some 2 := by kernel_rfl
theorem lda43 {w : World} {X o : Nat} {vs : List Value} (h : w.rangeAt X o vs) (hl : vs.length = 2) : (Instr.loadAt 43 (.pointer (some ⟨X, o, none⟩))).run Try.prog w = .ok (.agg vs.toArray) w :=
  run_loadAt_mid w X o 43 vs _ h Try.underlying43 rfl (by rw [hl]; exact sz43)
theorem sz51 : (Try.prog.info? 51).map (·.size) = some 7 := by kernel_rfl
theorem lda51 {w : World} {X o : Nat} {vs : List Value} (h : w.rangeAt X o vs) (hl : vs.length = 7) : (Instr.loadAt 51 (.pointer (some ⟨X, o, none⟩))).run Try.prog w = .ok (.agg vs.toArray) w :=
  run_loadAt_mid w X o 51 vs _ h Try.underlying51 rfl (by rw [hl]; exact sz51)
theorem sz94 : (Try.prog.info? 94).map (·.size) = some 3 := by kernel_rfl
theorem lda94 {w : World} {X o : Nat} {vs : List Value} (h : w.rangeAt X o vs) (hl : vs.length = 3) : (Instr.loadAt 94 (.pointer (some ⟨X, o, none⟩))).run Try.prog w = .ok (.agg vs.toArray) w :=
  run_loadAt_mid w X o 94 vs _ h Try.underlying94 rfl (by rw [hl]; exact sz94)
theorem sz103 : (Try.prog.info? 103).map (·.size) = some 4 := by kernel_rfl
theorem lda103 {w : World} {X o : Nat} {vs : List Value} (h : w.rangeAt X o vs) (hl : vs.length = 4) : (Instr.loadAt 103 (.pointer (some ⟨X, o, none⟩))).run Try.prog w = .ok (.agg vs.toArray) w :=
  run_loadAt_mid w X o 103 vs _ h Try.underlying103 rfl (by rw [hl]; exact sz103)
theorem sz45 : (Try.prog.info? 45).map (·.size) = some 8 := by kernel_rfl
theorem lda45 {w : World} {X o : Nat} {vs : List Value} (h : w.rangeAt X o vs) (hl : vs.length = 8) : (Instr.loadAt 45 (.pointer (some ⟨X, o, none⟩))).run Try.prog w = .ok (.agg vs.toArray) w :=
  run_loadAt_mid w X o 45 vs _ h Try.underlying45 rfl (by rw [hl]; exact sz45)
theorem sz81 : (Try.prog.info? 81).map (·.size) = some 4 := by kernel_rfl
theorem lda81 {w : World} {X o : Nat} {vs : List Value} (h : w.rangeAt X o vs) (hl : vs.length = 4) : (Instr.loadAt 81 (.pointer (some ⟨X, o, none⟩))).run Try.prog w = .ok (.agg vs.toArray) w :=
  run_loadAt_mid w X o 81 vs _ h Try.underlying81 rfl (by rw [hl]; exact sz81)
theorem sz47 : (Try.prog.info? 47).map (·.size) = some 25 := by kernel_rfl
theorem lda47 {w : World} {X o : Nat} {vs : List Value} (h : w.rangeAt X o vs) (hl : vs.length = 25) : (Instr.loadAt 47 (.pointer (some ⟨X, o, none⟩))).run Try.prog w = .ok (.agg vs.toArray) w :=
  run_loadAt_mid w X o 47 vs _ h Try.underlying47 rfl (by rw [hl]; exact sz47)
theorem sz53 : (Try.prog.info? 53).map (·.size) = some 9 := by kernel_rfl
theorem lda53 {w : World} {X o : Nat} {vs : List Value} (h : w.rangeAt X o vs) (hl : vs.length = 9) : (Instr.loadAt 53 (.pointer (some ⟨X, o, none⟩))).run Try.prog w = .ok (.agg vs.toArray) w :=
  run_loadAt_mid w X o 53 vs _ h Try.underlying53 rfl (by rw [hl]; exact sz53)
theorem Blk.mid {w : World} {X : Nat} {cs : List Value} {t : TypeId} (h : Blk w X cs t) (o n : Nat) : w.rangeAt X o ((cs.drop o).take n) := fun j v hj => by
  have hjn : j < n := by
    rcases Nat.lt_or_ge j n with h1 | h1
    · exact h1
    · rw [List.getElem?_eq_none (by simp; omega)] at hj; cases hj
  rw [List.getElem?_take_of_lt hjn, List.getElem?_drop] at hj
  rw [h.cell]
  exact hj
theorem st2 {w : World} {X o : Nat} {cs : List Value} {t : TypeId} {u : Value} (n : Int) (h : Blk w X cs t) (hc : cs[o]? = some u) : (Instr.storeAt 2 (.pointer (some ⟨X, o, none⟩)) (.int .i64 n)).run Try.prog w = .ok () (w.setCell ⟨X, o, none⟩ (.int .i64 n)) := by
  have c : w.cell? ⟨X, o, none⟩ = some u := (h.cell o).trans hc
  have f := h.free o
  go_simp
theorem st4 {w : World} {X o : Nat} {cs : List Value} {t : TypeId} {u : Value} (b : Bool) (h : Blk w X cs t) (hc : cs[o]? = some u) : (Instr.storeAt 4 (.pointer (some ⟨X, o, none⟩)) (.bool b)).run Try.prog w = .ok () (w.setCell ⟨X, o, none⟩ (.bool b)) := by
  have c : w.cell? ⟨X, o, none⟩ = some u := (h.cell o).trans hc
  have f := h.free o
  go_simp
/-- Cells stored into a block that is known whole. -/
theorem stC {w : World} {X o : Nat} {ty t : TypeId} {vs cs : List Value} (hb : Blk w X cs t) (hn : o + vs.length ≤ cs.length) (hi : (Try.prog.info? ty).map (·.size) = some vs.length) (h1 : ∀ u ∈ vs, u.oneCell' = true) :
    (Instr.storeAt ty (.pointer (some ⟨X, o, none⟩)) (.agg vs.toArray)).run Try.prog w = .ok () (w.setCells X o vs) := by
  have := run_storeAt_mid (P := Try.prog) w X o ty vs.toArray (by simpa using there_block hb hn) (by simpa using hi) (all_oneCell_toArray h1)
  simpa using this
end Go.Proofs.Yteplmjgohnbpbaa

/- What frameOf lays down, cells of a style; no conditions beyond those written in each theorem. -/
namespace Go.Proofs.Yteplmjgohnbpbaa
open Go.ChangeShapes Go.WideShapes Go.ChangeAt Go.RowKit
set_option maxRecDepth 100000
/-- What the loop over the four sides has laid down when it comes to number k. -/
def frK (m p : S4) (b : I4) (k : Int) : Fr :=
  ⟨0, 0, 0, 0, ⟨if 0 < k then orV m.a 0 else 0, if 1 < k then orV m.b 0 else 0, if 2 < k then orV m.c 0 else 0, if 3 < k then orV m.d 0 else 0⟩,
   ⟨if 0 < k then orV p.a 0 else 0, if 1 < k then orV p.b 0 else 0, if 2 < k then orV p.c 0 else 0, if 3 < k then orV p.d 0 else 0⟩, b, false, zeroC⟩
theorem frK_0 (m p : S4) (b : I4) : frK m p b 0 = ⟨0, 0, 0, 0, zI4, zI4, b, false, zeroC⟩ := rfl
theorem frK_4 (m p : S4) (b : I4) : frK m p b 4 = ⟨0, 0, 0, 0, or4 m, or4 p, b, false, zeroC⟩ := rfl
theorem frK_1 (m p : S4) (b : I4) : ((frl (frK m p b 0)).set 4 (.int .i64 (orV m.a 0))).set 8 (.int .i64 (orV p.a 0)) = frl (frK m p b 1) := rfl
theorem frK_2 (m p : S4) (b : I4) : ((frl (frK m p b 1)).set 5 (.int .i64 (orV m.b 0))).set 9 (.int .i64 (orV p.b 0)) = frl (frK m p b 2) := rfl
theorem frK_3 (m p : S4) (b : I4) : ((frl (frK m p b 2)).set 6 (.int .i64 (orV m.c 0))).set 10 (.int .i64 (orV p.c 0)) = frl (frK m p b 3) := rfl
theorem frK_4' (m p : S4) (b : I4) : ((frl (frK m p b 3)).set 7 (.int .i64 (orV m.d 0))).set 11 (.int .i64 (orV p.d 0)) = frl (frK m p b 4) := rfl
theorem withO_set (f : Fr) (o : O3) : ((((frl f).set 0 (.int .i64 o.l)).set 2 (.int .i64 o.w)).set 7 (.int .i64 o.l)).set 5 (.int .i64 o.r) = frl (withO f o) := rfl
/-- Frames as they lie, under one name. -/
def Fb (w : World) (X : Nat) (f : Fr) : Prop := Blk w X (frl f) 47
theorem sides4 (q : Ln4) (b : Int) (w : World) :
    Calls Try.prog 61 #[.agg #[.int .i64 q.a.k, .int .i64 q.a.n, .int .i64 q.b.k, .int .i64 q.b.n, .int .i64 q.c.k, .int .i64 q.c.n, .int .i64 q.d.k, .int .i64 q.d.n], .int .i64 b] w fun e w' => e = .returned (.tuple #[s4v (sds q b), .bool (sidesB q b)]) ∧ Seen w w' := sides_any q b w
theorem Blk.rules16 {w : World} {B : Nat} {s : Sty} (hf : Full s) (h : Blk w B (stl s) 39) : ∀ w', Seen w w' →
    w'.cell? ⟨B, 22, none⟩ = some (.int .i64 (mg4 s).a.k) ∧ w'.cell? ⟨B, 23, none⟩ = some (.int .i64 (mg4 s).a.n) ∧ w'.cell? ⟨B, 24, none⟩ = some (.int .i64 (mg4 s).b.k) ∧ w'.cell? ⟨B, 25, none⟩ = some (.int .i64 (mg4 s).b.n) ∧
    w'.cell? ⟨B, 26, none⟩ = some (.int .i64 (mg4 s).c.k) ∧ w'.cell? ⟨B, 27, none⟩ = some (.int .i64 (mg4 s).c.n) ∧ w'.cell? ⟨B, 28, none⟩ = some (.int .i64 (mg4 s).d.k) ∧ w'.cell? ⟨B, 29, none⟩ = some (.int .i64 (mg4 s).d.n) ∧
    w'.cell? ⟨B, 30, none⟩ = some (.int .i64 (pd4 s).a.k) ∧ w'.cell? ⟨B, 31, none⟩ = some (.int .i64 (pd4 s).a.n) ∧ w'.cell? ⟨B, 32, none⟩ = some (.int .i64 (pd4 s).b.k) ∧ w'.cell? ⟨B, 33, none⟩ = some (.int .i64 (pd4 s).b.n) ∧
    w'.cell? ⟨B, 34, none⟩ = some (.int .i64 (pd4 s).c.k) ∧ w'.cell? ⟨B, 35, none⟩ = some (.int .i64 (pd4 s).c.n) ∧ w'.cell? ⟨B, 36, none⟩ = some (.int .i64 (pd4 s).d.k) ∧ w'.cell? ⟨B, 37, none⟩ = some (.int .i64 (pd4 s).d.n) ∧
    w'.cell? ⟨B, 38, none⟩ = some (.int .i64 (bd4 s).a) ∧ w'.cell? ⟨B, 39, none⟩ = some (.int .i64 (bd4 s).b) ∧ w'.cell? ⟨B, 40, none⟩ = some (.int .i64 (bd4 s).c) ∧ w'.cell? ⟨B, 41, none⟩ = some (.int .i64 (bd4 s).d) := fun w' hs => by
  have k := h.seen hs
  have e := fun j => k.cell j
  have l := fun i (hi : i < 18) => stl_len hf hi
  have b := fun j (hj : j < 4) => stl_bord hf hj
  exact ⟨(e 22).trans (l 10 (by omega)).1, (e 23).trans (l 10 (by omega)).2, (e 24).trans (l 11 (by omega)).1, (e 25).trans (l 11 (by omega)).2, (e 26).trans (l 12 (by omega)).1, (e 27).trans (l 12 (by omega)).2, (e 28).trans (l 13 (by omega)).1, (e 29).trans (l 13 (by omega)).2,
    (e 30).trans (l 14 (by omega)).1, (e 31).trans (l 14 (by omega)).2, (e 32).trans (l 15 (by omega)).1, (e 33).trans (l 15 (by omega)).2, (e 34).trans (l 16 (by omega)).1, (e 35).trans (l 16 (by omega)).2, (e 36).trans (l 17 (by omega)).1, (e 37).trans (l 17 (by omega)).2,
    (e 38).trans (b 0 (by omega)), (e 39).trans (b 1 (by omega)), (e 40).trans (b 2 (by omega)), (e 41).trans (b 3 (by omega))⟩
end Go.Proofs.Yteplmjgohnbpbaa
