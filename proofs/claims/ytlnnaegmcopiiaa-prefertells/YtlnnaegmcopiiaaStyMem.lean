/- Stores into a style in memory, and a style as a result; no conditions beyond those written in each theorem. -/
import Derived.Test.YtlnnaegmcopiiaaWithin
namespace Go.Proofs.Ytlnnaegmcopiiaa
open Go.ChangeShapes Go.WideShapes Go.ChangeAt Go.RowKit
set_option maxRecDepth 100000
/-- Cells set one behind the other. -/
def setsL (l : List Value) (o : Nat) : List Value → List Value
  | [] => l
  | v :: r => setsL (l.set o v) (o + 1) r
theorem setsL_mid (p m q vs : List Value) (h : m.length = vs.length) : setsL (p ++ (m ++ q)) p.length vs = p ++ (vs ++ q) := by
  induction vs generalizing p m with
  | nil =>
    obtain rfl : m = [] := List.eq_nil_of_length_eq_zero h
    rfl
  | cons v r ih =>
    match m, h with
    | x :: m, h =>
      have e : (p ++ (x :: m ++ q)).set p.length v = (p ++ [v]) ++ (m ++ q) := by simp
      have := ih (p ++ [v]) m (by simpa using h)
      rw [List.length_append, List.length_singleton] at this
      rw [setsL, e, this]
      simp
section
variable {w : World} {X : Nat} {s s' : Sty}
theorem Hs.set {w : World} {X : Nat} {cs cs' : List Value} {t : TypeId} (h : w.heap[X]? = some (.cells cs.toArray t)) (j : Nat) (v : Value) (e : cs.set j v = cs') : (w.setCell ⟨X, j, none⟩ v).heap[X]? = some (.cells cs'.toArray t) := by
  rw [Go.Joins.block_setCell h, ← e]; simp
theorem block_sets {w : World} {X : Nat} {cs cs' : List Value} {t : TypeId} (h : w.heap[X]? = some (.cells cs.toArray t)) (o : Nat) (vs : List Value) (e : setsL cs o vs = cs') : (w.setCells X o vs).heap[X]? = some (.cells cs'.toArray t) := by
  induction vs generalizing w cs o with
  | nil => rw [← e]; exact h
  | cons v r ih => exact ih (Hs.set h o v rfl) (o + 1) e
theorem turns_sets (w : World) (X o : Nat) (vs : List Value) : Turns X w (w.setCells X o vs) := by
  induction vs generalizing w o with
  | nil => exact Moves.refl _ _
  | cons v r ih => exact (Turns.set w X o v).trans (ih _ _)
theorem there_block {w : World} {X : Nat} {cs : List Value} {t : TypeId} (h : w.heap[X]? = some (.cells cs.toArray t)) {o n : Nat} (hn : o + n ≤ cs.length) : w.there X o n := fun j hj => by
  refine ⟨?_, by simp [World.frozen?, h]⟩
  rw [Go.Joins.cell_of_block h]
  simp; omega
end
/-- A store of several cells into a block that is known whole. -/
theorem wpList_storeC {ops : Array Oper} {rest : List Oper} {op : Oper} {a : Act} {w : World} {Q : Exit → Act → World → Prop} (hgd : op.guard = none) (ty : TypeId) (x y : Operand) (ho : op.op = .store ty x y) (X o : Nat) (vs : List Value)
    (hx : a.eval x = .pointer (some ⟨X, o, none⟩)) (hy : a.eval y = .agg vs.toArray) (hi : (Try.prog.info? ty).map (·.size) = some vs.length) (h1 : ∀ u ∈ vs, u.oneCell' = true)
    {cs cs' : List Value} {t : TypeId} (hb : w.heap[X]? = some (.cells cs.toArray t)) (hn : o + vs.length ≤ cs.length) (e : setsL cs o vs = cs')
    (h : ∀ w', w'.heap[X]? = some (.cells cs'.toArray t) → Turns X w w' → wpList Try.prog ops Q rest (a.put op.dst undef) w') : wpList Try.prog ops Q (op :: rest) a w := by
  refine wpList_store_mid hgd ty x y ho X o vs.toArray hx hy (by simpa using there_block hb hn) (by simpa using hi) (all_oneCell_toArray h1) ?_
  exact h _ (by simpa using block_sets hb o vs e) (by simpa using turns_sets w X o vs)
/-- A whole style stored. -/
theorem wpList_storeS {ops : Array Oper} {rest : List Oper} {op : Oper} {a : Act} {w : World} {Q : Exit → Act → World → Prop} (hgd : op.guard = none) (x y : Operand) (ho : op.op = .store 39 x y) (X : Nat) (s' s : Sty)
    (hx : a.eval x = .pointer (some ⟨X, 0, none⟩)) (hy : a.eval y = sv s) (hf : Full s) (hf' : Full s') (hs : Hs w X s')
    (h : ∀ w', Hs w' X s → Turns X w w' → wpList Try.prog ops Q rest (a.put op.dst undef) w') : wpList Try.prog ops Q (op :: rest) a w := by
  refine wpList_storeC hgd 39 x y ho X 0 (stl s) hx hy (by rw [hf.len]; exact info27) (stl_one s) hs (by rw [hf.len, hf'.len]; omega) ?_ h
  have := setsL_mid [] (stl s') [] (stl s) (by rw [hf.len, hf'.len])
  simpa using this
theorem mkS_lens (f : Int) (D : List Ln) (B : List Int) (z b l : Int) (L : List Ln) (h : D.length + L.length ≤ 18) : setsL (stl (mkS f D B z b l)) (2 + D.length * 2) (flatL L) = stl (mkS f (D ++ L) B z b l) := by
  have hr : List.replicate (18 - D.length) (⟨0, 0⟩ : Ln) = List.replicate L.length ⟨0, 0⟩ ++ List.replicate (18 - (D ++ L).length) ⟨0, 0⟩ := by
    rw [List.replicate_append_replicate]; congr 1; simp; omega
  have e1 : stl (mkS f D B z b l) = ([.bool (f % 2 == 1), .int .i64 (f / 2 % 4)] ++ flatL D) ++ (flatL (List.replicate L.length ⟨0, 0⟩) ++ (flatL (List.replicate (18 - (D ++ L).length) ⟨0, 0⟩) ++ (flatI (mkS f D B z b l).bord ++ tailS (mkS f D B z b l)))) := by
    show [.bool (f % 2 == 1), .int .i64 (f / 2 % 4)] ++ (flatL (D ++ List.replicate (18 - D.length) ⟨0, 0⟩) ++ _) = _
    rw [hr, flatL_append, flatL_append]
    simp [List.append_assoc]
  have e2 : stl (mkS f (D ++ L) B z b l) = ([.bool (f % 2 == 1), .int .i64 (f / 2 % 4)] ++ flatL D) ++ (flatL L ++ (flatL (List.replicate (18 - (D ++ L).length) ⟨0, 0⟩) ++ (flatI (mkS f D B z b l).bord ++ tailS (mkS f D B z b l)))) := by
    show [.bool (f % 2 == 1), .int .i64 (f / 2 % 4)] ++ (flatL (D ++ L ++ List.replicate (18 - (D ++ L).length) ⟨0, 0⟩) ++ _) = _
    rw [flatL_append, flatL_append]
    simp only [List.append_assoc]
    rfl
  rw [e1, e2]
  have := setsL_mid ([.bool (f % 2 == 1), .int .i64 (f / 2 % 4)] ++ flatL D) (flatL (List.replicate L.length ⟨0, 0⟩)) (flatL (List.replicate (18 - (D ++ L).length) ⟨0, 0⟩) ++ (flatI (mkS f D B z b l).bord ++ tailS (mkS f D B z b l))) (flatL L) (by simp [flatL_length])
  have hp : ([Value.bool (f % 2 == 1), .int .i64 (f / 2 % 4)] ++ flatL D).length = 2 + D.length * 2 := by simp [flatL_length]; omega
  rw [hp] at this
  exact this
theorem mkS_bord (f : Int) (D : List Ln) (B : List Int) (z b l v : Int) (hD : D.length ≤ 18) (h : B.length < 4) : (stl (mkS f D B z b l)).set (38 + B.length) (.int .i64 v) = stl (mkS f D (B ++ [v]) z b l) := by
  have hr : List.replicate (4 - B.length) (0 : Int) = 0 :: List.replicate (4 - (B ++ [v]).length) 0 := by
    rw [← List.replicate_succ]; congr 1; simp; omega
  have hl : (flatL (mkS f D B z b l).lens).length = 36 := by rw [flatL_length]; simp [mkS]; omega
  have e1 : stl (mkS f D B z b l) = ([.bool (f % 2 == 1), .int .i64 (f / 2 % 4)] ++ flatL (mkS f D B z b l).lens ++ flatI B) ++ (.int .i64 0 :: (flatI (List.replicate (4 - (B ++ [v]).length) 0) ++ tailS (mkS f D B z b l))) := by
    show [.bool (f % 2 == 1), .int .i64 (f / 2 % 4)] ++ (flatL _ ++ (flatI (B ++ List.replicate (4 - B.length) 0) ++ _)) = _
    rw [hr, flatI_append]
    simp [List.append_assoc, flatI]
  have e2 : stl (mkS f D (B ++ [v]) z b l) = ([.bool (f % 2 == 1), .int .i64 (f / 2 % 4)] ++ flatL (mkS f D B z b l).lens ++ flatI B) ++ (.int .i64 v :: (flatI (List.replicate (4 - (B ++ [v]).length) 0) ++ tailS (mkS f D B z b l))) := by
    show [.bool (f % 2 == 1), .int .i64 (f / 2 % 4)] ++ (flatL _ ++ (flatI (B ++ [v] ++ List.replicate (4 - (B ++ [v]).length) 0) ++ _)) = _
    rw [flatI_append, flatI_append]
    simp only [List.append_assoc]
    rfl
  rw [e1, e2]
  have hp : 38 + B.length = ([Value.bool (f % 2 == 1), .int .i64 (f / 2 % 4)] ++ flatL (mkS f D B z b l).lens ++ flatI B).length := by
    simp only [List.length_append, hl, flatI_length, List.length_cons, List.length_nil]
  rw [hp, List.set_append_right _ _ (Nat.le_refl _)]
  simp
theorem stl_pre (s : Sty) (h : Full s) : ([Value.bool s.shown, .int .i64 s.pos] ++ (flatL s.lens ++ flatI s.bord)).length = 42 := by
  simp [flatL_length, flatI_length, h.lens, h.bord]
theorem stl_split (s : Sty) : stl s = ([Value.bool s.shown, .int .i64 s.pos] ++ (flatL s.lens ++ flatI s.bord)) ++ tailS s := by simp [stl]
theorem stl_set_tail {s : Sty} (h : Full s) (j : Nat) (v : Value) : (stl s).set (42 + j) v = ([Value.bool s.shown, .int .i64 s.pos] ++ (flatL s.lens ++ flatI s.bord)) ++ (tailS s).set j v := by
  rw [stl_split, List.set_append_right _ _ (by rw [stl_pre s h]; omega), stl_pre s h]
  congr 2
  omega
theorem mkS_z (f : Int) (D : List Ln) (B : List Int) (z b l v : Int) (hD : D.length ≤ 18) (hB : B.length ≤ 4) : (stl (mkS f D B z b l)).set 44 (.int .i64 v) = stl (mkS f D B v b l) := by
  rw [stl_set_tail (mkS_full hD hB) 2, stl_split]; rfl
theorem mkS_back (f : Int) (D : List Ln) (B : List Int) (z b l v : Int) (hD : D.length ≤ 18) (hB : B.length ≤ 4) : (stl (mkS f D B z b l)).set 46 (.int .i64 v) = stl (mkS f D B z v l) := by
  rw [stl_set_tail (mkS_full hD hB) 4, stl_split]; rfl
theorem mkS_line (f : Int) (D : List Ln) (B : List Int) (z b l v : Int) (hD : D.length ≤ 18) (hB : B.length ≤ 4) : (stl (mkS f D B z b l)).set 47 (.int .i64 v) = stl (mkS f D B z b v) := by
  rw [stl_set_tail (mkS_full hD hB) 5, stl_split]; rfl
/-- A result that lies in a cell of the function. -/
theorem results_cell {fn : Func} {tmps : Array Value} {k : Nat} {t : TypeId} {w : World} {X : Addr} {v : Value} (hr : fn.results = #[.cell k t]) (hp : tmps.getD k undef = .pointer (some X)) (hl : (loadVar t X).run Try.prog w = .ok v w) :
    (results fn tmps).run Try.prog w = .ok v w := by
  have hp' : tmps[k]?.getD undef = .pointer (some X) := by simpa using hp
  simp [results, hr, asAddr, hp', hl]
theorem run_loadS {w : World} {X : Nat} {s : Sty} (h : Hs w X s) (hf : Full s) : (loadVar 39 ⟨X, 0, none⟩).run Try.prog w = .ok (sv s) w := by
  have hr := h.range 0 48
  rw [List.drop_zero, List.take_of_length_le (by rw [hf.len]; omega)] at hr
  exact run_loadVar_mid w X 0 39 (stl s) _ hr Try.underlying39 rfl (by rw [hf.len]; exact info27)
end Go.Proofs.Ytlnnaegmcopiiaa
