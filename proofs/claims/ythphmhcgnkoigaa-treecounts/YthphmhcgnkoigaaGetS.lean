/- Contract of Get; no conditions beyond those written in each theorem. -/
import Derived.Test.YthphmhcgnkoigaaGetLen
import Derived.Test.YthphmhcgnkoigaaFirst
namespace Go.Proofs.Ythphmhcgnkoigaa
open Go.ChangeShapes Go.WideShapes Go.ChangeAt Go.RowKit
set_option maxRecDepth 100000
/-- While Get runs: the In, the result's cell X, the style Y. -/
structure GI (w : World) (K : Nat → Prop) (B Y : Nat) (t : St) (s : Sty) (wr : World) : Prop where
  turns : Turns B w wr
  self : IT K B t wr
  res : Hs wr w.heap.size zeroS
  sty : Hs wr Y s
/-- Y is a block of its own. -/
structure Apart (w : World) (K : Nat → Prop) (B Y : Nat) : Prop where
  low : ∀ k, K k → k < w.heap.size
  selfB : B < w.heap.size
  high : w.heap.size < Y
section
variable {w wr w' : World} {K : Nat → Prop} {B Y : Nat} {t t' : St} {s s' : Sty}
theorem GI.call (h : GI w K B Y t s wr) (ha : Apart w K B Y) (ht : Turns B wr w') (hi : IT K B t' w') : GI w K B Y t' s w' := by
  have := ha.selfB
  have := ha.high
  exact ⟨h.turns.trans ht, hi, h.res.keeps (ht.block _ h.res.lt (by omega)), h.sty.keeps (ht.block _ h.sty.lt (by omega))⟩
theorem GI.store (h : GI w K B Y t s wr) (ha : Apart w K B Y) (hs : Hs w' Y s') (ht : Turns Y wr w') : GI w K B Y t s' w' := by
  have := ha.high
  exact ⟨h.turns.fresh ht (by omega), h.self.other ht (fun hk => by have := ha.low Y hk; omega), h.res.keeps (ht.block _ h.res.lt (by omega)), hs⟩
theorem GI.set (h : GI w K B Y t s wr) (ha : Apart w K B Y) (j : Nat) (v : Value) (e : (stl s).set j v = stl s') : GI w K B Y t s' (wr.setCell ⟨Y, j, none⟩ v) :=
  h.store ha (Hs.set h.sty j v e) (Turns.set wr Y j v)
theorem GI.next (h : GI w K B Y t s wr) (hs : Seen wr w') : GI w K B Y t s w' := ⟨h.turns.next hs, h.self.seen hs, h.res.seen hs, h.sty.seen hs⟩
end
/-- Lengths stored into a style that is being read. -/
theorem wpList_storeLens {ops : Array Oper} {rest : List Oper} {op : Oper} {a : Act} {w : World} {Q : Exit → Act → World → Prop} (hgd : op.guard = none) (ty : TypeId) (x y : Operand) (ho : op.op = .store ty x y) (Y : Nat) (f : Int) (D : List Ln) (Bo : List Int) (z b l : Int) (L : List Ln) (o m : Nat)
    (hx : a.eval x = .pointer (some ⟨Y, o, none⟩)) (hy : a.eval y = .agg (flatL L).toArray) (hi : (Try.prog.info? ty).map (·.size) = some (m * 2)) (hm : L.length = m) (hD : 2 + D.length * 2 = o) (hle : D.length + m ≤ 18) (hB : Bo.length ≤ 4)
    (hs : Hs w Y (mkS f D Bo z b l)) (h : ∀ w', Hs w' Y (mkS f (D ++ L) Bo z b l) → Turns Y w w' → wpList Try.prog ops Q rest (a.put op.dst undef) w') : wpList Try.prog ops Q (op :: rest) a w := by
  subst hD hm
  refine wpList_storeC hgd ty x y ho Y _ (flatL L) hx hy (by rw [flatL_length]; exact hi) (flatL_one L) hs ?_ (mkS_lens f D Bo z b l L hle) h
  rw [(mkS_full (by omega) hB).len, flatL_length]
  omega
/-- One length stored. -/
theorem wpList_storeLen1 {ops : Array Oper} {rest : List Oper} {op : Oper} {a : Act} {w : World} {Q : Exit → Act → World → Prop} (hgd : op.guard = none) (x y : Operand) (ho : op.op = .store 43 x y) (Y : Nat) (f : Int) (D : List Ln) (Bo : List Int) (z b l : Int) (q : Ln) (o : Nat)
    (hx : a.eval x = .pointer (some ⟨Y, o, none⟩)) (hy : a.eval y = .agg #[.int .i64 q.k, .int .i64 q.n]) (hD : 2 + D.length * 2 = o) (hle : D.length + 1 ≤ 18) (hB : Bo.length ≤ 4)
    (hs : Hs w Y (mkS f D Bo z b l)) (h : ∀ w', Hs w' Y (mkS f (D ++ [q]) Bo z b l) → Turns Y w w' → wpList Try.prog ops Q rest (a.put op.dst undef) w') : wpList Try.prog ops Q (op :: rest) a w :=
  wpList_storeLens hgd 43 x y ho Y f D Bo z b l [q] o 1 hx hy (by kernel_rfl) rfl hD hle hB hs h
theorem lnsV_succ (n : Nat) (s : St) : lnsV n s ++ [lnV (lnsS n s)] = lnsV (n + 1) s := rfl
theorem lnsS_succ (n : Nat) (s : St) : lnS (lnsS n s) = lnsS (n + 1) s := rfl
theorem nmsV_succ (n : Nat) (s : St) : nmsV n s ++ [n8 (nmsS n s)] = nmsV (n + 1) s := rfl
theorem nmsS_succ (n : Nat) (s : St) : adv 8 (nmsS n s) = nmsS (n + 1) s := rfl
/-- The load of a whole style under a guard that holds. -/
theorem wpList_loadSg {ops : Array Oper} {rest : List Oper} {op : Oper} {a : Act} {w : World} {Q : Exit → Act → World → Prop} (hw : Region.wanted op (yielded ops a.tmps) = true) (x : Operand) (ho : op.op = .load 47 x) (X : Nat) (s : Sty)
    (hx : a.eval x = .pointer (some ⟨X, 0, none⟩)) (hf : Full s) (hs : Hs w X s) (h : wpList Try.prog ops Q rest (a.put op.dst (sv s)) w) : wpList Try.prog ops Q (op :: rest) a w := by
  have hr := hs.range 0 48
  rw [List.drop_zero, List.take_of_length_le (by rw [hf.len]; omega)] at hr
  refine wpList_step fun K hK => ?_
  rw [if_pos hw]
  exact wp_load_mid 47 x ho X 0 hx (stl s) _ hr Try.underlying47 rfl (by rw [hf.len]; exact info27) (hK _ _ h)
theorem info23s : (Try.prog.info? 43).map (·.size) = some (1 * 2) := by kernel_rfl
theorem info24s : (Try.prog.info? 44).map (·.size) = some (4 * 2) := info24
end Go.Proofs.Ythphmhcgnkoigaa
