/- Contracts of the reference's Eight, length and four; no conditions beyond those written in each theorem. -/
import Derived.Test.YthphmhcgnkoigaaRef
import Derived.Test.YthphmhcgnkoigaaGetLen
namespace Go.Proofs.Ythphmhcgnkoigaa
open Go.ChangeShapes Go.WideShapes Go.ChangeAt Go.RowKit
set_option maxRecDepth 100000
/-- The reference's In, a value: what it has left. -/
structure RV (w : World) (a : Option Addr) (n c : Nat) (t : St) : Prop where
  bs : BS w a n t.l
  ok : Bytes8 t.l
  cap : n ≤ c
  nil : t.bad = true → t.l = []
theorem RV.seen {w w' : World} {a : Option Addr} {n c : Nat} {t : St} (h : RV w a n c t) (hs : Seen w w') : RV w' a n c t := ⟨h.bs.seen hs, h.ok, h.cap, h.nil⟩
theorem adv_nil {t : St} (h : t.bad = true → t.l = []) (n : Nat) : (adv n t).bad = true → (adv n t).l = [] := by
  show tkB n t.l t.bad = true → tkL n t.l = []
  unfold tkB tkL
  split
  · intro _; rfl
  · intro hb; rw [h hb, List.drop_nil]
theorem RV.take {w : World} {a : Option Addr} {N c : Nat} {t : St} (h : RV w a N c t) (n : Nat) (h1 : 1 ≤ n) (h8 : n ≤ 8) :
    Calls Try.prog 36 #[.agg #[.slice a N c, .bool t.bad], .int .i64 n] w fun e w' => ∃ a' N' c', e = .returned (.tuple #[.int .u64 (tkV n t.l), .agg #[.slice a' N' c', .bool (adv n t).bad]]) ∧ Seen w w' ∧ (∀ W, RV W a N c t → RV W a' N' c' (adv n t)) :=
  (refTake_any a N c t.l t.bad n w h.bs h.ok h.cap h.nil h1 h8).mono fun e w' hh => by
    obtain ⟨a', N', c', rfl, hs, hc, hb⟩ := hh
    exact ⟨a', N', c', rfl, hs, fun W hW => ⟨hb W hW.bs, adv_ok hW.ok n, hc, adv_nil hW.nil n⟩⟩
/-- Two results that lie in cells of the function. -/
theorem results_cells {fn : Func} {tmps : Array Value} {k k' : Nat} {t t' : TypeId} {w : World} {X X' : Addr} {v v' : Value} (hr : fn.results = #[.cell k t, .cell k' t']) (hp : tmps.getD k undef = .pointer (some X)) (hp' : tmps.getD k' undef = .pointer (some X'))
    (hl : (loadVar t X).run Try.prog w = .ok v w) (hl' : (loadVar t' X').run Try.prog w = .ok v' w) : (results fn tmps).run Try.prog w = .ok (.tuple #[v, v']) w := by
  have h1 : tmps[k]?.getD undef = .pointer (some X) := by simpa using hp
  have h2 : tmps[k']?.getD undef = .pointer (some X') := by simpa using hp'
  simp [results, hr, asAddr, h1, h2, hl, hl']
theorem results_slot_cell {fn : Func} {tmps : Array Value} {k k' : Nat} {t' : TypeId} {w : World} {X' : Addr} {v v' : Value} (hr : fn.results = #[.tmp k, .cell k' t']) (hp : tmps.getD k undef = v) (hp' : tmps.getD k' undef = .pointer (some X'))
    (hl' : (loadVar t' X').run Try.prog w = .ok v' w) : (results fn tmps).run Try.prog w = .ok (.tuple #[v, v']) w := by
  have h1 : tmps[k]?.getD undef = v := by simpa using hp
  have h2 : tmps[k']?.getD undef = .pointer (some X') := by simpa using hp'
  simp [results, hr, asAddr, h1, h2, hl']
theorem run_loadI {w : World} {X : Nat} {a b : Value} (h : w.heap[X]? = some (.cells #[a, b] 67)) : (loadVar 67 ⟨X, 0, none⟩).run Try.prog w = .ok (.agg #[a, b]) w := by
  refine run_loadVar_mid w X 0 67 [a, b] _ ?_ Try.underlying67 rfl (by kernel_rfl)
  intro j v hj
  rw [Go.Joins.cell_of_block h]
  simpa using hj
theorem Seen.set {w w1 : World} {X : Nat} (h : Seen w w1) (hX : w.heap.size ≤ X) (o : Nat) (v : Value) : Seen w (w1.setCell ⟨X, o, none⟩ v) := h.turns (Turns.set w1 X o v) hX
theorem heap_lt {w : World} {X : Nat} {o : Obj} (h : w.heap[X]? = some o) : X < w.heap.size := by
  rcases Nat.lt_or_ge X w.heap.size with h1 | h1
  · exact h1
  · rw [Array.getElem?_eq_none h1] at h; cases h
set_option maxHeartbeats 4000000 in
theorem refEight_any {w : World} {a : Option Addr} {N c : Nat} {t : St} (h : RV w a N c t) :
    Calls Try.prog 56 #[.agg #[.slice a N c, .bool t.bad]] w fun e w' => ∃ a' N' c', e = .returned (.tuple #[.int .i64 (n8 t), .agg #[.slice a' N' c', .bool (adv 8 t).bad]]) ∧ Seen w w' ∧ (∀ W, RV W a N c t → RV W a' N' c' (adv 8 t)) := by
  obtain ⟨W, hW⟩ : ∃ W, W = (w.alloc (.cells #[.slice a N c, .bool t.bad] 67)).alloc (.cells #[.slice none 0 0, .bool false] 67) := ⟨_, rfl⟩
  have S0 : Hid (Seen w W) := by rw [hW]; exact ((Seen.refl w).alloc _).alloc _
  have HX : Hid (W.heap[w.heap.size + 1]? = some (.cells #[.slice none 0 0, .bool false] 67)) := by
    unfold Hid
    rw [hW]
    have := World.alloc_heap_new (w.alloc (.cells #[.slice a N c, .bool t.bad] 67)) (.cells #[.slice none 0 0, .bool false] 67)
    simpa using this
  have HR := Lib.hid (h.seen S0.out)
  clear h
  go_enter Try.func56, Try.ntmps56
  go_wp2_with (go_at_call 36; rw [← hW]; clear hW; refine (HR.out.take 8 (by omega) (by omega)).mono ?_; rintro _ w1 ⟨a1, N1, c1, rfl, hs1, hr1⟩
               have S1 := Lib.hid hs1
               have R1 := Lib.hid hr1
               have X1 : Hid (w1.heap[w.heap.size + 1]? = some (.cells #[.slice none 0 0, .bool false] 67)) := (hs1.block _ (heap_lt HX.out)).trans HX.out
               obtain ⟨x0, x1, xf, xl⟩ := cells2 X1.out
               clear hs1 hr1)
  go_region
  all_goals
    go_wp2_with fail
    have hb : ((w1.setCell ⟨w.heap.size + 1, 0, none⟩ (.slice a1 N1 c1)).setCell ⟨w.heap.size + 1, 1, none⟩ (.bool (adv 8 t).bad)).heap[w.heap.size + 1]? = some (.cells #[.slice a1 N1 c1, .bool (adv 8 t).bad] 67) := set2 X1.out
    refine bodyPost_ret (results_slot_cell Try.results56 rfl rfl (run_loadI ((Below.heap_alloc _ _ _ (heap_lt hb)).trans hb))) rfl ?_
    exact ⟨a1, N1, c1, rfl, ((((S0.out.trans S1.out).set (by omega) _ _).set (by omega) _ _).alloc _).drew, R1.out⟩
end Go.Proofs.Ythphmhcgnkoigaa
