/- Contracts of the methods Push and Pop of the list that the heap works on. -/
import Derived.Test.YtacdgfihabjfkaaUp
import Derived.Test.YtacdgfihabjfkaaAppRows
import Derived.Deep.RegionLaw
namespace Go.Proofs.Ytacdgfihabjfkaa
open Go.ChangeShapes Go.WideShapes Go.ChangeAt Go.RowKit
/-- The Agenda at block B holds the entries l, in the order of its list; T: the blocks that are its own. -/
def HS (base B : Nat) (T : Nat → Prop) (l : List E3) (W : World) : Prop :=
  ∃ v, Boxed W B 27 v ∧ W.ownsRow base 31 3 v l.length (flatE l) ∧ (∀ k, T k ↔ k = B ∨ v.ownBlock = some k)
theorem info31 : (Try.prog.info? 31).map (fun i => (i.zero, i.size, i.bytes)) = some (some (.agg #[.int .i64 0, .int .i64 0, .int .i64 0]), 3, 24) := by kernel_rfl
theorem new_cells3 (w : World) (t : TypeId) (p : E3) : ∀ j v, (flatE [p])[j]? = some v → (w.alloc (.cells #[.int .i64 p.k, .int .i64 p.t, .int .i64 p.n] t)).cell? ((⟨w.heap.size, 0, none⟩ : Addr).add j) = some v := by
  intro j v hj
  match j, hj with
  | 0, hj => simp [flatE] at hj; subst hj; simp [Addr.add]
  | 1, hj => simp [flatE] at hj; subst hj; simp [Addr.add]
  | 2, hj => simp [flatE] at hj; subst hj; simp [Addr.add]
  | (j + 3), hj => simp [flatE] at hj
theorem new_row3 (w : World) (t : TypeId) (p : E3) : (w.alloc (.cells #[.int .i64 p.k, .int .i64 p.t, .int .i64 p.n] t)).ownsRow 0 t 3 (.slice (some ⟨w.heap.size, 0, none⟩) 1 1) 1 (flatE [p]) :=
  ⟨rfl, .inr ⟨w.heap.size, 1, #[.int .i64 p.k, .int .i64 p.t, .int .i64 p.n], rfl, Nat.zero_le _, World.alloc_heap_new w _, Nat.le_refl _, by unfold maxLen; omega, rfl, rfl⟩⟩
theorem run_assert (x y z : Int) (w : World) : (Instr.typeAssert (.iface 31 (.agg #[.int .i64 x, .int .i64 y, .int .i64 z])) 20 31 false).run Try.prog w = .ok (.agg #[.int .i64 x, .int .i64 y, .int .i64 z]) w := by kernel_rfl
set_option maxHeartbeats 2000000 in
theorem push_any (base B : Nat) (T : Nat → Prop) (l : List E3) (x : E3) (w : World) (h : HS base B T l w) (hb : base ≤ w.heap.size) (hn : l.length ≤ 1000000) :
    Calls Try.prog 67 #[.pointer (some ⟨B, 0, none⟩), .iface 31 (.agg #[.int .i64 x.k, .int .i64 x.t, .int .i64 x.n])] w fun e w' => e = .returned (.tuple #[]) ∧ ∃ T', Moves T T' w w' ∧ HS base B T' (l ++ [x]) w' := by
  obtain ⟨i0, hi, hz0, hz1, hz2⟩ := info_parts info31
  obtain ⟨v, hv, hr, hT⟩ := h
  have hc := hv.cell
  have hf := hv.frozen
  have HV := Lib.hid hv
  have HR := Lib.hid hr
  have HT := Lib.hid hT
  clear hv hr hT
  have hta := run_assert x.k x.t x.n
  go_enter Try.func67, Try.ntmps67
  go_wp2_with fail
  have hca : ∀ o, (w.alloc o).cell? ⟨B, 0, none⟩ = some v := fun o => (HV.out.alloc o).cell
  go_region_law
    ((refine step_append_rows _ rfl (.tmp 7) (.tmp 10) 25 rfl 31 i0 (.agg #[.int .i64 0, .int .i64 0, .int .i64 0]) 3 24 Try.underlying25 hi hz0 hz1 hz2 rfl (by decide) base 0 v _ _ rfl (HR.out.alloc _).drew (.slice (some ⟨w.heap.size, 0, none⟩) 1 1) 1 (flatE [x]) rfl (new_row3 w 31 x).drew (flatE_one _) (by unfold maxLen; omega) (by omega) (by simp; omega) ?_; intro v' w1 hown' hgrow hat; obtain ⟨g', cap', rfl⟩ := ownsRow_succ hown'; obtain ⟨hv1, hv2, hr2, hmv, hoth⟩ := append_moves (W := w.drew) (tmp := .cells #[.int .i64 x.k, .int .i64 x.t, .int .i64 x.n] 31) HV.out (by decide) HR.out hown' hgrow hat (T := T) ((HT.out _).2 (.inl rfl)) (fun k hk => (HT.out _).2 (.inr hk)); have hc1 := hv1.cell; have hf1 := hv1.frozen; have HV2 := Lib.hid (And.intro hv2 (And.intro hr2 (And.intro hmv hoth))); clear hv2 hr2 hmv hoth hgrow hown' hat))
  all_goals
    go_end0
    obtain ⟨hv2, hr2, hmv, hoth⟩ := HV2.out
    refine ⟨rfl, fun k => k = B ∨ g' = k, (Moves.of_below (Below.drew (Below.refl _ _))).trans (hmv _ ?_), _, hv2, ?_, fun k => by simp [Value.ownBlock]⟩
    · rintro k (rfl | rfl)
      · exact .inl ((HT.out _).2 (.inl rfl))
      · exact .inr rfl
    · rw [flatE_append, List.length_append]
      exact hr2
theorem row_less {w : World} {base : Nat} {e : TypeId} {g n cap : Nat} {l : List E3} (h : w.ownsRow base e 3 (.slice (some ⟨g, 0, none⟩) (n + 1) cap) (n + 1) (flatE l)) : w.ownsRow base e 3 (.slice (some ⟨g, 0, none⟩) n cap) n (flatE (l.take n)) := by
  refine ⟨by rw [flatE_take, List.length_take, h.1]; omega, ?_⟩
  rcases h.2 with ⟨h1, _⟩ | ⟨g', cap', cur, h1, hb, hh, h2, h3, h4, h5⟩
  · cases h1
  · cases h1
    refine .inr ⟨g, cap, cur, rfl, hb, hh, by omega, h3, h4, ?_⟩
    rw [flatE_take, ← h5, List.take_take, Nat.min_eq_left (by omega)]
set_option maxHeartbeats 2000000 in
theorem pop_any (base B : Nat) (T : Nat → Prop) (l : List E3) (g n cap : Nat) (w : World) (hv : Boxed w B 27 (.slice (some ⟨g, 0, none⟩) (n + 1) cap)) (hr : w.ownsRow base 31 3 (.slice (some ⟨g, 0, none⟩) (n + 1) cap) (n + 1) (flatE l)) (hl : l.length = n + 1) (hT : ∀ k, T k ↔ k = B ∨ g = k) (hn : n ≤ 1000000) :
    Calls Try.prog 66 #[.pointer (some ⟨B, 0, none⟩)] w fun e w' => e = .returned (.iface 31 (.agg #[.int .i64 (eat l n).k, .int .i64 (eat l n).t, .int .i64 (eat l n).n])) ∧ Moves T T w w' ∧ HS base B T (l.take n) w' := by
  have hc := hv.cell
  have hf := hv.frozen
  have hca : ∀ o, (w.alloc o).cell? ⟨B, 0, none⟩ = some (.slice (some ⟨g, 0, none⟩) (n + 1) cap) := fun o => (hv.alloc o).cell
  have hfa : ∀ o, (w.alloc o).frozen? ⟨B, 0, none⟩ = false := fun o => (hv.alloc o).frozen
  obtain ⟨a0, c0, e0, hes, hcap⟩ := es_of_own hr hl
  cases e0
  obtain ⟨b1, o1, e1, hat⟩ := hes.2 (by omega)
  cases e1
  obtain ⟨q0, q1, q2⟩ := hat n (by omega)
  rw [Nat.zero_add] at q0 q1 q2
  have HV := Lib.hid hv
  have HR := Lib.hid hr
  have HT := Lib.hid hT
  have HL := Lib.hid hl
  have hlen : ((n + 1 : Nat) : Int) - 1 = (n : Int) := by omega
  have hnn : (n : Int) < ((n + 1 : Nat) : Int) := by omega
  clear hv hr hT hes hat hl
  have hB1 : B ≠ w.heap.size := fun e => by have := HV.out.lt; omega
  have hB2 : w.heap.size ≠ B := fun e => hB1 e.symm
  have hBg : (Value.slice (some ⟨g, 0, none⟩) n cap).ownBlock ≠ some B := fun e => HV.out.not_row (by decide) HR.out (by rw [← e]; rfl)
  go_enter Try.func66, Try.ntmps66
  go_wp2_with fail
  go_ret
  refine ⟨rfl, ((Moves.alloc T w _).less (fun k hk => .inl hk)).trans (Moves.setCell _ (p := ⟨B, 0, none⟩) ((HT.out B).2 (.inl rfl)) _), _, (HV.out.alloc _).set _, ?_, fun k => by rw [HT.out k]; simp [Value.ownBlock]⟩
  have e : (l.take n).length = n := by rw [List.length_take, HL.out]; omega
  rw [e]
  exact ownsRow_setCell_other (World.ownsRow.alloc (row_less HR.out) _) hBg _
end Go.Proofs.Ytacdgfihabjfkaa
