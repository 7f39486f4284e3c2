/- What AgendaPlays keeps between two acts: the Agenda's entries are those of the plain list, each in its own memory. -/
import Derived.Test.YtacdgfihabjfkaaAwake
import Derived.Test.YtacdgfihabjfkaaArgs
import Derived.Test.YtacdgfihabjfkaaLeast
import Derived.Test.YtacdgfihabjfkaaWithout
namespace Go.Proofs.Ytacdgfihabjfkaa
open Go.ChangeShapes Go.WideShapes Go.ChangeAt Go.RowKit
theorem Seen.trans' {w W W' : World} {T T' : Nat → Prop} (h : Seen w W) (mv : Moves T T' W W') (ht : ∀ k, T k → w.heap.size ≤ k) : Seen w W' :=
  Below.trans h (mv.below h.size ht)
def PI (w : World) (B : Nat) (T : Nat → Prop) (hl wl : List E3) (v : Value) (W : World) : Prop :=
  HS w.heap.size B T hl W ∧ HeapP hl hl.length ∧ hl.Perm wl ∧ W.ownsRow w.heap.size 32 3 v wl.length (flatE wl) ∧ (∀ g, v.ownBlock = some g → ¬ T g) ∧ Seen w W ∧ w.heap.size ≤ B
section
variable {w : World} {B : Nat} {T : Nat → Prop} {hl wl : List E3} {v : Value} {W : World}
theorem PI.seen (h : PI w B T hl wl v W) {W' : World} (hs : Seen W W') : PI w B T hl wl v W' :=
  ⟨h.1.seen hs, h.2.1, h.2.2.1, row_seen h.2.2.2.1 hs, h.2.2.2.2.1, h.2.2.2.2.2.1.trans hs, h.2.2.2.2.2.2⟩
theorem PI.len (h : PI w B T hl wl v W) : hl.length = wl.length := h.2.2.1.length_eq
theorem PI.high (h : PI w B T hl wl v W) : ∀ k, T k → w.heap.size ≤ k := h.1.high h.2.2.2.2.2.2
theorem PI.moved (h : PI w B T hl wl v W) {T' : Nat → Prop} {W' : World} (mv : Moves T T' W W') :
    W'.ownsRow w.heap.size 32 3 v wl.length (flatE wl) ∧ (∀ g, v.ownBlock = some g → ¬ T' g) ∧ Seen w W' := by
  refine ⟨ownsRow_keeps h.2.2.2.1 fun g hg => mv.block g (h.2.2.2.1.lt g hg).2 (h.2.2.2.2.1 g hg), fun g hg ht => ?_, h.2.2.2.2.2.1.trans' mv h.high⟩
  rcases mv.own g ht with h1 | h1
  · exact h.2.2.2.2.1 g hg h1
  · have := (h.2.2.2.1.lt g hg).2; omega
theorem PI.start (w wA : World) (hs : Seen w wA) : PI w wA.heap.size (fun k => k = wA.heap.size) [] [] (.slice none 0 0) (wA.alloc (.cells #[.slice none 0 0] 27)) :=
  ⟨hs_new wA _, heap_nil, List.Perm.refl _, World.ownsRow_nil _ _ _ _, (fun g hg => by cases hg), hs.alloc _, hs.size⟩
/-- The least of the one is the least of the other. -/
theorem PI.least (h : PI w B T hl wl v W) {a : Nat} (ha : LeastAt wl wl.length a) : eat hl 0 = eat wl a := by
  have hp := h.2.2.1
  have h0 : 0 < hl.length := by rw [h.len]; have := ha.1; omega
  refine leE_antisymm (heap_least_mem h.2.1 _ (hp.mem_iff.2 (eat_mem ha.1))) ?_
  obtain ⟨i, hi, e⟩ := mem_eat (hp.mem_iff.1 (eat_mem h0))
  rw [← e]; exact ha.2 i hi
/-- An entry is added to both. -/
theorem PI.add (h : PI w B T hl wl v W) {T' : Nat → Prop} {W4 w5 : World} {hl' : List E3} {x : E3} {v' : Value} {o : Obj} (mv : Moves T T' W W4) (hs : HS w.heap.size B T' hl' W4) (hp : HeapP hl' hl'.length) (hm : hl'.Perm (x :: hl))
    (hr : w5.ownsRow w.heap.size 32 3 v' (wl.length + 1) (flatE wl ++ flatE [x])) (hg : (W4.alloc o).grownBy w5 v.ownBlock) (hat : v'.ownBlock = v.ownBlock ∨ v'.ownBlock = some (W4.alloc o).heap.size) : PI w B T' hl' (wl ++ [x]) v' w5 := by
  obtain ⟨h1, h2, h3⟩ := h.moved mv
  have hz : (W4.alloc o).heap.size = W4.heap.size + 1 := by simp
  have keep : ∀ k, k < W4.heap.size → v.ownBlock ≠ some k → w5.heap[k]? = W4.heap[k]? := fun k hk hne =>
    (hg.block k (by omega) (fun e => hne e.symm)).trans (Below.heap_alloc W4 o k hk)
  refine ⟨hs.keeps fun k hk => keep k (hs.low k hk) (fun e => h2 k e hk), hp, ?_, ?_, fun g hg' ht => ?_, ?_, h.2.2.2.2.2.2⟩
  · exact hm.trans ((h.2.2.1.cons x).trans (List.perm_append_comm (l₁ := [x]) (l₂ := wl)))
  · rw [flatE_append, List.length_append]; exact hr
  · rcases hat with e | e
    · exact h2 g (by rw [← e]; exact hg') ht
    · rw [e] at hg'
      have := hs.low g ht
      simp at hg'; omega
  · exact Below.grown (h3.alloc o) hg (h3.alloc o).size (fun k hk => (h1.lt k hk).1)
/-- The least one is taken off both. -/
theorem PI.next (h : PI w B T hl wl v W) {W4 W5 W6 : World} {hl' : List E3} {v' : Value} {a : Nat} (ha : LeastAt wl wl.length a) (mv : Moves T T W W4) (hs : HS w.heap.size B T hl' W4) (hp : HeapP hl' hl'.length) (hm : hl.Perm (eat hl 0 :: hl'))
    (s5 : Seen W4 W5) (s6 : Seen W5 W6) (hr : W6.ownsRow W5.heap.size 32 3 v' (wl.length - 1) (flatE (woL wl a))) : PI w B T hl' (woL wl a) v' W6 := by
  obtain ⟨h1, h2, h3⟩ := h.moved mv
  have hs5 := hs.seen s5
  have h35 := h3.trans s5
  refine ⟨hs5.seen s6, hp, ?_, ?_, fun g hg ht => ?_, h35.trans s6, h.2.2.2.2.2.2⟩
  · have p1 : (eat hl 0 :: hl').Perm (eat wl a :: woL wl a) := hm.symm.trans (h.2.2.1.trans (woL_perm ha.1))
    rw [h.least ha] at p1
    exact List.Perm.cons_inv p1
  · rw [woL_length ha.1]; exact row_more hr h35.size
  · have l1 := (hr.lt g hg).1
    have l2 := hs5.low g ht
    omega
end
end Go.Proofs.Ytacdgfihabjfkaa
