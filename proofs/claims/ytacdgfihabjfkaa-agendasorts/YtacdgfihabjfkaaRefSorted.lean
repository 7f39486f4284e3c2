/- Contract of the reference's Sorted: a new row with the entries in ascending order. -/
import Derived.Test.YtacdgfihabjfkaaSorted
import Derived.Test.YtacdgfihabjfkaaLeast
import Derived.Deep.LoopGhost
namespace Go.Proofs.Ytacdgfihabjfkaa
open Go.ChangeShapes Go.WideShapes Go.ChangeAt Go.RowKit
/-- Between two rounds: what has been taken is in order and ahead of what is left. -/
def SI (w : World) (l0 : List E3) (a : Option Addr) (m c : Nat) (u : Value) (rest out : List E3) (W : World) : Prop :=
  ES W a m rest ∧ m ≤ c ∧ W.ownsRow w.heap.size 32 3 u out.length (flatE out) ∧ (0 < m → ∀ b off, a = some ⟨b, off, none⟩ → u.ownBlock ≠ some b) ∧ Seen w W ∧ (out ++ rest).Perm l0 ∧ out.Pairwise leE ∧ ∀ x ∈ out, ∀ y ∈ rest, leE x y
section
variable {w : World} {l0 : List E3} {a : Option Addr} {m c : Nat} {u : Value} {rest out : List E3} {W : World}
theorem SI.seen (h : SI w l0 a m c u rest out W) {W' : World} (hs : Seen W W') : SI w l0 a m c u rest out W' :=
  ⟨h.1.seen hs, h.2.1, row_seen h.2.2.1 hs, h.2.2.2.1, h.2.2.2.2.1.trans hs, h.2.2.2.2.2⟩
theorem SI.len (h : SI w l0 a m c u rest out W) : out.length + m = l0.length := by
  have := h.2.2.2.2.2.1.length_eq
  rw [List.length_append, h.1.1] at this
  exact this
theorem SI.done (h : SI w l0 a 0 c u rest out W) : out = srt l0 := by
  have e : rest = [] := List.eq_nil_of_length_eq_zero h.1.1
  have hp := h.2.2.2.2.2.1
  rw [e, List.append_nil] at hp
  exact srt_unique hp h.2.2.2.2.2.2.1
/-- A round: the least of what is left is taken. -/
theorem SI.step (h : SI w l0 a m c u rest out W) {k : Nat} (hk : LeastAt rest m k) {w5 w6 : World} {u' v' : Value} {o : Obj} {a' : Option Addr} {c' : Nat}
    (hr : w5.ownsRow w.heap.size 32 3 u' (out.length + 1) (flatE out ++ flatE [eat rest k])) (hg : (W.alloc o).grownBy w5 u.ownBlock)
    (s6 : Seen w5 w6) (hv : v' = .slice a' (m - 1) c') (hr6 : w6.ownsRow w5.heap.size 32 3 v' (m - 1) (flatE (woL rest k))) (hm : m - 1 ≤ c') : SI w l0 a' (m - 1) c' u' (woL rest k) (out ++ [eat rest k]) w6 := by
  obtain ⟨h1, h2, h3, h4, h5, h6, h7, h8⟩ := h
  have hkl : k < rest.length := by rw [h1.1]; exact hk.1
  have hlen : (woL rest k).length = m - 1 := by rw [woL_length hkl, h1.1]
  have s5 : Seen w w5 := Below.grown (h5.alloc o) hg (h5.alloc o).size (fun j hj => (h3.lt j hj).1)
  have hmem : ∀ y ∈ woL rest k, y ∈ rest := fun y hy => (woL_perm hkl).mem_iff.2 (List.mem_cons_of_mem _ hy)
  refine ⟨?_, hm, ?_, fun h0 b off e => ?_, s5.trans s6, ?_, ?_, ?_⟩
  · obtain ⟨a2, c2, e2, he, _⟩ := es_of_own hr6 hlen
    rw [hv] at e2; cases e2
    exact he
  · rw [flatE_append, List.length_append]
    exact row_seen hr s6
  · intro hb
    have l1 := (hr.lt b hb).2
    have l2 := hr6.lt b (by rw [hv, e]; rfl)
    omega
  · rw [List.append_assoc]
    exact (List.Perm.append_left out (woL_perm hkl).symm).trans h6
  · rw [List.pairwise_append]
    refine ⟨h7, List.pairwise_singleton .., fun x hx y hy => ?_⟩
    rw [List.mem_singleton] at hy
    rw [hy]; exact h8 x hx _ (eat_mem hkl)
  · intro x hx y hy
    rcases List.mem_append.1 hx with e | e
    · exact h8 x e y (hmem y hy)
    · rw [List.mem_singleton] at e
      obtain ⟨i, hi, ei⟩ := mem_eat (hmem y hy)
      rw [e, ← ei]; exact hk.2 i (by rw [← h1.1]; exact hi)
/-- What is left reads as it did behind the append. -/
theorem SI.left (h : SI w l0 a m c u rest out W) (h0 : 0 < m) {w5 : World} {o : Obj} (hg : (W.alloc o).grownBy w5 u.ownBlock) : ES w5 a m rest := by
  obtain ⟨h1, h2, h3, h4, h5, _⟩ := h
  obtain ⟨b, off, e, hc⟩ := h1.2 h0
  refine ⟨h1.1, fun _ => ⟨b, off, e, fun i hi => ?_⟩⟩
  have hb : b < W.heap.size := World.block_lt_of_cell? W _ (hc i hi).1
  have hk : w5.heap[b]? = W.heap[b]? := (hg.block b (by simp; omega) (fun e2 => h4 h0 b off e e2.symm)).trans (Below.heap_alloc W o b hb)
  have hcell : ∀ p, w5.cell? ⟨b, p, none⟩ = W.cell? ⟨b, p, none⟩ := fun p => World.cell?_of_block hk
  unfold At3
  rw [hcell, hcell, hcell]
  exact hc i hi
end
set_option maxHeartbeats 4000000 in
theorem refSorted_any (a : Option Addr) (n c : Nat) (l0 : List E3) (w : World) (h : ES w a n l0) (hc : n ≤ c) (hn : n ≤ 100000) :
    Calls Try.prog 15 #[.slice a n c] w fun e w' => (∃ v, e = .returned v ∧ w'.ownsRow w.heap.size 32 3 v n (flatE (srt l0))) ∧ Below w.heap.size w w' := by
  obtain ⟨i0, hi, hz0, hz1, hz2⟩ := info_parts info32
  have HL : Hid (l0.length = n) := h.1
  have H0 : Hid (SI w l0 a n c (.slice none 0 0) l0 [] w) := ⟨h, hc, World.ownsRow_nil _ _ _ _, (fun _ b off _ e => by cases e), Seen.refl _, List.Perm.refl _, List.Pairwise.nil, fun x hx => by cases hx⟩
  clear h hc
  go_enter Try.func15, Try.ntmps15
  go_wp2_with fail
  go_loopg [0, 3] (n + 1) (fun gh u0 u3 wr => ∃ (av : Option Addr) (m cv : Nat) (rest out : List E3), u0 = .slice av m cv ∧ m < gh ∧ SI w l0 av m cv u3 rest out wr)
  case atStart => exact ⟨a, n, c, l0, [], rfl, by omega, H0.out⟩
  case round =>
    obtain ⟨av, m, cv, rest, out, rfl, hg, hSI⟩ := hrel
    have HSI := Lib.hid hSI
    have hlen := hSI.len
    rw [HL.out] at hlen
    have hol : out.length ≤ 100000 := by omega
    have hml : m ≤ 100000 := by omega
    clear hSI
    rcases Nat.eq_zero_or_pos m with rfl | hpos
    · clear hlen
      go_wp2_with fail
      go_ret
      have e := HSI.out.done
      refine ⟨⟨_, rfl, ?_⟩, HSI.out.2.2.2.2.1⟩
      have hr := HSI.out.2.2.1
      rw [e, srt_length, HL.out] at hr
      exact hr
    · have hmm : (0 : Int) < (m : Int) := by omega
      obtain ⟨b, off, rfl, hat⟩ := HSI.out.1.2 hpos
      have HAT := Lib.hid hat
      clear hat hlen
      go_wp2_with fail
      refine (least_any _ m cv rest wr HSI.out.1 (by omega)).mono ?_
      rintro e w1 ⟨⟨r, rfl, hr⟩, s1⟩
      rcases hr with ⟨h0, _⟩ | ⟨k, rfl, hk⟩
      · omega
      have hkk : (k : Int) < (m : Int) := by have := hk.1; omega
      have hc3 := Seen.at3 s1 (HAT.out k hk.1)
      have z0 := hc3.1
      have z1 := hc3.2.1
      have z2 := hc3.2.2
      have HK := Lib.hid hk
      have HS1 := Lib.hid (HSI.out.seen s1)
      clear hk hc3 s1
      go_wp2_with (first
        | (at_builtin; refine wpList_append_rows _ rfl (.tmp 10) (.tmp 15) 28 rfl 32 i0 (.agg #[.int .i64 0, .int .i64 0, .int .i64 0]) 3 24 Try.underlying28 hi hz0 hz1 hz2 rfl (by decide) w.heap.size 0 _ _ _ rfl (HS1.out.2.2.1.alloc _) (.slice (some ⟨w1.heap.size, 0, none⟩) 1 1) 1 (flatE [eat rest k]) rfl (new_row3 w1 32 (eat rest k)) (flatE_one _) (by unfold maxLen; omega) (by omega) (HS1.out.2.2.2.2.1.alloc _).size ?_
           intro v5 w5 hown5 hgrow5 hat5
           have H5 := Lib.hid (And.intro hown5 hgrow5)
           clear hown5 hgrow5 hat5 z0 z1 z2)
        | (go_at_call 11; refine (without_any _ m cv rest k w5 (HS1.out.left hpos H5.out.2) HK.out.1 HS1.out.2.1 (by omega)).mono ?_
           rintro e w6 ⟨⟨v6, rfl, hr6⟩, b6⟩
           obtain ⟨a6, c6, rfl, _, hc6⟩ := es_of_own hr6 (by rw [woL_length (by rw [HS1.out.1.1]; exact HK.out.1), HS1.out.1.1])
           have H6 := Lib.hid (HS1.out.step HK.out H5.out.1 H5.out.2 b6 rfl hr6 hc6)
           clear hr6 b6))
      go_roundg (gk - 1)
      case rel => exact ⟨a6, m - 1, c6, woL rest k, out ++ [eat rest k], rfl, by omega, H6.out⟩
      case measure => omega
end Go.Proofs.Ytacdgfihabjfkaa
