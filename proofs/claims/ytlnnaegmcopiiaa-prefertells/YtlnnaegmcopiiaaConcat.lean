/- Contracts of slices.Grow at nil and of slices.Concat, at slices of lengths; no conditions beyond those written in each theorem. -/
import Derived.Test.YtlnnaegmcopiiaaSty
import Derived.Lib.AppendZeros
import Derived.Deep.MidRow
namespace Go.Proofs.Ytlnnaegmcopiiaa
open Go.ChangeShapes Go.WideShapes Go.ChangeAt Go.RowKit
set_option maxRecDepth 100000
theorem info23 : (Try.prog.info? 35).map (fun i => (i.zero, i.size, i.bytes)) = some (some (.agg #[.int .i64 0, .int .i64 0]), 2, 16) := by kernel_rfl
/-- The answer is a new row of these lengths; nothing old has turned. -/
def RowL (l : List Ln) (w : World) (e : Ending) (w' : World) : Prop :=
  (∃ v, e = .returned v ∧ w'.ownsRow w.heap.size 35 2 v l.length (flatL l)) ∧ Seen w w'
set_option maxHeartbeats 2000000 in
theorem grow_nil (n : Nat) (w : World) (h0 : 0 < n) (hn : n ≤ 1000000) :
    Calls Try.prog 56 #[.slice none 0 0, .int .i64 n] w (RowL [] w) := by
  obtain ⟨i0, hi, hz0, hz1, hz2⟩ := info_parts info23
  have h1 : ¬ ((n : Int) < 0) := by omega
  have h4 : (n : Int) > 0 := by omega
  have hr := fun ty => Lib.run_append_nil_zeros w 64 3 ty 35 i0 _ .i64 .i64 Try.underlying64 Try.underlying3 hi hz0 n h0 (by rw [hz1]; omega) (by omega) (by rw [hz2]; omega)
  have hge := grownCap_ge w n 0 35
  have hle := grownCap_le_maxLen w n 0 35 (by unfold maxLen; omega)
  obtain ⟨G, hG⟩ : ∃ G, G = grownCap w n 0 35 := ⟨_, rfl⟩
  rw [← hG] at hr hge hle
  have hG63 : G ≤ 9223372036854775807 := by unfold maxLen at hle; omega
  have HR := Lib.hid hr
  clear hr hG
  go_enter Try.func56, Try.ntmps56
  go_wp2_with (at_builtin; refine Lib.wpList_append_run _ rfl _ _ _ _ rfl _ _ rfl rfl _ _ (HR.out _) ?_)
  all_goals
    go_ret
    refine ⟨⟨_, rfl, ?_⟩, ((Seen.refl w).drew).alloc _⟩
    refine World.ownsRow_made (base := w.heap.size) w.drew _ G (Nat.le_refl _) hle ?_
    rw [Array.size_append, size_zeroCells, size_zeroCells, ← Nat.add_mul, show n + (G - n) = G by omega]
    rfl
/-- A part: a slice and the lengths that it reads as. -/
structure Pt where
  a : Option Addr
  n : Nat
  c : Nat
  l : List Ln
def pv (q : Pt) : Value := .slice q.a q.n q.c
def allL (ps : List Pt) : List Ln := ps.flatMap Pt.l
def ptat (ps : List Pt) (i : Nat) : Pt := ps.getD i ⟨none, 0, 0, []⟩
theorem ptat_eq {ps : List Pt} {i : Nat} (h : i < ps.length) : ptat ps i = ps[i] := by
  unfold ptat; rw [List.getD_eq_getElem?_getD, List.getElem?_eq_getElem h]; rfl
theorem allL_step {ps : List Pt} {k : Nat} (h : k < ps.length) : allL (ps.take (k + 1)) = allL (ps.take k) ++ (ptat ps k).l := by
  unfold allL
  rw [List.take_succ_eq_append_getElem h, List.flatMap_append, ptat_eq h]; simp
theorem allL_le (ps : List Pt) (k : Nat) : (allL (ps.take k)).length ≤ (allL ps).length := by
  have : allL ps = allL (ps.take k) ++ allL (ps.drop k) := by unfold allL; rw [← List.flatMap_append, List.take_append_drop]
  rw [this, List.length_append]; omega
set_option maxHeartbeats 4000000 in
theorem concat_any (ps : List Pt) (b off m c : Nat) (w : World) (hm : ps.length = m) (hc : ∀ i, i < m → w.cell? ⟨b, off + i, none⟩ = some (pv (ptat ps i)))
    (hs : ∀ i, i < m → (ptat ps i).l.length = (ptat ps i).n ∧ SrcC w (pv (ptat ps i)) (ptat ps i).n 2 (flatL (ptat ps i).l)) (h0 : 0 < (allL ps).length) (hn : (allL ps).length ≤ 1000000) (hm6 : m ≤ 1000000) :
    Calls Try.prog 55 #[.slice (some ⟨b, off, none⟩) m c] w (RowL (allL ps) w) := by
  obtain ⟨i0, hi, hz0, hz1, hz2⟩ := info_parts info23
  have HC := Lib.hid hc
  have HS := Lib.hid hs
  have HM := Lib.hid hm
  clear hc hs hm
  go_enter Try.func55, Try.ntmps55
  go_wp2_with fail
  go_loopw [3, 11] (fun s i wr => ∃ k : Nat, k ≤ m ∧ s = .int .i64 ((allL (ps.take k)).length : Nat) ∧ i = .int .i64 k ∧ w = wr) (fun _ i _ => m - (intOf i).toNat)
  case atStart => exact ⟨0, Nat.zero_le _, rfl, rfl, rfl⟩
  case round =>
    obtain ⟨k, hk, rfl, rfl, rfl⟩ := hrel
    by_cases hlt : k < m
    · have hkm : (k : Int) < (m : Int) := by omega
      have ck := HC.out k hlt
      unfold pv at ck
      have hst : Hid (allL (ps.take (k + 1)) = allL (ps.take k) ++ (ptat ps k).l) := allL_step (by rw [HM.out]; exact hlt)
      have hle := allL_le ps (k + 1)
      have hsum : Hid ((allL (ps.take (k + 1))).length = (allL (ps.take k)).length + (ptat ps k).n) := by
        unfold Hid; rw [hst.out, List.length_append, (HS.out k hlt).1]
      have hle2 : (allL (ps.take k)).length + (ptat ps k).n ≤ 1000000 := by have := hsum.out; omega
      obtain ⟨S, hS⟩ : ∃ S, (allL (ps.take k)).length = S := ⟨_, rfl⟩
      rw [hS] at hle2 hsum ⊢
      have hneg : ¬ ((S : Int) + ((ptat ps k).n : Int) < 0) := by omega
      clear hle hS
      go_wp2_with fail
      refine ⟨⟨k + 1, hlt, by rw [hsum.out]; go_num, by go_num, trivial⟩, by simp [intOf]; omega⟩
    · have hkm : ¬ (k : Int) < (m : Int) := by omega
      have hall : Hid (allL (ps.take k) = allL ps) := by unfold Hid; rw [List.take_of_length_le (by rw [HM.out]; omega)]
      rw [hall.out]
      go_wp2_with (go_at_call 56; refine (grow_nil _ _ h0 hn).mono ?_; rintro _ w1 ⟨⟨v1, rfl, ho1⟩, hs1⟩; have R1 := Lib.hid (And.intro ho1 hs1); clear ho1 hs1)
      go_loopw [6, 27] (fun v i wz => ∃ k : Nat, k ≤ m ∧ i = .int .i64 k ∧ wz.ownsRow w.heap.size 35 2 v (allL (ps.take k)).length (flatL (allL (ps.take k))) ∧ Seen w wz) (fun _ i _ => m - (intOf i).toNat)
      case atStart => exact ⟨0, Nat.zero_le _, rfl, R1.out.1, R1.out.2⟩
      case round =>
        obtain ⟨j, hj, rfl, ho, hsn⟩ := hrel
        have HO := Lib.hid ho
        have HN := Lib.hid hsn
        clear ho hsn
        by_cases hlt2 : j < m
        · have hjm : (j : Int) < (m : Int) := by omega
          have cj := HN.out.cell (HC.out j hlt2)
          unfold pv at cj
          have hst : Hid (allL (ps.take (j + 1)) = allL (ps.take j) ++ (ptat ps j).l) := allL_step (by rw [HM.out]; exact hlt2)
          have hle := allL_le ps (j + 1)
          have hsum : Hid ((allL (ps.take (j + 1))).length = (allL (ps.take j)).length + (ptat ps j).n) := by
            unfold Hid; rw [hst.out, List.length_append, (HS.out j hlt2).1]
          have hle2 : (allL (ps.take j)).length + (ptat ps j).n ≤ 1000000 := by have := hsum.out; omega
          have hsrc : Hid (SrcC wr (.slice (ptat ps j).a (ptat ps j).n (ptat ps j).c) (ptat ps j).n 2 (flatL (ptat ps j).l)) := src_seen (HS.out j hlt2).2 HN.out
          go_wp2_with (at_builtin; refine wpList_append_src _ rfl (.tmp 31) (.tmp 32) 64 rfl 35 i0 _ 2 16 Try.underlying64 hi hz0 hz1 hz2 rfl (by decide) w.heap.size _ _ _ rfl HO.out (.slice (ptat ps j).a (ptat ps j).n (ptat ps j).c) (ptat ps j).n (flatL (ptat ps j).l) rfl hsrc.out (flatL_one _) (by unfold maxLen; omega) (by omega) HN.out.size ?_
                       intro v2 w2 ho2 hg2 hat2
                       have R2 := Lib.hid (And.intro ho2 hg2)
                       clear ho2 hg2 hat2)
          obtain ⟨ho2, hg2⟩ := R2.out
          refine ⟨⟨j + 1, hlt2, by go_num, by rw [hsum.out, hst.out, flatL_append]; exact ho2, Below.grown HN.out hg2 HN.out.size (fun i hi => (HO.out.lt i hi).1)⟩, by simp [intOf]; omega⟩
        · have hjm : ¬ (j : Int) < (m : Int) := by omega
          have hall2 : Hid (allL (ps.take j) = allL ps) := by unfold Hid; rw [List.take_of_length_le (by rw [HM.out]; omega)]
          go_wp2_with fail
          go_ret
          have := HO.out
          rw [hall2.out] at this
          exact ⟨⟨_, rfl, this⟩, HN.out⟩
end Go.Proofs.Ytlnnaegmcopiiaa
