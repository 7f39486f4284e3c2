/- Contract of the reference's Without: a new list without the one at a place. -/
import Derived.Test.YtacdgfihabjfkaaAppSrc
import Derived.Deep.RegionLaw
namespace Go.Proofs.Ytacdgfihabjfkaa
open Go.ChangeShapes Go.WideShapes Go.ChangeAt Go.RowKit
def headA (ad : Option Addr) (c : Nat) : Option Addr := if c = 0 then ad else ad.map (·.add (0 * 3))
theorem run_head (ad : Option Addr) (n c k : Nat) (hk : k ≤ c) (w : World) : (Instr.slice 28 (.slice ad n c) none (some (.int .i64 (k : Int))) none).run Try.prog w = .ok (.slice (headA ad c) k c) w := by
  unfold headA
  go_simp
theorem run_headAt (ad : Option Addr) (n c k : Nat) (hk : k ≤ c) (w : World) : (Instr.sliceAt 28 (.slice ad n c) none (some (.int .i64 (k : Int))) none).run Try.prog w = .ok (.slice (headA ad c) k c) w := by
  unfold headA
  go_simp
def tailA (ad : Option Addr) (c q : Nat) : Option Addr := if c = q then ad else ad.map (·.add (q * 3))
theorem run_tail (ad : Option Addr) (n c q : Nat) (hq : q ≤ n) (w : World) : (Instr.slice 28 (.slice ad n c) (some (.int .i64 (q : Int))) none none).run Try.prog w = .ok (.slice (tailA ad c q) (n - q) (c - q)) w := by
  unfold tailA
  go_simp
theorem run_tailAt (ad : Option Addr) (n c q : Nat) (hq : q ≤ n) (w : World) : (Instr.sliceAt 28 (.slice ad n c) (some (.int .i64 (q : Int))) none none).run Try.prog w = .ok (.slice (tailA ad c q) (n - q) (c - q)) w := by
  unfold tailA
  go_simp
theorem ES.head {W : World} {ad : Option Addr} {n k : Nat} {l : List E3} (h : ES W ad n l) (hk : k ≤ n) (c : Nat) : ES W (headA ad c) k (l.take k) := by
  refine ⟨by rw [List.length_take, h.1]; omega, fun h0 => ?_⟩
  obtain ⟨b, off, rfl, hcs⟩ := h.2 (by omega)
  refine ⟨b, off, ?_, fun i hi => ?_⟩
  · unfold headA; split
    · rfl
    · rw [Option.map_some, add_plain]; simp
  · rw [eat_take hi]; exact hcs i (by omega)
theorem ES.tail {W : World} {ad : Option Addr} {n c q : Nat} {l : List E3} (h : ES W ad n l) (hq : q ≤ n) (hc : n ≤ c) : ES W (tailA ad c q) (n - q) (l.drop q) := by
  refine ⟨by rw [List.length_drop, h.1], fun h0 => ?_⟩
  obtain ⟨b, off, rfl, hcs⟩ := h.2 (by omega)
  refine ⟨b, off + q * 3, ?_, fun i hi => ?_⟩
  · unfold tailA; rw [if_neg (by omega), Option.map_some, add_plain]
  · rw [eat_drop, show off + q * 3 + i * 3 = off + (q + i) * 3 by omega]
    exact hcs (q + i) (by omega)
theorem info32 : (Try.prog.info? 32).map (fun i => (i.zero, i.size, i.bytes)) = some (some (.agg #[.int .i64 0, .int .i64 0, .int .i64 0]), 3, 24) := by kernel_rfl
/-- A list without the one at a place. -/
def woL (l : List E3) (a : Nat) : List E3 := l.take a ++ l.drop (a + 1)
theorem woL_perm {l : List E3} {a : Nat} (h : a < l.length) : l.Perm (eat l a :: woL l a) := by
  unfold woL
  rw [eat_eq h]
  have e : l = l.take a ++ l[a] :: l.drop (a + 1) := by rw [List.getElem_cons_drop]; exact (List.take_append_drop a l).symm
  exact (List.Perm.of_eq e).trans List.perm_middle
theorem woL_length {l : List E3} {a : Nat} (h : a < l.length) : (woL l a).length = l.length - 1 := by
  unfold woL; rw [List.length_append, List.length_take, List.length_drop]; omega
set_option maxHeartbeats 4000000 in
theorem without_any (x : Addr) (n c : Nat) (l : List E3) (a : Nat) (w : World) (h : ES w (some x) n l) (ha : a < n) (hc : n ≤ c) (hn : n ≤ 1000000) :
    Calls Try.prog 11 #[.slice (some x) n c, .int .i64 a] w fun e w' => (∃ v, e = .returned v ∧ w'.ownsRow w.heap.size 32 3 v (n - 1) (flatE (woL l a))) ∧ Below w.heap.size w w' := by
  obtain ⟨i0, hi, hz0, hz1, hz2⟩ := info_parts info32
  have HA := Lib.hid h
  have HH := Lib.hid (src_of_es (c := c) (h.head (Nat.le_of_lt ha) c) (fun e => by unfold headA at e; split at e <;> simp at e))
  have HT := Lib.hid (src_of_es (c := c - (a + 1)) (h.tail (q := a + 1) ha hc) (fun e => by unfold tailA at e; split at e <;> simp at e))
  have q1 := run_head (some x) n c a (by omega)
  have q2 := run_headAt (some x) n c a (by omega)
  have q3 := run_tail (some x) n c (a + 1) ha
  have q4 := run_tailAt (some x) n c (a + 1) ha
  have e1 : (a : Int) + 1 = ((a + 1 : Nat) : Int) := by omega
  clear h
  obtain ⟨a1, ha1⟩ : ∃ a1, a1 = a + 1 := ⟨_, rfl⟩
  rw [← ha1] at q3 q4 e1
  have hb1 : a1 ≤ 2000000 := by omega
  have hwr : IntKind.i64.wrap (a1 : Int) = (a1 : Int) := IntWalk.i64_in _ (by omega)
  obtain ⟨y1, hy1⟩ : ∃ y, headA (some x) c = y := ⟨_, rfl⟩
  obtain ⟨y2, hy2⟩ : ∃ y, tailA (some x) c a1 = y := ⟨_, rfl⟩
  rw [hy1] at q1 q2 HH
  have HT2 : Hid (SrcC w (.slice y2 (n - a1) (c - a1)) (n - a1) 3 (flatE (l.drop a1))) := by rw [← hy2, ha1]; exact HT.out
  rw [hy2] at q3 q4
  have HA1 := Lib.hid ha1
  clear HT ha1 hy1 hy2
  go_enter Try.func11, Try.ntmps11
  go_wp2_with fail
  go_region_law ((first
    | (refine step_append_src _ rfl (.tmp 5) (.tmp 8) 28 rfl 32 i0 (.agg #[.int .i64 0, .int .i64 0, .int .i64 0]) 3 24 Try.underlying28 hi hz0 hz1 hz2 rfl (by decide) w.heap.size _ 0 [] rfl (World.ownsRow_made w #[] 0 (Nat.le_refl _) (by unfold maxLen; omega) rfl).drew (.slice y1 a c) a (flatE (l.take a)) rfl (src_seen HH.out ((Seen.refl w).alloc _).drew) (flatE_one _) (by unfold maxLen; omega) (by omega) (by simp) ?_; intro v1 w1 hown1 hgrow1 hat1; have s1 : Seen w w1 := Below.grown ((Seen.refl w).alloc _).drew hgrow1 (by simp) (fun k hk => Nat.le_of_eq (Option.some.inj hk)); have H1 := Lib.hid hown1; clear hgrow1 hat1 hown1)
    | (refine step_append_src _ rfl (.tmp 9) (.tmp 13) 28 rfl 32 i0 (.agg #[.int .i64 0, .int .i64 0, .int .i64 0]) 3 24 Try.underlying28 hi hz0 hz1 hz2 rfl (by decide) w.heap.size v1 (0 + a) _ rfl H1.out (.slice y2 (n - a1) (c - a1)) (n - a1) (flatE (l.drop a1)) rfl (src_seen HT2.out s1) (flatE_one _) (by unfold maxLen; omega) (by omega) s1.size ?_; intro v2 w2 hown2 hgrow2 hat2; have s2 : Seen w w2 := Below.grown s1 hgrow2 s1.size (fun k hk => (H1.out.lt k hk).1); have H2 := Lib.hid hown2; clear hgrow2 hat2 hown2)))
  go_wp2_with fail
  go_ret
  have h2 := H2.out
  have hl := HA.out.1
  refine ⟨⟨v2, rfl, ?_⟩, s2⟩
  have e1 : 0 + a + (n - a1) = n - 1 := by have := HA1.out; omega
  rw [e1, List.nil_append, ← flatE_append, HA1.out] at h2
  exact h2
end Go.Proofs.Ytacdgfihabjfkaa
