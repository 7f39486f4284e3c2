/- What an asked reads as; contract of awake; no conditions beyond those written in each theorem. -/
import Derived.Test.YtodkkjpeonibnaaSolve
namespace Go.Proofs.Ytodkkjpeonibnaa
open Go.ChangeShapes Go.WideShapes Go.ChangeAt Go.RowKit
set_option maxRecDepth 100000
theorem AS.new (w : World) (a0 a1 a2 f : Int) : AS (w.alloc (.cells #[.int .i64 a0, .int .i64 a1, .int .i64 a2, .int .i64 f, .slice none 0 0] 29)) w.heap.size a0 a1 a2 f [] :=
  ⟨_, Blk.new w _ _, rfl, .inl ⟨rfl, rfl⟩⟩
def szAt (l : List Sz) (i : Nat) : Sz := l.getD i ⟨false, 0⟩
theorem flatZ_at (l : List Sz) {i : Nat} (hi : i < l.length) : (flatZ l)[i * 2]? = some (.bool (szAt l i).au) ∧ (flatZ l)[i * 2 + 1]? = some (.int .i64 (szAt l i).n) := by
  induction l generalizing i with
  | nil => simp at hi
  | cons a l ih =>
    cases i with
    | zero => exact ⟨rfl, rfl⟩
    | succ i =>
      have h := ih (i := i) (by simpa using hi)
      have e : (i + 1) * 2 = i * 2 + 2 := by omega
      rw [e]
      exact h
/-- A row of sizes, read. -/
theorem row_reads {w : World} {base : Nat} {e : TypeId} {v : Value} {l : List Sz} {k : Nat} (h : w.ownsRow base e 2 v l.length (flatZ l)) (hk : l.length = k + 1) :
    ∃ g cap, v = .slice (some ⟨g, 0, none⟩) (k + 1) cap ∧ ∀ i, i < k + 1 → w.cell? ⟨g, i * 2, none⟩ = some (.bool (szAt l i).au) ∧ w.cell? ⟨g, i * 2 + 1, none⟩ = some (.int .i64 (szAt l i).n) := by
  rw [hk] at h
  obtain ⟨g, cap, rfl⟩ := ownsRow_succ h
  refine ⟨g, cap, rfl, fun i hi => ?_⟩
  have hl := flatZ_at l (i := i) (by omega)
  exact ⟨(h.cellAt (i * 2) (by omega)).trans hl.1, (h.cellAt (i * 2 + 1) (by omega)).trans hl.2⟩
theorem AS.reads {w : World} {B : Nat} {a0 a1 a2 f : Int} {l : List Sz} {k : Nat} (h : AS w B a0 a1 a2 f l) (hk : l.length = k + 1) :
    ∃ g cap, w.cell? ⟨B, 4, none⟩ = some (.slice (some ⟨g, 0, none⟩) (k + 1) cap) ∧ ∀ i, i < k + 1 → w.cell? ⟨g, i * 2, none⟩ = some (.bool (szAt l i).au) ∧ w.cell? ⟨g, i * 2 + 1, none⟩ = some (.int .i64 (szAt l i).n) := by
  obtain ⟨sv, h1, h2⟩ := h
  obtain ⟨g, cap, rfl, hc⟩ := row_reads h2 hk
  exact ⟨g, cap, h1.cell 4, hc⟩
theorem awake_any (w : World) : Calls Try.prog 6 #[] w fun e w' => e = .returned (.bool true) ∧ Below w.heap.size w w' := by
  have hmf : ∀ (fn : Fn) (first cap : Array Value) (w : World), (Instr.makeFunc fn first cap).run Try.prog w = .ok (.func fn first cap) w := fun _ _ _ _ => rfl
  obtain ⟨W, hW⟩ : ∃ W, W = w.alloc (.cells #[.int .i64 5, .int .i64 5, .int .i64 5, .int .i64 9, .slice none 0 0] 29) := ⟨_, rfl⟩
  have hA : AS W w.heap.size 5 5 5 9 [] := by rw [hW]; exact AS.new w 5 5 5 9
  have hb := Lib.hid (show Below w.heap.size w W by rw [hW]; exact (Seen.refl w).alloc _)
  have HC := solve_any w.heap.size 5 5 5 9 ⟨true, 0⟩ 0 9 W hA (by decide)
  rw [show gotN (askedL ⟨true, 0⟩ 0 9 5 5) 9 = 1 by decide, show gotB (askedL ⟨true, 0⟩ 0 9 5 5) 9 = true by decide, show gotL (askedL ⟨true, 0⟩ 0 9 5 5) 9 = [⟨true, 0⟩] by decide] at HC
  clear hA
  go_enter Try.func6, Try.ntmps6
  go_wp2_with (go_at_call 7; rw [← hW]; clear hW; refine HC.mono ?_; clear HC; rintro e w1 ⟨rfl, hA, hB⟩; obtain ⟨g, cap, c4, _⟩ := hA.reads (k := 0) rfl; have HE := Lib.hid (hb.out.trans hB); clear hA hB)
  go_ret
  exact ⟨rfl, HE.out⟩
end Go.Proofs.Ytodkkjpeonibnaa
