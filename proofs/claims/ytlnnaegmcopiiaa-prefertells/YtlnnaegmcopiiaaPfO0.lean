/- Loads of a style, seven numbers in a row; no conditions beyond those written in each theorem. -/
import Derived.Test.YtlnnaegmcopiiaaPfU
import Derived.Test.YtlnnaegmcopiiaaKinAt
import Derived.Test.YtlnnaegmcopiiaaSums
import Derived.Test.YtlnnaegmcopiiaaAwake
namespace Go.Proofs.Ytlnnaegmcopiiaa
open Go.ChangeShapes Go.WideShapes Go.ChangeAt Go.RowKit
set_option maxRecDepth 100000
theorem ldc2 {w : World} {a : Addr} {v : Value} (h : w.cell? a = some v) : (Instr.loadAt 2 (.pointer (some a))).run Try.prog w = .ok v w := by
  simp [Instr.loadAt, Instr.sureAddr, loadVar, Try.isAgg2, h]
theorem sz35 : (Try.prog.info? 35).map (·.size) = some 2 := by kernel_rfl
theorem lda35 {w : World} {X o : Nat} {vs : List Value} (h : w.rangeAt X o vs) (hl : vs.length = 2) : (Instr.loadAt 35 (.pointer (some ⟨X, o, none⟩))).run Try.prog w = .ok (.agg vs.toArray) w :=
  run_loadAt_mid w X o 35 vs _ h Try.underlying35 rfl (by rw [hl]; exact sz35)
/-- A length of a style, as it lies. -/
theorem ldLen {w : World} {X : Nat} {s : Sty} (h : Hs w X s) (hf : Full s) {i o : Nat} (hi : i < 18) (ho : o = 2 + i * 2) {k n : Int} (hk : lat s.lens i = ⟨k, n⟩) :
    (Instr.loadAt 35 (.pointer (some ⟨X, o, none⟩))).run Try.prog w = .ok (.agg #[.int .i64 k, .int .i64 n]) w := by
  subst ho
  refine lda35 (vs := [.int .i64 k, .int .i64 n]) (fun j v hj => ?_) rfl
  have e := stl_len hf hi
  rw [hk] at e
  match j, hj with
  | 0, hj => simp at hj; subst hj; exact (h.at (2 + i * 2)).trans e.1
  | 1, hj => simp at hj; subst hj; exact (h.at (2 + i * 2 + 1)).trans e.2
theorem ldBord {w : World} {X : Nat} {s : Sty} (h : Hs w X s) (hf : Full s) {i o : Nat} (hi : i < 4) (ho : o = 38 + i) {n : Int} (hk : bat s.bord i = n) :
    (Instr.loadAt 2 (.pointer (some ⟨X, o, none⟩))).run Try.prog w = .ok (.int .i64 n) w := by
  subst ho
  refine ldc2 ?_
  rw [← hk]
  exact (h.at (38 + i)).trans (stl_bord hf hi)
theorem zi_seven (w : World) (a b c d e f g : Int) (t : TypeId) : ZI (w.alloc (.cells #[.int .i64 a, .int .i64 b, .int .i64 c, .int .i64 d, .int .i64 e, .int .i64 f, .int .i64 g] t)) (some ⟨w.heap.size, 0, none⟩) 7 [a, b, c, d, e, f, g] := by
  have k : Blk (w.alloc (.cells #[.int .i64 a, .int .i64 b, .int .i64 c, .int .i64 d, .int .i64 e, .int .i64 f, .int .i64 g] t)) w.heap.size [.int .i64 a, .int .i64 b, .int .i64 c, .int .i64 d, .int .i64 e, .int .i64 f, .int .i64 g] t := Blk.new w _ _
  refine ⟨rfl, fun _ => ⟨_, _, rfl, fun i hi => ?_⟩⟩
  rcases (show i = 0 ∨ i = 1 ∨ i = 2 ∨ i = 3 ∨ i = 4 ∨ i = 5 ∨ i = 6 by omega) with rfl | rfl | rfl | rfl | rfl | rfl | rfl
  · exact k.cell 0
  · exact k.cell 1
  · exact k.cell 2
  · exact k.cell 3
  · exact k.cell 4
  · exact k.cell 5
  · exact k.cell 6
theorem prA_sum (zs : List Int) : prA (if sumB zs then some (sumN zs) else none) = .tuple #[.int .i64 (sumN zs), .bool (sumB zs)] := by
  cases h : sumB zs
  · have : sumN zs = 0 := by unfold sumN; rw [h]; rfl
    rw [this]; rfl
  · rfl
end Go.Proofs.Ytlnnaegmcopiiaa
