/- Contracts of the law package's Of and Is; no conditions beyond those written in each theorem. -/
import Derived.Test.YtmcjabbfhhdmmaaPStack
import Derived.Test.YtmcjabbfhhdmmaaPArgs
namespace Go.Proofs.Ytmcjabbfhhdmmaa
open Go.ChangeShapes Go.WideShapes Go.ChangeAt Go.RowKit
set_option maxRecDepth 100000
set_option linter.unusedVariables false
theorem of_any (c : Ch) (w : World) : Calls Try.prog 7 #[chv c] w fun e w' => e = .returned (chv c) ∧ Seen w w' := by
  obtain ⟨⟨tp, tn⟩, ⟨bp, bn⟩, ⟨ip, inn⟩, thr, hi⟩ := c
  go_enter Try.func7, Try.ntmps7
  go_wp2_with fail
  go_returns
  exact ⟨rfl, by unfold Seen; go_grown⟩
theorem neq_self (w : World) (a b : Int) : (binOp .neq 30 (.agg #[.int .i64 a, .int .i64 b]) (.agg #[.int .i64 a, .int .i64 b])).run Try.prog w = .ok (.bool false) w := by go_simp
set_option maxHeartbeats 2000000 in
theorem is_any (q : Pi) (a a' : Option Addr) (n c c' : Nat) (w : World) (h : ZS w a n q.y) (h' : ZS w a' n q.y) (hn : n ≤ 1000000) :
    Calls Try.prog 10 #[piv (.slice a n c) q, piv (.slice a' n c') q] w fun e w' => e = .returned (.bool true) ∧ Seen w w' := by
  have H := Lib.hid h
  have H' := Lib.hid h'
  clear h h'
  obtain ⟨y, ed, ⟨tp, tn⟩, ⟨cp, cn⟩, att⟩ := q
  simp only at H H'
  have ns := neq_self
  obtain ⟨W, hW⟩ : ∃ W, W = (w.alloc (.cells #[.slice a n c, .int .i64 ed, .int .i64 tp, .int .i64 tn, .int .i64 cp, .int .i64 cn, .bool att] 35)).alloc (.cells #[.slice a' n c', .int .i64 ed, .int .i64 tp, .int .i64 tn, .int .i64 cp, .int .i64 cn, .bool att] 39) := ⟨_, rfl⟩
  have sW : Seen w W := by rw [hW]; exact ((Seen.refl w).alloc _).alloc _
  have k1 : Blk W w.heap.size (pil (.slice a n c) ⟨y, ed, ⟨tp, tn⟩, ⟨cp, cn⟩, att⟩) 35 := by rw [hW]; exact (Blk.new w _ _).alloc _
  have k2 : Blk W (w.heap.size + 1) (pil (.slice a' n c') ⟨y, ed, ⟨tp, tn⟩, ⟨cp, cn⟩, att⟩) 39 := by rw [hW]; simpa using Blk.new (w.alloc (.cells #[.slice a n c, .int .i64 ed, .int .i64 tp, .int .i64 tn, .int .i64 cp, .int .i64 cn, .bool att] 35)) (pil (.slice a' n c') ⟨y, ed, ⟨tp, tn⟩, ⟨cp, cn⟩, att⟩) 39
  have r1 := k1.rulesP
  have r2 := k2.rulesP
  have HS := Lib.hid sW
  have sr := Seen.refl W
  simp only at r1 r2
  clear k1 k2
  go_enter Try.func10, Try.ntmps10
  go_upto_region 1 with fail
  rw [← hW]
  clear hW sW
  go_cut [40] (fun v wx => (v = .bool false ∧ wx = W) : Value → World → Prop)
  case first =>
    cases att
    · go_wp2_with fail
      go_meet
      exact ⟨rfl, rfl⟩
    · go_wp2_with fail
      go_meet
      exact ⟨rfl, rfl⟩
  obtain ⟨rfl, rfl⟩ := hcut
  go_wp2_with fail
  go_loopw [44] (fun i wr => ∃ k : Nat, k ≤ n ∧ i = .int .i64 k ∧ Seen wc wr) (fun i _ => n - (intOf i).toNat)
  case atStart => exact ⟨0, Nat.zero_le _, rfl, sr⟩
  case round =>
    obtain ⟨k, hk, rfl, hs⟩ := hrel
    have S1 := Lib.hid hs
    by_cases hlt : k < n
    · obtain ⟨b, off, rfl, hc⟩ := H.out.2 (by omega : 0 < n)
      obtain ⟨b', off', rfl, hc'⟩ := H'.out.2 (by omega : 0 < n)
      have c1 := S1.out.cell (HS.out.cell (hc k hlt))
      have c2 := S1.out.cell (HS.out.cell (hc' k hlt))
      obtain ⟨z, hz⟩ : ∃ z, zat y k = z := ⟨_, rfl⟩
      rw [hz] at c1 c2
      obtain ⟨x0, -⟩ := r1 _ hs
      obtain ⟨y0, -⟩ := r2 _ hs
      clear hc hc' hz r1 r2 hs sr
      go_wp2_with fail
      go_quiet (fail)
      go_wp2_with fail
      go_roundw
      case rel => exact ⟨k + 1, by omega, by go_num, Seen.next S1.out (Go.Joins.below_draws _ _ _)⟩
      case measure => simp [intOf]; omega
    · obtain rfl : k = n := by omega
      clear r1 r2 hs sr
      go_wp2_with fail
      go_ret
      exact ⟨rfl, HS.out.trans S1.out⟩
end Go.Proofs.Ytmcjabbfhhdmmaa
