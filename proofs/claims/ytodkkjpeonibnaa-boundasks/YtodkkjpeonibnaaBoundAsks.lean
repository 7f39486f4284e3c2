/- Proved: for every size, all int64 bounds, all answers and every place of failing the law BoundAsks returns true, and its arguments read afterwards as before; no conditions. -/
import Derived.Test.YtodkkjpeonibnaaRows
import Derived.WalkKit
import Derived.Test.YtodkkjpeonibnaaRefAsked
import Derived.Test.YtodkkjpeonibnaaArgs
import Derived.ProofKit
import Derived.OpenShut
import Derived.ShutString
import Derived.ChangeOld
import Derived.Below
namespace Go.Proofs.Ytodkkjpeonibnaa.boundAsks
open Go.ChangeShapes Go.WideShapes Go.ChangeAt Go.RowKit
set_option linter.unusedVariables false

theorem own : ownKnob Try.prog.godebug = none := by kernel_rfl
theorem laidOut : laidOutB Try.prog = true := by kernel_rfl

theorem row_reads' {w : World} {base : Nat} {e : TypeId} {v : Value} {l : List Sz} {n : Nat} (h : w.ownsRow base e 2 v l.length (flatZ l)) (hn : l.length = n) (h0 : 0 < n) :
    ∃ g cap, v = .slice (some ⟨g, 0, none⟩) n cap ∧ ∀ i, i < n → w.cell? ⟨g, i * 2, none⟩ = some (.bool (szAt l i).au) ∧ w.cell? ⟨g, i * 2 + 1, none⟩ = some (.int .i64 (szAt l i).n) := by
  obtain ⟨k, rfl⟩ : ∃ k, n = k + 1 := ⟨n - 1, by omega⟩
  exact row_reads h hn
theorem as_reads' {w : World} {B : Nat} {a0 a1 a2 f : Int} {l : List Sz} {n : Nat} (h : AS w B a0 a1 a2 f l) (hn : l.length = n) (h0 : 0 < n) :
    ∃ g cap, w.cell? ⟨B, 4, none⟩ = some (.slice (some ⟨g, 0, none⟩) n cap) ∧ ∀ i, i < n → w.cell? ⟨g, i * 2, none⟩ = some (.bool (szAt l i).au) ∧ w.cell? ⟨g, i * 2 + 1, none⟩ = some (.int .i64 (szAt l i).n) := by
  obtain ⟨k, rfl⟩ : ∃ k, n = k + 1 := ⟨n - 1, by omega⟩
  exact h.reads hn
/-- The loop's cells: both rows hold the same sizes. -/
structure Rows2 (w : World) (B m g g2 : Nat) (cap2 : Nat) (L : List Sz) : Prop where
  at4 : w.cell? ⟨B, 4, none⟩ = some (.slice (some ⟨g2, 0, none⟩) m cap2)
  one : ∀ i, i < m → w.cell? ⟨g2, i * 2, none⟩ = some (.bool (szAt L i).au) ∧ w.cell? ⟨g2, i * 2 + 1, none⟩ = some (.int .i64 (szAt L i).n)
  two : ∀ i, i < m → w.cell? ⟨g, i * 2, none⟩ = some (.bool (szAt L i).au) ∧ w.cell? ⟨g, i * 2 + 1, none⟩ = some (.int .i64 (szAt L i).n)
set_option maxHeartbeats 4000000 in
theorem walk_a (s : Sz) (least most : Int) (a0 a1 a2 : Int) (x : Int) (f : Int) (w : World) (hx : wrap64 (x.tmod 5) = f) (hf0 : 0 ≤ f) (hf4 : f ≤ 4) (L : List Sz) (hL : askedL s least most a0 a1 = L) (N m : Nat) (hN : L.length = N) (hN0 : 0 < N) (hN3 : N ≤ 3) (hm0 : 0 < m) (hmN : m ≤ N)
    (M : List Sz) (hM : gotL L f = M) (hml : M.length = m) (hML : ∀ i, i < m → szAt M i = szAt L i) (hr : gotN L f = 0) (hc : gotB L f = false) (e2 : f + 1 < (N : Int)) (e3 : ¬ (N : Int) ≤ f) (e4 : ((m : Int) != f + 1) = false) :
    Calls Try.prog 3 #[.agg #[.bool s.au, .int .i64 s.n], .int .i64 least, .int .i64 most, .agg #[.int .i64 a0, .int .i64 a1, .int .i64 a2], .int .u8 x] w fun e w' => e = .returned (.bool true) ∧ Below w.heap.size w w' := by
  have hmf : ∀ (fn : Fn) (first cap : Array Value) (w : World), (Instr.makeFunc fn first cap).run Try.prog w = .ok (.func fn first cap) w := fun _ _ _ _ => rfl
  obtain ⟨W, hW⟩ : ∃ W, W = (w.alloc (.cells #[.bool s.au, .int .i64 s.n] 23)).alloc (.cells #[.int .i64 a0, .int .i64 a1, .int .i64 a2] 24) := ⟨_, rfl⟩
  have sw : Seen w W := by rw [hW]; exact ((Seen.refl w).alloc _).alloc _
  have k0 : Blk W w.heap.size [.bool s.au, .int .i64 s.n] 23 := by rw [hW]; exact (Blk.new w _ _).alloc _
  have k1 : Blk W (w.heap.size + 1) [.int .i64 a0, .int .i64 a1, .int .i64 a2] 24 := by rw [hW]; simpa using Blk.new (w.alloc (.cells #[.bool s.au, .int .i64 s.n] 23)) [.int .i64 a0, .int .i64 a1, .int .i64 a2] 24
  have K := Lib.hid (And.intro sw (And.intro k0 k1))
  clear k0 k1 sw
  have SA := fun (B : Nat) (W : World) (hA : AS W B a0 a1 a2 f []) => solve_any B a0 a1 a2 f s least most W hA hf0
  have RA := fun (W : World) => refAsked_any s least most a0 a1 a2 W
  rw [hL] at SA RA
  rw [hr, hc, hM] at SA
  have HH := Lib.hid (And.intro hN (And.intro hml hML))
  clear hL hr hc hM hN hml hML
  have nn : ((N : Int) == (N : Int)) = true := by simp
  go_enter Try.func3, Try.ntmps3
  go_wp2_with (first
    | (go_at_call 6; rw [← hW]; clear hW; refine (awake_any _).mono ?_; rintro e w1 ⟨rfl, hb⟩; have S1 := Lib.hid (show Seen W w1 from hb); have d0 := (K.out.2.2.seen hb).cell 0; have d1 := (K.out.2.2.seen hb).cell 1; have d2 := (K.out.2.2.seen hb).cell 2; have c0 := fun o => ((K.out.2.1.seen hb).alloc o).cell 0; have c1 := fun o => ((K.out.2.1.seen hb).alloc o).cell 1; clear hb)
    | (go_at_call 7; rw [hx]; refine (SA w1.heap.size _ (AS.new w1 a0 a1 a2 f)).mono ?_; clear SA; rintro e w2 ⟨rfl, hA, hb⟩; have s2 : Seen W w2 := Below.trans (S1.out.alloc _) (hb.mono S1.out.size); clear c0 c1; have c0 := (K.out.2.1.seen s2).cell 0; have c1 := (K.out.2.1.seen s2).cell 1; have d0 := (K.out.2.2.seen s2).cell 0; have d1 := (K.out.2.2.seen s2).cell 1; have d2 := (K.out.2.2.seen s2).cell 2; have HA := Lib.hid (And.intro hA s2); clear hA hb s2)
    | (go_at_call 9; refine (RA _).mono ?_; clear RA; rintro e w3 ⟨v, rfl, hR, hs⟩; obtain ⟨g, cap, rfl, hg⟩ := row_reads' hR HH.out.1 hN0; obtain ⟨g2, cap2, c4, hg2⟩ := as_reads' (HA.out.1.seen hs) HH.out.2.1 hm0; have HR := Lib.hid (show Rows2 w3 w1.heap.size m g g2 cap2 L ∧ Seen W w3 from ⟨⟨c4, fun i hi => by rw [← HH.out.2.2 i hi]; exact hg2 i hi, fun i hi => hg i (by omega)⟩, HA.out.2.trans hs⟩); clear hR hs HA c0 c1 d0 d1 d2 hg hg2))
  clear c4
  go_loopw [59] (fun i wr => ∃ k : Nat, k ≤ m ∧ i = .int .i64 k ∧ Seen w3 wr) (fun i _ => m - (intOf i).toNat)
  case atStart => exact ⟨0, Nat.zero_le _, rfl, Seen.refl _⟩
  case round =>
    obtain ⟨k, hk, rfl, hs⟩ := hrel
    have S3 := Lib.hid hs
    clear hs
    have c4 := S3.out.cell HR.out.1.at4
    by_cases hlt : k < m
    · have hk' : (k : Int) < (m : Int) := by omega
      have hkN : (k : Int) < (N : Int) := by omega
      have hkn : k < N := by omega
      have p0 := S3.out.cell (HR.out.1.one k hlt).1
      have p1 := S3.out.cell (HR.out.1.one k hlt).2
      have q0 := S3.out.cell (HR.out.1.two k hlt).1
      have q1 := S3.out.cell (HR.out.1.two k hlt).2
      obtain ⟨u, hu⟩ : ∃ u, (szAt L k).au = u := ⟨_, rfl⟩
      obtain ⟨z, hz⟩ : ∃ z, (szAt L k).n = z := ⟨_, rfl⟩
      rw [hu] at p0 q0
      rw [hz] at p1 q1
      clear hu hz
      go_wp2_with fail
      go_quiet (fail)
      go_wp2_with fail
      go_roundw
      case rel => exact ⟨k + 1, by omega, by go_num, Seen.next S3.out (Go.Joins.below_draws _ _ _)⟩
      case measure => simp [intOf]; omega
    · have hk' : ¬ (k : Int) < (m : Int) := by omega
      go_wp2_with fail
      go_ret
      exact ⟨rfl, K.out.1.trans (HR.out.2.trans S3.out)⟩
set_option maxHeartbeats 4000000 in
theorem walk_b (s : Sz) (least most : Int) (a0 a1 a2 : Int) (x : Int) (f : Int) (w : World) (hx : wrap64 (x.tmod 5) = f) (hf0 : 0 ≤ f) (hf4 : f ≤ 4) (L : List Sz) (hL : askedL s least most a0 a1 = L) (N : Nat) (hN : L.length = N) (hN0 : 0 < N) (hN3 : N ≤ 3) (hm0 : 0 < N) (hmN : N ≤ N)
    (M : List Sz) (hM : gotL L f = M) (hml : M.length = N) (hML : ∀ i, i < N → szAt M i = szAt L i) (hr : gotN L f = 0) (hc : gotB L f = false) (e2 : ¬ f + 1 < (N : Int)) (e3 : ¬ (N : Int) ≤ f) :
    Calls Try.prog 3 #[.agg #[.bool s.au, .int .i64 s.n], .int .i64 least, .int .i64 most, .agg #[.int .i64 a0, .int .i64 a1, .int .i64 a2], .int .u8 x] w fun e w' => e = .returned (.bool true) ∧ Below w.heap.size w w' := by
  have hmf : ∀ (fn : Fn) (first cap : Array Value) (w : World), (Instr.makeFunc fn first cap).run Try.prog w = .ok (.func fn first cap) w := fun _ _ _ _ => rfl
  obtain ⟨W, hW⟩ : ∃ W, W = (w.alloc (.cells #[.bool s.au, .int .i64 s.n] 23)).alloc (.cells #[.int .i64 a0, .int .i64 a1, .int .i64 a2] 24) := ⟨_, rfl⟩
  have sw : Seen w W := by rw [hW]; exact ((Seen.refl w).alloc _).alloc _
  have k0 : Blk W w.heap.size [.bool s.au, .int .i64 s.n] 23 := by rw [hW]; exact (Blk.new w _ _).alloc _
  have k1 : Blk W (w.heap.size + 1) [.int .i64 a0, .int .i64 a1, .int .i64 a2] 24 := by rw [hW]; simpa using Blk.new (w.alloc (.cells #[.bool s.au, .int .i64 s.n] 23)) [.int .i64 a0, .int .i64 a1, .int .i64 a2] 24
  have K := Lib.hid (And.intro sw (And.intro k0 k1))
  clear k0 k1 sw
  have SA := fun (B : Nat) (W : World) (hA : AS W B a0 a1 a2 f []) => solve_any B a0 a1 a2 f s least most W hA hf0
  have RA := fun (W : World) => refAsked_any s least most a0 a1 a2 W
  rw [hL] at SA RA
  rw [hr, hc, hM] at SA
  have HH := Lib.hid (And.intro hN (And.intro hml hML))
  clear hL hr hc hM hN hml hML
  have nn : ((N : Int) == (N : Int)) = true := by simp
  go_enter Try.func3, Try.ntmps3
  go_wp2_with (first
    | (go_at_call 6; rw [← hW]; clear hW; refine (awake_any _).mono ?_; rintro e w1 ⟨rfl, hb⟩; have S1 := Lib.hid (show Seen W w1 from hb); have d0 := (K.out.2.2.seen hb).cell 0; have d1 := (K.out.2.2.seen hb).cell 1; have d2 := (K.out.2.2.seen hb).cell 2; have c0 := fun o => ((K.out.2.1.seen hb).alloc o).cell 0; have c1 := fun o => ((K.out.2.1.seen hb).alloc o).cell 1; clear hb)
    | (go_at_call 7; rw [hx]; refine (SA w1.heap.size _ (AS.new w1 a0 a1 a2 f)).mono ?_; clear SA; rintro e w2 ⟨rfl, hA, hb⟩; have s2 : Seen W w2 := Below.trans (S1.out.alloc _) (hb.mono S1.out.size); clear c0 c1; have c0 := (K.out.2.1.seen s2).cell 0; have c1 := (K.out.2.1.seen s2).cell 1; have d0 := (K.out.2.2.seen s2).cell 0; have d1 := (K.out.2.2.seen s2).cell 1; have d2 := (K.out.2.2.seen s2).cell 2; have HA := Lib.hid (And.intro hA s2); clear hA hb s2)
    | (go_at_call 9; refine (RA _).mono ?_; clear RA; rintro e w3 ⟨v, rfl, hR, hs⟩; obtain ⟨g, cap, rfl, hg⟩ := row_reads' hR HH.out.1 hN0; obtain ⟨g2, cap2, c4, hg2⟩ := as_reads' (HA.out.1.seen hs) HH.out.2.1 hm0; have HR := Lib.hid (show Rows2 w3 w1.heap.size N g g2 cap2 L ∧ Seen W w3 from ⟨⟨c4, fun i hi => by rw [← HH.out.2.2 i hi]; exact hg2 i hi, fun i hi => hg i (by omega)⟩, HA.out.2.trans hs⟩); clear hR hs HA c0 c1 d0 d1 d2 hg hg2))
  clear c4
  go_loopw [59] (fun i wr => ∃ k : Nat, k ≤ N ∧ i = .int .i64 k ∧ Seen w3 wr) (fun i _ => N - (intOf i).toNat)
  case atStart => exact ⟨0, Nat.zero_le _, rfl, Seen.refl _⟩
  case round =>
    obtain ⟨k, hk, rfl, hs⟩ := hrel
    have S3 := Lib.hid hs
    clear hs
    have c4 := S3.out.cell HR.out.1.at4
    by_cases hlt : k < N
    · have hk' : (k : Int) < (N : Int) := by omega
      have hkN : (k : Int) < (N : Int) := by omega
      have hkn : k < N := by omega
      have p0 := S3.out.cell (HR.out.1.one k hlt).1
      have p1 := S3.out.cell (HR.out.1.one k hlt).2
      have q0 := S3.out.cell (HR.out.1.two k hlt).1
      have q1 := S3.out.cell (HR.out.1.two k hlt).2
      obtain ⟨u, hu⟩ : ∃ u, (szAt L k).au = u := ⟨_, rfl⟩
      obtain ⟨z, hz⟩ : ∃ z, (szAt L k).n = z := ⟨_, rfl⟩
      rw [hu] at p0 q0
      rw [hz] at p1 q1
      clear hu hz
      go_wp2_with fail
      go_quiet (fail)
      go_wp2_with fail
      go_roundw
      case rel => exact ⟨k + 1, by omega, by go_num, Seen.next S3.out (Go.Joins.below_draws _ _ _)⟩
      case measure => simp [intOf]; omega
    · have hk' : ¬ (k : Int) < (N : Int) := by omega
      go_wp2_with fail
      go_ret
      exact ⟨rfl, K.out.1.trans (HR.out.2.trans S3.out)⟩
set_option maxHeartbeats 4000000 in
theorem walk_c (s : Sz) (least most : Int) (a0 a1 a2 : Int) (x : Int) (f : Int) (w : World) (hx : wrap64 (x.tmod 5) = f) (hf0 : 0 ≤ f) (hf4 : f ≤ 4) (L : List Sz) (hL : askedL s least most a0 a1 = L) (N : Nat) (hN : L.length = N) (hN0 : 0 < N) (hN3 : N ≤ 3) (hm0 : 0 < N) (hmN : N ≤ N)
    (M : List Sz) (hM : gotL L f = M) (hml : M.length = N) (hML : ∀ i, i < N → szAt M i = szAt L i) (hr : gotN L f = (N : Int)) (hc : gotB L f = true) (e2 : ¬ f + 1 < (N : Int)) (e3 : (N : Int) ≤ f) :
    Calls Try.prog 3 #[.agg #[.bool s.au, .int .i64 s.n], .int .i64 least, .int .i64 most, .agg #[.int .i64 a0, .int .i64 a1, .int .i64 a2], .int .u8 x] w fun e w' => e = .returned (.bool true) ∧ Below w.heap.size w w' := by
  have hmf : ∀ (fn : Fn) (first cap : Array Value) (w : World), (Instr.makeFunc fn first cap).run Try.prog w = .ok (.func fn first cap) w := fun _ _ _ _ => rfl
  obtain ⟨W, hW⟩ : ∃ W, W = (w.alloc (.cells #[.bool s.au, .int .i64 s.n] 23)).alloc (.cells #[.int .i64 a0, .int .i64 a1, .int .i64 a2] 24) := ⟨_, rfl⟩
  have sw : Seen w W := by rw [hW]; exact ((Seen.refl w).alloc _).alloc _
  have k0 : Blk W w.heap.size [.bool s.au, .int .i64 s.n] 23 := by rw [hW]; exact (Blk.new w _ _).alloc _
  have k1 : Blk W (w.heap.size + 1) [.int .i64 a0, .int .i64 a1, .int .i64 a2] 24 := by rw [hW]; simpa using Blk.new (w.alloc (.cells #[.bool s.au, .int .i64 s.n] 23)) [.int .i64 a0, .int .i64 a1, .int .i64 a2] 24
  have K := Lib.hid (And.intro sw (And.intro k0 k1))
  clear k0 k1 sw
  have SA := fun (B : Nat) (W : World) (hA : AS W B a0 a1 a2 f []) => solve_any B a0 a1 a2 f s least most W hA hf0
  have RA := fun (W : World) => refAsked_any s least most a0 a1 a2 W
  rw [hL] at SA RA
  rw [hr, hc, hM] at SA
  have HH := Lib.hid (And.intro hN (And.intro hml hML))
  clear hL hr hc hM hN hml hML
  have nn : ((N : Int) == (N : Int)) = true := by simp
  go_enter Try.func3, Try.ntmps3
  go_wp2_with (first
    | (go_at_call 6; rw [← hW]; clear hW; refine (awake_any _).mono ?_; rintro e w1 ⟨rfl, hb⟩; have S1 := Lib.hid (show Seen W w1 from hb); have d0 := (K.out.2.2.seen hb).cell 0; have d1 := (K.out.2.2.seen hb).cell 1; have d2 := (K.out.2.2.seen hb).cell 2; have c0 := fun o => ((K.out.2.1.seen hb).alloc o).cell 0; have c1 := fun o => ((K.out.2.1.seen hb).alloc o).cell 1; clear hb)
    | (go_at_call 7; rw [hx]; refine (SA w1.heap.size _ (AS.new w1 a0 a1 a2 f)).mono ?_; clear SA; rintro e w2 ⟨rfl, hA, hb⟩; have s2 : Seen W w2 := Below.trans (S1.out.alloc _) (hb.mono S1.out.size); clear c0 c1; have c0 := (K.out.2.1.seen s2).cell 0; have c1 := (K.out.2.1.seen s2).cell 1; have d0 := (K.out.2.2.seen s2).cell 0; have d1 := (K.out.2.2.seen s2).cell 1; have d2 := (K.out.2.2.seen s2).cell 2; have HA := Lib.hid (And.intro hA s2); clear hA hb s2)
    | (go_at_call 9; refine (RA _).mono ?_; clear RA; rintro e w3 ⟨v, rfl, hR, hs⟩; obtain ⟨g, cap, rfl, hg⟩ := row_reads' hR HH.out.1 hN0; obtain ⟨g2, cap2, c4, hg2⟩ := as_reads' (HA.out.1.seen hs) HH.out.2.1 hm0; have HR := Lib.hid (show Rows2 w3 w1.heap.size N g g2 cap2 L ∧ Seen W w3 from ⟨⟨c4, fun i hi => by rw [← HH.out.2.2 i hi]; exact hg2 i hi, fun i hi => hg i (by omega)⟩, HA.out.2.trans hs⟩); clear hR hs HA c0 c1 d0 d1 d2 hg hg2))
  clear c4
  go_loopw [59] (fun i wr => ∃ k : Nat, k ≤ N ∧ i = .int .i64 k ∧ Seen w3 wr) (fun i _ => N - (intOf i).toNat)
  case atStart => exact ⟨0, Nat.zero_le _, rfl, Seen.refl _⟩
  case round =>
    obtain ⟨k, hk, rfl, hs⟩ := hrel
    have S3 := Lib.hid hs
    clear hs
    have c4 := S3.out.cell HR.out.1.at4
    by_cases hlt : k < N
    · have hk' : (k : Int) < (N : Int) := by omega
      have hkN : (k : Int) < (N : Int) := by omega
      have hkn : k < N := by omega
      have p0 := S3.out.cell (HR.out.1.one k hlt).1
      have p1 := S3.out.cell (HR.out.1.one k hlt).2
      have q0 := S3.out.cell (HR.out.1.two k hlt).1
      have q1 := S3.out.cell (HR.out.1.two k hlt).2
      obtain ⟨u, hu⟩ : ∃ u, (szAt L k).au = u := ⟨_, rfl⟩
      obtain ⟨z, hz⟩ : ∃ z, (szAt L k).n = z := ⟨_, rfl⟩
      rw [hu] at p0 q0
      rw [hz] at p1 q1
      clear hu hz
      go_wp2_with fail
      go_quiet (fail)
      go_wp2_with fail
      go_roundw
      case rel => exact ⟨k + 1, by omega, by go_num, Seen.next S3.out (Go.Joins.below_draws _ _ _)⟩
      case measure => simp [intOf]; omega
    · have hk' : ¬ (k : Int) < (N : Int) := by omega
      go_wp2_with fail
      go_ret
      exact ⟨rfl, K.out.1.trans (HR.out.2.trans S3.out)⟩
theorem walk (s : Sz) (least most : Int) (q : N3) (x : Int) (w : World) (os : okN s.n) (ol : okN least) (om : okN most) (oq : ok3 q) (ox : okE x) :
    Calls Try.prog 3 #[.agg #[.bool s.au, .int .i64 s.n], .int .i64 least, .int .i64 most, .agg #[.int .i64 q.a, .int .i64 q.b, .int .i64 q.c], .int .u8 x] w fun e w' => e = .returned (.bool true) ∧ Below w.heap.size w w' := by
  clear os ol om oq
  obtain ⟨a0, a1, a2⟩ := q
  obtain ⟨f, hx, hf0, hf4⟩ : ∃ f : Int, wrap64 (x.tmod 5) = f ∧ 0 ≤ f ∧ f ≤ 4 := by
    obtain ⟨o1, o2⟩ := ox
    have h1 : x.tmod 5 = x % 5 := Int.tmod_eq_emod_of_nonneg o1
    refine ⟨x % 5, ?_, by omega, by omega⟩
    rw [h1]
    exact IntWalk.wrap64_in _ (by omega)
  obtain ⟨L, hL⟩ : ∃ L, askedL s least most a0 a1 = L := ⟨_, rfl⟩
  have hLn : 1 ≤ L.length ∧ L.length ≤ 3 := by
    rw [← hL]; unfold askedL; (repeat' split) <;> simp
  obtain ⟨N, hN⟩ : ∃ N, L.length = N := ⟨_, rfl⟩
  rw [hN] at hLn
  obtain ⟨M, hM⟩ : ∃ M, gotL L f = M := ⟨_, rfl⟩
  have hml : M.length = min (f + 1).toNat N := by rw [← hM]; unfold gotL; rw [List.length_take, hN]
  have hML : ∀ i, i < M.length → szAt M i = szAt L i := by
    intro i hi
    rw [hml] at hi
    rw [← hM]; unfold gotL szAt
    rw [List.getD_eq_getElem?_getD, List.getD_eq_getElem?_getD, List.getElem?_take_of_lt]
    omega
  by_cases h1 : (N : Int) ≤ f
  · have hm2 : M.length = N := by omega
    exact walk_c s least most a0 a1 a2 x f w hx hf0 hf4 L hL N hN (by omega) hLn.2 (by omega) (Nat.le_refl _) M hM hm2 (hm2 ▸ hML) (by unfold gotN; rw [hN, if_pos h1]) (by unfold gotB; rw [hN]; exact decide_eq_true h1) (by omega) h1
  · have hr : gotN L f = 0 := by unfold gotN; rw [hN, if_neg h1]
    have hc : gotB L f = false := by unfold gotB; rw [hN]; exact decide_eq_false h1
    by_cases h2 : f + 1 < (N : Int)
    · have hm2 : M.length = (f + 1).toNat := by omega
      exact walk_a s least most a0 a1 a2 x f w hx hf0 hf4 L hL N M.length hN (by omega) hLn.2 (by omega) (by omega) M hM rfl hML hr hc h2 h1 (by rw [show (M.length : Int) = f + 1 by omega]; simp)
    · have hm2 : M.length = N := by omega
      exact walk_b s least most a0 a1 a2 x f w hx hf0 hf4 L hL N hN (by omega) hLn.2 (by omega) (Nat.le_refl _) M hM hm2 (hm2 ▸ hML) hr hc h2 h1

/-! ### The row's step. -/
set_option maxRecDepth 100000 in
theorem lifted (os : Os) (started : os.Started) (H : Type) (enc : TypeId × Value → H) :
    ReturnsInHanded {} Try.checked os 3 .any (Rows.boundAsksSpec.pre6 enc Try.prog Try.f3 Rows.boundAsksRow.domain false) (Rows.boundAsksSpec.post enc Try.prog Try.f3 false true false false) := by
  refine returnsInHanded_of_change (C := Try.checked) own started (by kernel_rfl) Try.func3
    (ChangeSpec.witness6 (enc := enc) (C := Try.checked) false ⟨#[], #[.agg #[.bool false, .int .i64 0], .int .i64 0, .int .i64 0, .agg #[.int .i64 0, .int .i64 0, .int .i64 0], .int .u8 0], []⟩ 8 (by kernel_rfl) (by kernel_rfl) (by kernel_rfl) (by kernel_rfl)) ?_
  intro W base args ds gs before hval0 hW hcnd _
  have hval : ∀ (j : Nat) t v, Try.f3.params[j]? = some t → args[j]? = some v → Value.okWide Try.prog W .any base t v := hval0
  have hW' := hW
  obtain ⟨p, q, hA0, hV, rfl, hfz, hnd⟩ := hW
  have hA : DataW.TrodAll enc Try.prog W 0 (fun _ => true) true Try.f3.params.toList args.toList ds p := hA0
  rw [Try.params3] at hA hval
  obtain ⟨v0, vs0, d0, ds0, p0, q0, hargs, rfl, rfl, h0, r0⟩ := trodAll_cons hA
  obtain ⟨v1, vs1, d1, ds1, p1, q1, rfl, rfl, rfl, h1, r1⟩ := trodAll_cons r0
  obtain ⟨v2, vs2, d2, ds2, p2, q2, rfl, rfl, rfl, h2, r2⟩ := trodAll_cons r1
  obtain ⟨v3, vs3, d3, ds3, p3, q3, rfl, rfl, rfl, h3, r3⟩ := trodAll_cons r2
  obtain ⟨v4, vs4, d4, ds4, p4, q4, rfl, rfl, rfl, h4, r4⟩ := trodAll_cons r3
  obtain ⟨rfl, rfl, rfl⟩ := trodAll_nil r4
  obtain rfl : args = #[v0, v1, v2, v3, v4] := by cases args; simp_all
  obtain ⟨rfl, rfl⟩ := trodVars_none hV
  have k0 := h0
  have lt0 : ∀ x ∈ p0, x.block < W.heap.size := by obtain ⟨m, hm⟩ := k0; exact DataW.trod_lt m _ _ _ hm
  obtain ⟨g0, rfl, o0⟩ := open_size (hval 0 23 v0 rfl rfl) h0
  have k1 := h1
  have lt1 : ∀ x ∈ p1, x.block < W.heap.size := by obtain ⟨m, hm⟩ := k1; exact DataW.trod_lt m _ _ _ hm
  obtain ⟨g1, rfl, o1⟩ := open_num (hval 1 2 v1 rfl rfl) h1
  have k2 := h2
  have lt2 : ∀ x ∈ p2, x.block < W.heap.size := by obtain ⟨m, hm⟩ := k2; exact DataW.trod_lt m _ _ _ hm
  obtain ⟨g2, rfl, o2⟩ := open_num (hval 2 2 v2 rfl rfl) h2
  have k3 := h3
  have lt3 : ∀ x ∈ p3, x.block < W.heap.size := by obtain ⟨m, hm⟩ := k3; exact DataW.trod_lt m _ _ _ hm
  obtain ⟨g3, rfl, o3⟩ := open_three (hval 3 24 v3 rfl rfl) h3
  have k4 := h4
  have lt4 : ∀ x ∈ p4, x.block < W.heap.size := by obtain ⟨m, hm⟩ := k4; exact DataW.trod_lt m _ _ _ hm
  obtain ⟨g4, rfl, o4⟩ := open_byte (hval 4 5 v4 rfl rfl) h4
  clear hA0 hval0
  refine (walk g0 g1 g2 g3 g4 W o0 o1 o2 o3 o4).mono fun e W' ⟨he, bel⟩ => ?_
  subst he
  exact ⟨_, rfl, _, _, _, [], _, [], hW', trodAll_mk1 (shut_bool Try.underlying4 _), (trodAll_cons_mk (Below.trod laidOut (by kernel_rfl) (of_decide_eq_true (by kernel_rfl)) k0 bel lt0) (trodAll_cons_mk (Below.trod laidOut (by kernel_rfl) (of_decide_eq_true (by kernel_rfl)) k1 bel lt1) (trodAll_cons_mk (Below.trod laidOut (by kernel_rfl) (of_decide_eq_true (by kernel_rfl)) k2 bel lt2) (trodAll_cons_mk (Below.trod laidOut (by kernel_rfl) (of_decide_eq_true (by kernel_rfl)) k3 bel lt3) (trodAll_cons_mk (Below.trod laidOut (by kernel_rfl) (of_decide_eq_true (by kernel_rfl)) k4 bel lt4) trodAll_mk0))))), rfl, bel.frame _, fun h => by cases h⟩

theorem over : Rows.boundAsksRow.holds Try.pinned (OpenSpec.ofChange Rows.boundAsksSpec) :=
  OpenClaim.holds_of_wide 3 Try.f3 rfl rfl rfl rfl rfl rfl rfl ⟨rfl, rfl, rfl, rfl, rfl⟩ rfl rfl rfl rfl rfl (by kernel_rfl) Try.func3 (by kernel_rfl)
    (of_decide_eq_true (by kernel_rfl)) (by unfold Func.isWrapper; first | (rw [if_pos (by decide +kernel)]; kernel_rfl) | (rw [if_neg (by decide +kernel)]; exact ⟨rfl, rfl⟩))
    (fun os started H enc _ => lifted os started H enc)

/-- The statement. -/
theorem proved : Rows.BoundAsksSaid := over
#print axioms proved
end Go.Proofs.Ytodkkjpeonibnaa.boundAsks
