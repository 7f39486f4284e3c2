/- Contracts of bound.Solve[int] and what it calls, asked by way of the law's asked; and with nil. No conditions beyond those written in each theorem. -/
import Derived.Test.YtodkkjpeonibnaaAsked
namespace Go.Proofs.Ytodkkjpeonibnaa
open Go.ChangeShapes Go.WideShapes Go.ChangeAt Go.RowKit
set_option maxRecDepth 100000
theorem asked_no (B : Nat) (a0 a1 a2 f : Int) (l : List Sz) (b : Bool) (n : Int) (w : World) (h : AS w B a0 a1 a2 f l) (k : Nat) (hk : k < 3) (hl : l.length = k) (hf : f < k + 1) :
    Calls Try.prog 8 #[.pointer (some ⟨B, 0, none⟩), .agg #[.bool b, .int .i64 n]] w fun e w' => e = .returned (.tuple #[.int .i64 (-1), .int .i64 0, .bool false]) ∧ AS w' B a0 a1 a2 f (l ++ [⟨b, n⟩]) ∧ Below B w w' := by
  match k, hk, hl, hf with
  | 0, _, hl, hf => exact asked_no0 B a0 a1 a2 f l b n w h hl (by omega)
  | 1, _, hl, hf => exact asked_no1 B a0 a1 a2 f l b n w h hl (by omega)
  | 2, _, hl, hf => exact asked_no2 B a0 a1 a2 f l b n w h hl (by omega)
theorem asked_yes (B : Nat) (a0 a1 a2 f : Int) (l : List Sz) (b : Bool) (n : Int) (w : World) (h : AS w B a0 a1 a2 f l) (k : Nat) (hk : k < 3) (hl : l.length = k) (hf : ¬ f < k + 1) :
    Calls Try.prog 8 #[.pointer (some ⟨B, 0, none⟩), .agg #[.bool b, .int .i64 n]] w fun e w' => e = .returned (.tuple #[.int .i64 ((k : Int) + 1), .int .i64 (ansAt a0 a1 a2 k), .bool true]) ∧ AS w' B a0 a1 a2 f (l ++ [⟨b, n⟩]) ∧ Below B w w' := by
  match k, hk, hl, hf with
  | 0, _, hl, hf => exact asked_yes0 B a0 a1 a2 f l b n w h hl (by omega)
  | 1, _, hl, hf => exact asked_yes1 B a0 a1 a2 f l b n w h hl (by omega)
  | 2, _, hl, hf => exact asked_yes2 B a0 a1 a2 f l b n w h hl (by omega)
theorem AS.lt {w : World} {B : Nat} {a0 a1 a2 f : Int} {l : List Sz} (h : AS w B a0 a1 a2 f l) : B < w.heap.size := by
  obtain ⟨_, h, _⟩ := h
  exact h.lt
set_option maxHeartbeats 1000000 in
theorem ask_no (B : Nat) (a0 a1 a2 f : Int) (l : List Sz) (b : Bool) (n : Int) (w : World) (h : AS w B a0 a1 a2 f l) (k : Nat) (hk : k < 3) (hl : l.length = k) (hf : f < k + 1) :
    Calls Try.prog 13 #[.agg #[.func (.func 8) #[.pointer (some ⟨B, 0, none⟩)] #[]], .agg #[.bool b, .int .i64 n]] w fun e w' => e = .returned (.tuple #[.int .i64 0, .int .i64 0, .bool false]) ∧ AS w' B a0 a1 a2 f (l ++ [⟨b, n⟩]) ∧ Below B w w' := by
  have hn : ∀ (f : Fn) (a c : Array Value) (w : World), (binOp .eql 32 (.func f a c) .nilFunc).run Try.prog w = .ok (.bool false) w := fun _ _ _ _ => by kernel_rfl
  obtain ⟨W, hW⟩ : ∃ W, W = (w.alloc (.cells #[.func (.func 8) #[.pointer (some ⟨B, 0, none⟩)] #[]] 43)).alloc (.cells #[.bool b, .int .i64 n] 23) := ⟨_, rfl⟩
  have hA : AS W B a0 a1 a2 f l := by rw [hW]; exact h.seen (((Seen.refl w).alloc _).alloc _)
  have hb : Below B w W := by rw [hW]; exact (((Below.refl B w).alloc (Nat.le_of_lt h.lt) _).alloc (by have := h.lt; simp; omega) _)
  have HB := Lib.hid hb
  clear hb
  have HC := asked_no B a0 a1 a2 f l b n W hA k hk hl hf
  clear hA h hk hl hf
  go_enter_defers Try.func13, Try.ntmps13
  go_wp2_with (go_at_call 8; rw [← hW]; clear hW; refine HC.mono ?_; clear HC; rintro e w1 ⟨rfl, hA1, hB1⟩; have HE := Lib.hid (And.intro hA1 (HB.out.trans hB1)); clear hA1 hB1)
  refine leaves_cons (f := 16) (args := #[]) (by simp) (by simp [go_sem]) ?_
  refine (caught16 _).mono ?_
  rintro e u' w2 ⟨rfl, rfl, rfl⟩
  simp [Leaves, settle, results, Try.results13, go_sem]
  exact HE.out
set_option maxHeartbeats 1000000 in
theorem ask_yes (B : Nat) (a0 a1 a2 f : Int) (l : List Sz) (b : Bool) (n : Int) (w : World) (h : AS w B a0 a1 a2 f l) (k : Nat) (hk : k < 3) (hl : l.length = k) (hf : ¬ f < k + 1) :
    Calls Try.prog 13 #[.agg #[.func (.func 8) #[.pointer (some ⟨B, 0, none⟩)] #[]], .agg #[.bool b, .int .i64 n]] w fun e w' => e = .returned (.tuple #[.int .i64 ((k : Int) + 1), .int .i64 (ansAt a0 a1 a2 k), .bool true]) ∧ AS w' B a0 a1 a2 f (l ++ [⟨b, n⟩]) ∧ Below B w w' := by
  have hn : ∀ (f : Fn) (a c : Array Value) (w : World), (binOp .eql 32 (.func f a c) .nilFunc).run Try.prog w = .ok (.bool false) w := fun _ _ _ _ => by kernel_rfl
  obtain ⟨W, hW⟩ : ∃ W, W = (w.alloc (.cells #[.func (.func 8) #[.pointer (some ⟨B, 0, none⟩)] #[]] 43)).alloc (.cells #[.bool b, .int .i64 n] 23) := ⟨_, rfl⟩
  have hA : AS W B a0 a1 a2 f l := by rw [hW]; exact h.seen (((Seen.refl w).alloc _).alloc _)
  have hb : Below B w W := by rw [hW]; exact (((Below.refl B w).alloc (Nat.le_of_lt h.lt) _).alloc (by have := h.lt; simp; omega) _)
  have HB := Lib.hid hb
  clear hb
  have HC := asked_yes B a0 a1 a2 f l b n W hA k hk hl hf
  obtain ⟨r, hr⟩ : ∃ r : Int, (k : Int) + 1 = r := ⟨_, rfl⟩
  obtain ⟨c, hc⟩ : ∃ c : Int, ansAt a0 a1 a2 k = c := ⟨_, rfl⟩
  rw [hr, hc] at HC
  rw [hr, hc]
  clear hr hc
  clear hA h hk hl hf
  go_enter_defers Try.func13, Try.ntmps13
  go_wp2_with (go_at_call 8; rw [← hW]; clear hW; refine HC.mono ?_; clear HC; rintro e w1 ⟨rfl, hA1, hB1⟩; have HE := Lib.hid (And.intro hA1 (HB.out.trans hB1)); clear hA1 hB1)
  refine leaves_cons (f := 16) (args := #[]) (by simp) (by simp [go_sem]) ?_
  refine (caught16 _).mono ?_
  rintro e u' w2 ⟨rfl, rfl, rfl⟩
  simp [Leaves, settle, results, Try.results13, go_sem]
  exact HE.out
theorem ask_nil (b : Bool) (n : Int) (w : World) :
    Calls Try.prog 13 #[.agg #[.nilFunc], .agg #[.bool b, .int .i64 n]] w fun e w' => e = .returned (.tuple #[.int .i64 0, .int .i64 0, .bool false]) ∧ Below w.heap.size w w' := by
  have hn : ∀ (w : World), (binOp .eql 32 .nilFunc .nilFunc).run Try.prog w = .ok (.bool true) w := fun _ => by kernel_rfl
  go_enter_defers Try.func13, Try.ntmps13
  go_wp2_with fail
  simp [bodyPostD, Leaves, results, Try.results13, go_sem]
  exact ((Seen.refl w).alloc _).alloc _
theorem within_nil (s : Sz) (least most : Int) (w : World) :
    Calls Try.prog 12 #[.func (.func 13) #[.agg #[.nilFunc]] #[], .agg #[.bool s.au, .int .i64 s.n], .int .i64 least, .int .i64 most] w fun e w' => e = .returned (.tuple #[.int .i64 0, .bool false]) ∧ Below w.heap.size w w' := by
  have acc := (Seen.refl w).alloc (.cells #[.bool s.au, .int .i64 s.n] 23)
  go_enter Try.func12, Try.ntmps12
  go_wp2_with (go_at_call 13; refine (ask_nil _ _ _).mono ?_; rintro e w1 ⟨rfl, hb1⟩; replace acc := acc.next hb1; clear hb1)
  go_ret2
  exact ⟨rfl, acc⟩
theorem solve_nil (s : Sz) (least most : Int) (w : World) :
    Calls Try.prog 7 #[.nilFunc, .agg #[.bool s.au, .int .i64 s.n], .int .i64 least, .int .i64 most] w fun e w' => e = .returned (.tuple #[.int .i64 0, .bool false]) ∧ Below w.heap.size w w' := by
  have hmf : ∀ (fn : Fn) (first cap : Array Value) (w : World), (Instr.makeFunc fn first cap).run Try.prog w = .ok (.func fn first cap) w := fun _ _ _ _ => rfl
  have acc := (Seen.refl w).alloc (.cells #[.bool s.au, .int .i64 s.n] 23)
  go_enter Try.func7, Try.ntmps7
  go_wp2_with (go_at_call 12; refine (within_nil s least most _).mono ?_; rintro e w1 ⟨rfl, hb1⟩; replace acc := acc.next hb1; clear hb1)
  go_ret2
  exact ⟨rfl, acc⟩
end Go.Proofs.Ytodkkjpeonibnaa
