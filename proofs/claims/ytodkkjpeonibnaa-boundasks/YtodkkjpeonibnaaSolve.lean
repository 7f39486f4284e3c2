/- Contract of bound.Solve[int], asked by way of the law's asked; no conditions beyond those written in each theorem. -/
import Derived.Test.YtodkkjpeonibnaaWithin
namespace Go.Proofs.Ytodkkjpeonibnaa
open Go.ChangeShapes Go.WideShapes Go.ChangeAt Go.RowKit
set_option maxRecDepth 100000
set_option linter.unusedVariables false
/-- For what it is asked, if it answers these numbers. -/
def askedL (s : Sz) (least most a0 a1 : Int) : List Sz := if most < a0 then (if a1 < least then [s, ⟨false, most⟩, ⟨false, least⟩] else [s, ⟨false, most⟩]) else (if a0 < least then [s, ⟨false, least⟩] else [s])
/-- What Solve answers. -/
def gotN (L : List Sz) (f : Int) : Int := if (L.length : Int) ≤ f then L.length else 0
def gotB (L : List Sz) (f : Int) : Bool := decide ((L.length : Int) ≤ f)
def gotL (L : List Sz) (f : Int) : List Sz := L.take (f + 1).toNat
set_option maxHeartbeats 2000000 in
theorem within_1 (B : Nat) (a0 a1 a2 f : Int) (s : Sz) (least most : Int) (w : World) (h : AS w B a0 a1 a2 f []) (g1 : f < 1) :
    Calls Try.prog 12 #[.func (.func 13) #[.agg #[.func (.func 8) #[.pointer (some ⟨B, 0, none⟩)] #[]]] #[], .agg #[.bool s.au, .int .i64 s.n], .int .i64 least, .int .i64 most] w fun e w' => e = .returned (.tuple #[.int .i64 0, .bool false]) ∧ AS w' B a0 a1 a2 f [s] ∧ Below B w w' := by
  obtain ⟨W, hW⟩ : ∃ W, W = w.alloc (.cells #[.bool s.au, .int .i64 s.n] 23) := ⟨_, rfl⟩
  have hA : AS W B a0 a1 a2 f [] := by rw [hW]; exact h.seen ((Seen.refl w).alloc _)
  have hb : Below B w W := by rw [hW]; exact (Below.refl B w).alloc (Nat.le_of_lt h.lt) _
  have HA0 := Lib.hid (And.intro hA hb)
  clear hA hb h
  have C0 : ∀ W', AS W' B a0 a1 a2 f [] → Calls Try.prog 13 #[.agg #[.func (.func 8) #[.pointer (some ⟨B, 0, none⟩)] #[]], .agg #[.bool s.au, .int .i64 s.n]] W' fun e w' => e = .returned (.tuple #[.int .i64 0, .int .i64 0, .bool false]) ∧ AS w' B a0 a1 a2 f [s] ∧ Below B W' w' := fun W' hW' => ask_no B a0 a1 a2 f [] s.au s.n W' hW' 0 (by omega) rfl (by omega)
  go_enter Try.func12, Try.ntmps12
  go_wp2_with (first | (go_at_call 13; rw [← hW]; clear hW; refine (C0 _ HA0.out.1).mono ?_; clear C0; rintro e w1 ⟨rfl, hA, hB⟩; have HA1 := Lib.hid (And.intro hA (HA0.out.2.trans hB)); clear hA hB HA0))
  go_ret2
  exact ⟨rfl, HA1.out⟩
set_option maxHeartbeats 2000000 in
theorem within_2 (B : Nat) (a0 a1 a2 f : Int) (s : Sz) (least most : Int) (w : World) (h : AS w B a0 a1 a2 f []) (g1 : ¬ f < 1) (h1 : ¬ most < a0) (h2 : ¬ a0 < least) :
    Calls Try.prog 12 #[.func (.func 13) #[.agg #[.func (.func 8) #[.pointer (some ⟨B, 0, none⟩)] #[]]] #[], .agg #[.bool s.au, .int .i64 s.n], .int .i64 least, .int .i64 most] w fun e w' => e = .returned (.tuple #[.int .i64 1, .bool true]) ∧ AS w' B a0 a1 a2 f [s] ∧ Below B w w' := by
  obtain ⟨W, hW⟩ : ∃ W, W = w.alloc (.cells #[.bool s.au, .int .i64 s.n] 23) := ⟨_, rfl⟩
  have hA : AS W B a0 a1 a2 f [] := by rw [hW]; exact h.seen ((Seen.refl w).alloc _)
  have hb : Below B w W := by rw [hW]; exact (Below.refl B w).alloc (Nat.le_of_lt h.lt) _
  have HA0 := Lib.hid (And.intro hA hb)
  clear hA hb h
  have C0 : ∀ W', AS W' B a0 a1 a2 f [] → Calls Try.prog 13 #[.agg #[.func (.func 8) #[.pointer (some ⟨B, 0, none⟩)] #[]], .agg #[.bool s.au, .int .i64 s.n]] W' fun e w' => e = .returned (.tuple #[.int .i64 1, .int .i64 a0, .bool true]) ∧ AS w' B a0 a1 a2 f [s] ∧ Below B W' w' := fun W' hW' => ask_yes B a0 a1 a2 f [] s.au s.n W' hW' 0 (by omega) rfl (by omega)
  go_enter Try.func12, Try.ntmps12
  go_wp2_with (first | (go_at_call 13; rw [← hW]; clear hW; refine (C0 _ HA0.out.1).mono ?_; clear C0; rintro e w1 ⟨rfl, hA, hB⟩; have HA1 := Lib.hid (And.intro hA (HA0.out.2.trans hB)); clear hA hB HA0))
  go_ret2
  exact ⟨rfl, HA1.out⟩
set_option maxHeartbeats 2000000 in
theorem within_3 (B : Nat) (a0 a1 a2 f : Int) (s : Sz) (least most : Int) (w : World) (h : AS w B a0 a1 a2 f []) (g1 : ¬ f < 1) (h1 : ¬ most < a0) (h2 : a0 < least) (g2 : f < 2) :
    Calls Try.prog 12 #[.func (.func 13) #[.agg #[.func (.func 8) #[.pointer (some ⟨B, 0, none⟩)] #[]]] #[], .agg #[.bool s.au, .int .i64 s.n], .int .i64 least, .int .i64 most] w fun e w' => e = .returned (.tuple #[.int .i64 0, .bool false]) ∧ AS w' B a0 a1 a2 f [s, ⟨false, least⟩] ∧ Below B w w' := by
  obtain ⟨W, hW⟩ : ∃ W, W = w.alloc (.cells #[.bool s.au, .int .i64 s.n] 23) := ⟨_, rfl⟩
  have hA : AS W B a0 a1 a2 f [] := by rw [hW]; exact h.seen ((Seen.refl w).alloc _)
  have hb : Below B w W := by rw [hW]; exact (Below.refl B w).alloc (Nat.le_of_lt h.lt) _
  have HA0 := Lib.hid (And.intro hA hb)
  clear hA hb h
  have C0 : ∀ W', AS W' B a0 a1 a2 f [] → Calls Try.prog 13 #[.agg #[.func (.func 8) #[.pointer (some ⟨B, 0, none⟩)] #[]], .agg #[.bool s.au, .int .i64 s.n]] W' fun e w' => e = .returned (.tuple #[.int .i64 1, .int .i64 a0, .bool true]) ∧ AS w' B a0 a1 a2 f [s] ∧ Below B W' w' := fun W' hW' => ask_yes B a0 a1 a2 f [] s.au s.n W' hW' 0 (by omega) rfl (by omega)
  have C1 : ∀ W', AS W' B a0 a1 a2 f [s] → Calls Try.prog 13 #[.agg #[.func (.func 8) #[.pointer (some ⟨B, 0, none⟩)] #[]], .agg #[.bool false, .int .i64 least]] W' fun e w' => e = .returned (.tuple #[.int .i64 0, .int .i64 0, .bool false]) ∧ AS w' B a0 a1 a2 f [s, ⟨false, least⟩] ∧ Below B W' w' := fun W' hW' => ask_no B a0 a1 a2 f [s] false least W' hW' 1 (by omega) rfl (by omega)
  go_enter Try.func12, Try.ntmps12
  go_wp2_with (first | (go_at_call 13; rw [← hW]; clear hW; refine (C0 _ HA0.out.1).mono ?_; clear C0; rintro e w1 ⟨rfl, hA, hB⟩; have HA1 := Lib.hid (And.intro hA (HA0.out.2.trans hB)); clear hA hB HA0) | (go_at_call 13; refine (C1 _ HA1.out.1).mono ?_; clear C1; rintro e w2 ⟨rfl, hA, hB⟩; have HA2 := Lib.hid (And.intro hA (HA1.out.2.trans hB)); clear hA hB HA1))
  go_ret2
  exact ⟨rfl, HA2.out⟩
set_option maxHeartbeats 2000000 in
theorem within_4 (B : Nat) (a0 a1 a2 f : Int) (s : Sz) (least most : Int) (w : World) (h : AS w B a0 a1 a2 f []) (g1 : ¬ f < 1) (h1 : ¬ most < a0) (h2 : a0 < least) (g2 : ¬ f < 2) :
    Calls Try.prog 12 #[.func (.func 13) #[.agg #[.func (.func 8) #[.pointer (some ⟨B, 0, none⟩)] #[]]] #[], .agg #[.bool s.au, .int .i64 s.n], .int .i64 least, .int .i64 most] w fun e w' => e = .returned (.tuple #[.int .i64 2, .bool true]) ∧ AS w' B a0 a1 a2 f [s, ⟨false, least⟩] ∧ Below B w w' := by
  obtain ⟨W, hW⟩ : ∃ W, W = w.alloc (.cells #[.bool s.au, .int .i64 s.n] 23) := ⟨_, rfl⟩
  have hA : AS W B a0 a1 a2 f [] := by rw [hW]; exact h.seen ((Seen.refl w).alloc _)
  have hb : Below B w W := by rw [hW]; exact (Below.refl B w).alloc (Nat.le_of_lt h.lt) _
  have HA0 := Lib.hid (And.intro hA hb)
  clear hA hb h
  have C0 : ∀ W', AS W' B a0 a1 a2 f [] → Calls Try.prog 13 #[.agg #[.func (.func 8) #[.pointer (some ⟨B, 0, none⟩)] #[]], .agg #[.bool s.au, .int .i64 s.n]] W' fun e w' => e = .returned (.tuple #[.int .i64 1, .int .i64 a0, .bool true]) ∧ AS w' B a0 a1 a2 f [s] ∧ Below B W' w' := fun W' hW' => ask_yes B a0 a1 a2 f [] s.au s.n W' hW' 0 (by omega) rfl (by omega)
  have C1 : ∀ W', AS W' B a0 a1 a2 f [s] → Calls Try.prog 13 #[.agg #[.func (.func 8) #[.pointer (some ⟨B, 0, none⟩)] #[]], .agg #[.bool false, .int .i64 least]] W' fun e w' => e = .returned (.tuple #[.int .i64 2, .int .i64 a1, .bool true]) ∧ AS w' B a0 a1 a2 f [s, ⟨false, least⟩] ∧ Below B W' w' := fun W' hW' => ask_yes B a0 a1 a2 f [s] false least W' hW' 1 (by omega) rfl (by omega)
  go_enter Try.func12, Try.ntmps12
  go_wp2_with (first | (go_at_call 13; rw [← hW]; clear hW; refine (C0 _ HA0.out.1).mono ?_; clear C0; rintro e w1 ⟨rfl, hA, hB⟩; have HA1 := Lib.hid (And.intro hA (HA0.out.2.trans hB)); clear hA hB HA0) | (go_at_call 13; refine (C1 _ HA1.out.1).mono ?_; clear C1; rintro e w2 ⟨rfl, hA, hB⟩; have HA2 := Lib.hid (And.intro hA (HA1.out.2.trans hB)); clear hA hB HA1))
  go_ret2
  exact ⟨rfl, HA2.out⟩
set_option maxHeartbeats 2000000 in
theorem within_5 (B : Nat) (a0 a1 a2 f : Int) (s : Sz) (least most : Int) (w : World) (h : AS w B a0 a1 a2 f []) (g1 : ¬ f < 1) (h1 : most < a0) (g2 : f < 2) :
    Calls Try.prog 12 #[.func (.func 13) #[.agg #[.func (.func 8) #[.pointer (some ⟨B, 0, none⟩)] #[]]] #[], .agg #[.bool s.au, .int .i64 s.n], .int .i64 least, .int .i64 most] w fun e w' => e = .returned (.tuple #[.int .i64 0, .bool false]) ∧ AS w' B a0 a1 a2 f [s, ⟨false, most⟩] ∧ Below B w w' := by
  obtain ⟨W, hW⟩ : ∃ W, W = w.alloc (.cells #[.bool s.au, .int .i64 s.n] 23) := ⟨_, rfl⟩
  have hA : AS W B a0 a1 a2 f [] := by rw [hW]; exact h.seen ((Seen.refl w).alloc _)
  have hb : Below B w W := by rw [hW]; exact (Below.refl B w).alloc (Nat.le_of_lt h.lt) _
  have HA0 := Lib.hid (And.intro hA hb)
  clear hA hb h
  have C0 : ∀ W', AS W' B a0 a1 a2 f [] → Calls Try.prog 13 #[.agg #[.func (.func 8) #[.pointer (some ⟨B, 0, none⟩)] #[]], .agg #[.bool s.au, .int .i64 s.n]] W' fun e w' => e = .returned (.tuple #[.int .i64 1, .int .i64 a0, .bool true]) ∧ AS w' B a0 a1 a2 f [s] ∧ Below B W' w' := fun W' hW' => ask_yes B a0 a1 a2 f [] s.au s.n W' hW' 0 (by omega) rfl (by omega)
  have C1 : ∀ W', AS W' B a0 a1 a2 f [s] → Calls Try.prog 13 #[.agg #[.func (.func 8) #[.pointer (some ⟨B, 0, none⟩)] #[]], .agg #[.bool false, .int .i64 most]] W' fun e w' => e = .returned (.tuple #[.int .i64 0, .int .i64 0, .bool false]) ∧ AS w' B a0 a1 a2 f [s, ⟨false, most⟩] ∧ Below B W' w' := fun W' hW' => ask_no B a0 a1 a2 f [s] false most W' hW' 1 (by omega) rfl (by omega)
  go_enter Try.func12, Try.ntmps12
  go_wp2_with (first | (go_at_call 13; rw [← hW]; clear hW; refine (C0 _ HA0.out.1).mono ?_; clear C0; rintro e w1 ⟨rfl, hA, hB⟩; have HA1 := Lib.hid (And.intro hA (HA0.out.2.trans hB)); clear hA hB HA0) | (go_at_call 13; refine (C1 _ HA1.out.1).mono ?_; clear C1; rintro e w2 ⟨rfl, hA, hB⟩; have HA2 := Lib.hid (And.intro hA (HA1.out.2.trans hB)); clear hA hB HA1))
  go_ret2
  exact ⟨rfl, HA2.out⟩
set_option maxHeartbeats 2000000 in
theorem within_6 (B : Nat) (a0 a1 a2 f : Int) (s : Sz) (least most : Int) (w : World) (h : AS w B a0 a1 a2 f []) (g1 : ¬ f < 1) (h1 : most < a0) (g2 : ¬ f < 2) (h2 : ¬ a1 < least) :
    Calls Try.prog 12 #[.func (.func 13) #[.agg #[.func (.func 8) #[.pointer (some ⟨B, 0, none⟩)] #[]]] #[], .agg #[.bool s.au, .int .i64 s.n], .int .i64 least, .int .i64 most] w fun e w' => e = .returned (.tuple #[.int .i64 2, .bool true]) ∧ AS w' B a0 a1 a2 f [s, ⟨false, most⟩] ∧ Below B w w' := by
  obtain ⟨W, hW⟩ : ∃ W, W = w.alloc (.cells #[.bool s.au, .int .i64 s.n] 23) := ⟨_, rfl⟩
  have hA : AS W B a0 a1 a2 f [] := by rw [hW]; exact h.seen ((Seen.refl w).alloc _)
  have hb : Below B w W := by rw [hW]; exact (Below.refl B w).alloc (Nat.le_of_lt h.lt) _
  have HA0 := Lib.hid (And.intro hA hb)
  clear hA hb h
  have C0 : ∀ W', AS W' B a0 a1 a2 f [] → Calls Try.prog 13 #[.agg #[.func (.func 8) #[.pointer (some ⟨B, 0, none⟩)] #[]], .agg #[.bool s.au, .int .i64 s.n]] W' fun e w' => e = .returned (.tuple #[.int .i64 1, .int .i64 a0, .bool true]) ∧ AS w' B a0 a1 a2 f [s] ∧ Below B W' w' := fun W' hW' => ask_yes B a0 a1 a2 f [] s.au s.n W' hW' 0 (by omega) rfl (by omega)
  have C1 : ∀ W', AS W' B a0 a1 a2 f [s] → Calls Try.prog 13 #[.agg #[.func (.func 8) #[.pointer (some ⟨B, 0, none⟩)] #[]], .agg #[.bool false, .int .i64 most]] W' fun e w' => e = .returned (.tuple #[.int .i64 2, .int .i64 a1, .bool true]) ∧ AS w' B a0 a1 a2 f [s, ⟨false, most⟩] ∧ Below B W' w' := fun W' hW' => ask_yes B a0 a1 a2 f [s] false most W' hW' 1 (by omega) rfl (by omega)
  go_enter Try.func12, Try.ntmps12
  go_wp2_with (first | (go_at_call 13; rw [← hW]; clear hW; refine (C0 _ HA0.out.1).mono ?_; clear C0; rintro e w1 ⟨rfl, hA, hB⟩; have HA1 := Lib.hid (And.intro hA (HA0.out.2.trans hB)); clear hA hB HA0) | (go_at_call 13; refine (C1 _ HA1.out.1).mono ?_; clear C1; rintro e w2 ⟨rfl, hA, hB⟩; have HA2 := Lib.hid (And.intro hA (HA1.out.2.trans hB)); clear hA hB HA1))
  go_ret2
  exact ⟨rfl, HA2.out⟩
set_option maxHeartbeats 2000000 in
theorem within_7 (B : Nat) (a0 a1 a2 f : Int) (s : Sz) (least most : Int) (w : World) (h : AS w B a0 a1 a2 f []) (g1 : ¬ f < 1) (h1 : most < a0) (g2 : ¬ f < 2) (h2 : a1 < least) (g3 : f < 3) :
    Calls Try.prog 12 #[.func (.func 13) #[.agg #[.func (.func 8) #[.pointer (some ⟨B, 0, none⟩)] #[]]] #[], .agg #[.bool s.au, .int .i64 s.n], .int .i64 least, .int .i64 most] w fun e w' => e = .returned (.tuple #[.int .i64 0, .bool false]) ∧ AS w' B a0 a1 a2 f [s, ⟨false, most⟩, ⟨false, least⟩] ∧ Below B w w' := by
  obtain ⟨W, hW⟩ : ∃ W, W = w.alloc (.cells #[.bool s.au, .int .i64 s.n] 23) := ⟨_, rfl⟩
  have hA : AS W B a0 a1 a2 f [] := by rw [hW]; exact h.seen ((Seen.refl w).alloc _)
  have hb : Below B w W := by rw [hW]; exact (Below.refl B w).alloc (Nat.le_of_lt h.lt) _
  have HA0 := Lib.hid (And.intro hA hb)
  clear hA hb h
  have C0 : ∀ W', AS W' B a0 a1 a2 f [] → Calls Try.prog 13 #[.agg #[.func (.func 8) #[.pointer (some ⟨B, 0, none⟩)] #[]], .agg #[.bool s.au, .int .i64 s.n]] W' fun e w' => e = .returned (.tuple #[.int .i64 1, .int .i64 a0, .bool true]) ∧ AS w' B a0 a1 a2 f [s] ∧ Below B W' w' := fun W' hW' => ask_yes B a0 a1 a2 f [] s.au s.n W' hW' 0 (by omega) rfl (by omega)
  have C1 : ∀ W', AS W' B a0 a1 a2 f [s] → Calls Try.prog 13 #[.agg #[.func (.func 8) #[.pointer (some ⟨B, 0, none⟩)] #[]], .agg #[.bool false, .int .i64 most]] W' fun e w' => e = .returned (.tuple #[.int .i64 2, .int .i64 a1, .bool true]) ∧ AS w' B a0 a1 a2 f [s, ⟨false, most⟩] ∧ Below B W' w' := fun W' hW' => ask_yes B a0 a1 a2 f [s] false most W' hW' 1 (by omega) rfl (by omega)
  have C2 : ∀ W', AS W' B a0 a1 a2 f [s, ⟨false, most⟩] → Calls Try.prog 13 #[.agg #[.func (.func 8) #[.pointer (some ⟨B, 0, none⟩)] #[]], .agg #[.bool false, .int .i64 least]] W' fun e w' => e = .returned (.tuple #[.int .i64 0, .int .i64 0, .bool false]) ∧ AS w' B a0 a1 a2 f [s, ⟨false, most⟩, ⟨false, least⟩] ∧ Below B W' w' := fun W' hW' => ask_no B a0 a1 a2 f [s, ⟨false, most⟩] false least W' hW' 2 (by omega) rfl (by omega)
  go_enter Try.func12, Try.ntmps12
  go_wp2_with (first | (go_at_call 13; rw [← hW]; clear hW; refine (C0 _ HA0.out.1).mono ?_; clear C0; rintro e w1 ⟨rfl, hA, hB⟩; have HA1 := Lib.hid (And.intro hA (HA0.out.2.trans hB)); clear hA hB HA0) | (go_at_call 13; refine (C1 _ HA1.out.1).mono ?_; clear C1; rintro e w2 ⟨rfl, hA, hB⟩; have HA2 := Lib.hid (And.intro hA (HA1.out.2.trans hB)); clear hA hB HA1) | (go_at_call 13; refine (C2 _ HA2.out.1).mono ?_; clear C2; rintro e w3 ⟨rfl, hA, hB⟩; have HA3 := Lib.hid (And.intro hA (HA2.out.2.trans hB)); clear hA hB HA2))
  go_ret2
  exact ⟨rfl, HA3.out⟩
set_option maxHeartbeats 2000000 in
theorem within_8 (B : Nat) (a0 a1 a2 f : Int) (s : Sz) (least most : Int) (w : World) (h : AS w B a0 a1 a2 f []) (g1 : ¬ f < 1) (h1 : most < a0) (g2 : ¬ f < 2) (h2 : a1 < least) (g3 : ¬ f < 3) :
    Calls Try.prog 12 #[.func (.func 13) #[.agg #[.func (.func 8) #[.pointer (some ⟨B, 0, none⟩)] #[]]] #[], .agg #[.bool s.au, .int .i64 s.n], .int .i64 least, .int .i64 most] w fun e w' => e = .returned (.tuple #[.int .i64 3, .bool true]) ∧ AS w' B a0 a1 a2 f [s, ⟨false, most⟩, ⟨false, least⟩] ∧ Below B w w' := by
  obtain ⟨W, hW⟩ : ∃ W, W = w.alloc (.cells #[.bool s.au, .int .i64 s.n] 23) := ⟨_, rfl⟩
  have hA : AS W B a0 a1 a2 f [] := by rw [hW]; exact h.seen ((Seen.refl w).alloc _)
  have hb : Below B w W := by rw [hW]; exact (Below.refl B w).alloc (Nat.le_of_lt h.lt) _
  have HA0 := Lib.hid (And.intro hA hb)
  clear hA hb h
  have C0 : ∀ W', AS W' B a0 a1 a2 f [] → Calls Try.prog 13 #[.agg #[.func (.func 8) #[.pointer (some ⟨B, 0, none⟩)] #[]], .agg #[.bool s.au, .int .i64 s.n]] W' fun e w' => e = .returned (.tuple #[.int .i64 1, .int .i64 a0, .bool true]) ∧ AS w' B a0 a1 a2 f [s] ∧ Below B W' w' := fun W' hW' => ask_yes B a0 a1 a2 f [] s.au s.n W' hW' 0 (by omega) rfl (by omega)
  have C1 : ∀ W', AS W' B a0 a1 a2 f [s] → Calls Try.prog 13 #[.agg #[.func (.func 8) #[.pointer (some ⟨B, 0, none⟩)] #[]], .agg #[.bool false, .int .i64 most]] W' fun e w' => e = .returned (.tuple #[.int .i64 2, .int .i64 a1, .bool true]) ∧ AS w' B a0 a1 a2 f [s, ⟨false, most⟩] ∧ Below B W' w' := fun W' hW' => ask_yes B a0 a1 a2 f [s] false most W' hW' 1 (by omega) rfl (by omega)
  have C2 : ∀ W', AS W' B a0 a1 a2 f [s, ⟨false, most⟩] → Calls Try.prog 13 #[.agg #[.func (.func 8) #[.pointer (some ⟨B, 0, none⟩)] #[]], .agg #[.bool false, .int .i64 least]] W' fun e w' => e = .returned (.tuple #[.int .i64 3, .int .i64 a2, .bool true]) ∧ AS w' B a0 a1 a2 f [s, ⟨false, most⟩, ⟨false, least⟩] ∧ Below B W' w' := fun W' hW' => ask_yes B a0 a1 a2 f [s, ⟨false, most⟩] false least W' hW' 2 (by omega) rfl (by omega)
  go_enter Try.func12, Try.ntmps12
  go_wp2_with (first | (go_at_call 13; rw [← hW]; clear hW; refine (C0 _ HA0.out.1).mono ?_; clear C0; rintro e w1 ⟨rfl, hA, hB⟩; have HA1 := Lib.hid (And.intro hA (HA0.out.2.trans hB)); clear hA hB HA0) | (go_at_call 13; refine (C1 _ HA1.out.1).mono ?_; clear C1; rintro e w2 ⟨rfl, hA, hB⟩; have HA2 := Lib.hid (And.intro hA (HA1.out.2.trans hB)); clear hA hB HA1) | (go_at_call 13; refine (C2 _ HA2.out.1).mono ?_; clear C2; rintro e w3 ⟨rfl, hA, hB⟩; have HA3 := Lib.hid (And.intro hA (HA2.out.2.trans hB)); clear hA hB HA2))
  go_ret2
  exact ⟨rfl, HA3.out⟩
theorem within_any (B : Nat) (a0 a1 a2 f : Int) (s : Sz) (least most : Int) (w : World) (h : AS w B a0 a1 a2 f []) (h0 : 0 ≤ f) :
    Calls Try.prog 12 #[.func (.func 13) #[.agg #[.func (.func 8) #[.pointer (some ⟨B, 0, none⟩)] #[]]] #[], .agg #[.bool s.au, .int .i64 s.n], .int .i64 least, .int .i64 most] w fun e w' => e = .returned (.tuple #[.int .i64 (gotN (askedL s least most a0 a1) f), .bool (gotB (askedL s least most a0 a1) f)]) ∧ AS w' B a0 a1 a2 f (gotL (askedL s least most a0 a1) f) ∧ Below B w w' := by
  have key : ∀ (r : Int) (c : Bool) (l : List Sz), gotN (askedL s least most a0 a1) f = r → gotB (askedL s least most a0 a1) f = c → gotL (askedL s least most a0 a1) f = l →
      Calls Try.prog 12 #[.func (.func 13) #[.agg #[.func (.func 8) #[.pointer (some ⟨B, 0, none⟩)] #[]]] #[], .agg #[.bool s.au, .int .i64 s.n], .int .i64 least, .int .i64 most] w (fun e w' => e = .returned (.tuple #[.int .i64 r, .bool c]) ∧ AS w' B a0 a1 a2 f l ∧ Below B w w') →
      Calls Try.prog 12 #[.func (.func 13) #[.agg #[.func (.func 8) #[.pointer (some ⟨B, 0, none⟩)] #[]]] #[], .agg #[.bool s.au, .int .i64 s.n], .int .i64 least, .int .i64 most] w fun e w' => e = .returned (.tuple #[.int .i64 (gotN (askedL s least most a0 a1) f), .bool (gotB (askedL s least most a0 a1) f)]) ∧ AS w' B a0 a1 a2 f (gotL (askedL s least most a0 a1) f) ∧ Below B w w' := by
    intro r c l e1 e2 e3 hc
    rw [e1, e2, e3]
    exact hc
  by_cases g1 : f < 1
  · obtain rfl : f = 0 := by omega
    refine key _ _ _ ?_ ?_ ?_ (within_1 B a0 a1 a2 0 s least most w h g1) <;> (simp only [gotN, gotB, gotL, askedL]; (repeat' split) <;> simp_all <;> try omega)
  · by_cases h1 : most < a0
    · by_cases g2 : f < 2
      · obtain rfl : f = 1 := by omega
        refine key _ _ _ ?_ ?_ ?_ (within_5 B a0 a1 a2 1 s least most w h g1 h1 g2) <;> (simp only [gotN, gotB, gotL, askedL, if_pos h1]; (repeat' split) <;> simp_all <;> try omega)
      · by_cases h2 : a1 < least
        · have eL : askedL s least most a0 a1 = [s, ⟨false, most⟩, ⟨false, least⟩] := by rw [askedL, if_pos h1, if_pos h2]
          by_cases g3 : f < 3
          · obtain rfl : f = 2 := by omega
            refine key _ _ _ ?_ ?_ ?_ (within_7 B a0 a1 a2 2 s least most w h g1 h1 g2 h2 g3) <;> (rw [eL]; simp [gotN, gotB, gotL])
          · have e1 : (3 : Int) ≤ f := by omega
            have e2 : 3 ≤ (f + 1).toNat := by omega
            refine key _ _ _ ?_ ?_ ?_ (within_8 B a0 a1 a2 f s least most w h g1 h1 g2 h2 g3) <;> (rw [eL]; simp [gotN, gotB, gotL, e1, e2, List.take_of_length_le])
        · have eL : askedL s least most a0 a1 = [s, ⟨false, most⟩] := by rw [askedL, if_pos h1, if_neg h2]
          have e1 : (2 : Int) ≤ f := by omega
          have e2 : 2 ≤ (f + 1).toNat := by omega
          refine key _ _ _ ?_ ?_ ?_ (within_6 B a0 a1 a2 f s least most w h g1 h1 g2 h2) <;> (rw [eL]; simp [gotN, gotB, gotL, e1, e2, List.take_of_length_le])
    · by_cases h2 : a0 < least
      · have eL : askedL s least most a0 a1 = [s, ⟨false, least⟩] := by rw [askedL, if_neg h1, if_pos h2]
        by_cases g2 : f < 2
        · obtain rfl : f = 1 := by omega
          refine key _ _ _ ?_ ?_ ?_ (within_3 B a0 a1 a2 1 s least most w h g1 h1 h2 g2) <;> (rw [eL]; simp [gotN, gotB, gotL])
        · have e1 : (2 : Int) ≤ f := by omega
          have e2 : 2 ≤ (f + 1).toNat := by omega
          refine key _ _ _ ?_ ?_ ?_ (within_4 B a0 a1 a2 f s least most w h g1 h1 h2 g2) <;> (rw [eL]; simp [gotN, gotB, gotL, e1, e2, List.take_of_length_le])
      · have eL : askedL s least most a0 a1 = [s] := by rw [askedL, if_neg h1, if_neg h2]
        have e1 : (1 : Int) ≤ f := by omega
        have e2 : 1 ≤ (f + 1).toNat := by omega
        refine key _ _ _ ?_ ?_ ?_ (within_2 B a0 a1 a2 f s least most w h g1 h1 h2) <;> (rw [eL]; simp [gotN, gotB, gotL, e1, e2, List.take_of_length_le])
theorem solve_any (B : Nat) (a0 a1 a2 f : Int) (s : Sz) (least most : Int) (w : World) (h : AS w B a0 a1 a2 f []) (h0 : 0 ≤ f) :
    Calls Try.prog 7 #[.func (.func 8) #[.pointer (some ⟨B, 0, none⟩)] #[], .agg #[.bool s.au, .int .i64 s.n], .int .i64 least, .int .i64 most] w fun e w' => e = .returned (.tuple #[.int .i64 (gotN (askedL s least most a0 a1) f), .bool (gotB (askedL s least most a0 a1) f)]) ∧ AS w' B a0 a1 a2 f (gotL (askedL s least most a0 a1) f) ∧ Below B w w' := by
  have hmf : ∀ (fn : Fn) (first cap : Array Value) (w : World), (Instr.makeFunc fn first cap).run Try.prog w = .ok (.func fn first cap) w := fun _ _ _ _ => rfl
  obtain ⟨W, hW⟩ : ∃ W, W = w.alloc (.cells #[.bool s.au, .int .i64 s.n] 23) := ⟨_, rfl⟩
  have hA : AS W B a0 a1 a2 f [] := by rw [hW]; exact h.seen ((Seen.refl w).alloc _)
  have hb : Below B w W := by rw [hW]; exact (Below.refl B w).alloc (Nat.le_of_lt h.lt) _
  have HB := Lib.hid hb
  have HC := within_any B a0 a1 a2 f s least most W hA h0
  clear hA hb h h0
  obtain ⟨r, hr⟩ : ∃ r, gotN (askedL s least most a0 a1) f = r := ⟨_, rfl⟩
  obtain ⟨c, hc⟩ : ∃ c, gotB (askedL s least most a0 a1) f = c := ⟨_, rfl⟩
  obtain ⟨l, hl⟩ : ∃ l, gotL (askedL s least most a0 a1) f = l := ⟨_, rfl⟩
  rw [hr, hc, hl] at HC
  rw [hr, hc, hl]
  clear hr hc hl
  go_enter Try.func7, Try.ntmps7
  go_wp2_with (go_at_call 12; rw [← hW]; clear hW; refine HC.mono ?_; clear HC; rintro e w1 ⟨rfl, hA, hB⟩; have HE := Lib.hid (And.intro hA (HB.out.trans hB)); clear hA hB HB)
  go_ret2
  exact ⟨rfl, HE.out⟩
end Go.Proofs.Ytodkkjpeonibnaa
