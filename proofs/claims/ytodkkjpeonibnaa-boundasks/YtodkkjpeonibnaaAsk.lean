/- The deferred recover of package bound, where nothing panics; the law's own function same; a size. No conditions beyond those written in each theorem. -/
import Derived.Test.YtodkkjpeonibnaaBlk
import Derived.Defers
import Derived.Recover
namespace Go.Proofs.Ytodkkjpeonibnaa
open Go.ChangeShapes Go.WideShapes Go.ChangeAt Go.RowKit
set_option maxRecDepth 100000
/-- A size: auto, or a number. -/
structure Sz where
  au : Bool
  n : Int
deriving DecidableEq
/-- Its cells, its value. -/
def szl (s : Sz) : List Value := [.bool s.au, .int .i64 s.n]
theorem caught16 (w : World) : CallsD Try.prog 16 #[] .returning w fun e u' w' => e = .returned (.tuple #[]) ∧ u' = .returning ∧ w' = w := by
  refine callsD_of_wpS Try.func16 rfl fun c₀ cs hu => ?_
  apply wpS_region
  simp [wpOpsS, go_sem, recoverD, hu, Try.ntmps16, bodyPostS, results, Try.results16]
  rw [← hu]
theorem caught17 (w : World) : CallsD Try.prog 17 #[] .returning w fun e u' w' => e = .returned (.tuple #[]) ∧ u' = .returning ∧ w' = w := by
  refine callsD_of_wpS Try.func17 rfl fun c₀ cs hu => ?_
  apply wpS_region
  simp [wpOpsS, go_sem, recoverD, hu, Try.ntmps17, bodyPostS, results, Try.results17]
  rw [← hu]
theorem same_any (s : Sz) (w : World) :
    Calls Try.prog 11 #[.agg #[.bool s.au, .int .i64 s.n]] w fun e w' => e = .returned (.tuple #[.int .i64 s.n, .int .i64 s.n, .bool true]) ∧ Below w.heap.size w w' := by
  go_enter Try.func11, Try.ntmps11
  go_wp2
  go_quiet (fail)
  go_wp2
  go_returns
  exact ⟨rfl, ((Seen.refl w).alloc _).next (Go.Joins.below_draws _ _ _)⟩
theorem ask64 (b : Bool) (n : Int) (w : World) :
    Calls Try.prog 15 #[.agg #[.func (.func 11) #[] #[]], .agg #[.bool b, .int .i64 n]] w fun e w' => e = .returned (.tuple #[.int .i64 n, .int .i64 n, .bool true]) ∧ Below w.heap.size w w' := by
  have hn : ∀ (f : Fn) (a c : Array Value) (w : World), (binOp .eql 39 (.func f a c) .nilFunc).run Try.prog w = .ok (.bool false) w := fun _ _ _ _ => by kernel_rfl
  go_enter_defers Try.func15, Try.ntmps15
  go_wp2_with (go_at_call 11; refine (same_any ⟨b, n⟩ _).mono ?_; rintro e w1 ⟨rfl, hb⟩)
  refine leaves_cons (f := 17) (args := #[]) (by simp) (by simp [go_sem]) ?_
  refine (caught17 _).mono ?_
  rintro e u' w2 ⟨rfl, rfl, rfl⟩
  simp [Leaves, settle, results, Try.results15, go_sem]
  exact (((Seen.refl w).alloc _).alloc _).next hb
/-- The number, held to the bounds; the least wins. -/
def heldTo (n least most : Int) : Int := if (if most < n then most else n) < least then least else (if most < n then most else n)
set_option maxHeartbeats 1000000 in
theorem within64 (s : Sz) (least most : Int) (w : World) :
    Calls Try.prog 14 #[.func (.func 15) #[.agg #[.func (.func 11) #[] #[]]] #[], .agg #[.bool s.au, .int .i64 s.n], .int .i64 least, .int .i64 most] w fun e w' => e = .returned (.tuple #[.int .i64 (heldTo s.n least most), .bool true]) ∧ Below w.heap.size w w' := by
  have HV := Lib.hid (show heldTo s.n least most = if (if most < s.n then most else s.n) < least then least else (if most < s.n then most else s.n) from rfl)
  have acc := (Seen.refl w).alloc (.cells #[.bool s.au, .int .i64 s.n] 23)
  rcases (by omega : (most < s.n ∧ most < least) ∨ (most < s.n ∧ ¬ most < least) ∨ (¬ most < s.n ∧ s.n < least) ∨ (¬ most < s.n ∧ ¬ s.n < least)) with ⟨h1, h2⟩ | ⟨h1, h2⟩ | ⟨h1, h2⟩ | ⟨h1, h2⟩
  · have H := Lib.hid (show heldTo s.n least most = least by rw [HV.out, if_pos h1, if_pos h2])
    clear HV
    go_enter Try.func14, Try.ntmps14
    go_wp2_with (go_at_call 15; refine (ask64 _ _ _).mono ?_; rintro e w1 ⟨rfl, hb1⟩; replace acc := acc.next hb1; clear hb1)
    go_ret2
    exact ⟨by rw [H.out]; rfl, acc⟩
  · have H := Lib.hid (show heldTo s.n least most = most by rw [HV.out, if_pos h1, if_neg h2])
    clear HV
    go_enter Try.func14, Try.ntmps14
    go_wp2_with (go_at_call 15; refine (ask64 _ _ _).mono ?_; rintro e w1 ⟨rfl, hb1⟩; replace acc := acc.next hb1; clear hb1)
    go_ret2
    exact ⟨by rw [H.out]; rfl, acc⟩
  · have H := Lib.hid (show heldTo s.n least most = least by rw [HV.out, if_neg h1, if_pos h2])
    clear HV
    go_enter Try.func14, Try.ntmps14
    go_wp2_with (go_at_call 15; refine (ask64 _ _ _).mono ?_; rintro e w1 ⟨rfl, hb1⟩; replace acc := acc.next hb1; clear hb1)
    go_ret2
    exact ⟨by rw [H.out]; rfl, acc⟩
  · have H := Lib.hid (show heldTo s.n least most = s.n by rw [HV.out, if_neg h1, if_neg h2])
    clear HV
    go_enter Try.func14, Try.ntmps14
    go_wp2_with (go_at_call 15; refine (ask64 _ _ _).mono ?_; rintro e w1 ⟨rfl, hb1⟩; replace acc := acc.next hb1; clear hb1)
    go_ret2
    exact ⟨by rw [H.out]; rfl, acc⟩
theorem solve64 (s : Sz) (least most : Int) (w : World) :
    Calls Try.prog 10 #[.func (.func 11) #[] #[], .agg #[.bool s.au, .int .i64 s.n], .int .i64 least, .int .i64 most] w fun e w' => e = .returned (.tuple #[.int .i64 (heldTo s.n least most), .bool true]) ∧ Below w.heap.size w w' := by
  have hmf : ∀ (fn : Fn) (first cap : Array Value) (w : World), (Instr.makeFunc fn first cap).run Try.prog w = .ok (.func fn first cap) w := fun _ _ _ _ => rfl
  have acc := (Seen.refl w).alloc (.cells #[.bool s.au, .int .i64 s.n] 23)
  go_enter Try.func10, Try.ntmps10
  go_wp2_with (go_at_call 14; refine (within64 s least most _).mono ?_; rintro e w1 ⟨rfl, hb1⟩; replace acc := acc.next hb1; clear hb1)
  go_ret2
  exact ⟨rfl, acc⟩
end Go.Proofs.Ytodkkjpeonibnaa
