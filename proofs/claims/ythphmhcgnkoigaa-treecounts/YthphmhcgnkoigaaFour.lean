/- Contracts of Four of Out and of In, and of Done; no conditions beyond those written in each theorem. -/
import Derived.Test.YthphmhcgnkoigaaGetLen
namespace Go.Proofs.Ythphmhcgnkoigaa
open Go.ChangeShapes Go.WideShapes Go.ChangeAt Go.RowKit
set_option maxRecDepth 100000
theorem oFour_any (base B : Nat) (T : Nat → Prop) (l : List Int) (v : Int) (w : World) (h : OS base B T l w) (hb : base ≤ w.heap.size) (hl : l.length + 8 ≤ 140737488355328) :
    Calls Try.prog 29 #[.pointer (some ⟨B, 0, none⟩), .int .u32 v] w fun e w' => e = .returned (.tuple #[]) ∧ ∃ T', Moves T T' w w' ∧ OS base B T' (l ++ be (v % 18446744073709551616) 4) w' := by
  have HH := Lib.hid h
  clear h
  go_enter Try.func29, Try.ntmps29
  go_wp2_with (go_at_call 45; refine (put_any base B T l _ 4 _ HH.out hb (by omega) (by omega) hl).mono ?_; rintro e w1 ⟨rfl, T1, hm1, ho1⟩; have HR := Lib.hid (And.intro hm1 ho1); clear hm1 ho1)
  go_end0
  exact ⟨rfl, T1, HR.out.1, HR.out.2⟩
theorem done_any {K : Nat → Prop} {B : Nat} {l : List Int} {bad : Bool} {w : World} (h : IS K B l bad w) : Calls Try.prog 34 #[.pointer (some ⟨B, 0, none⟩)] w fun e w' => e = .returned (.bool (!bad && decide (l.length = 0))) ∧ w' = w := by
  obtain ⟨ad, c, h0, h1, _, _, _⟩ := h.cells
  clear h
  cases bad with
  | true =>
    go_enter Try.func34, Try.ntmps34
    go_wp2_with fail
    go_ret
    exact ⟨rfl, rfl⟩
  | false =>
    go_enter Try.func34, Try.ntmps34
    go_wp2_with fail
    go_ret
    exact ⟨ret_bool (by simp only [Bool.not_false, Bool.true_and]; exact bool_iff (by rw [beq_iff_eq, decide_eq_true_iff]; omega)), rfl⟩
theorem iFour_any {K : Nat → Prop} {B : Nat} {l : List Int} {bad : Bool} {w : World} (h : IS K B l bad w) :
    Calls Try.prog 50 #[.pointer (some ⟨B, 0, none⟩)] w fun e w' => e = .returned (.int .u32 (tkV 4 l)) ∧ Turns B w w' ∧ IS K B (tkL 4 l) (tkB 4 l bad) w' := by
  have HH := Lib.hid h
  have HV := Lib.hid (tkV_bound (n := 4) h.bytes)
  clear h
  go_enter Try.func50, Try.ntmps50
  go_wp2_with (go_at_call 61; refine (take_any HH.out 4 (by omega) (by omega)).mono ?_; rintro e w1 ⟨rfl, ht, hs⟩; have HR := Lib.hid (And.intro ht hs); clear ht hs)
  go_ret
  exact ⟨(show _ = Ending.returned (.int .u32 (IntKind.u32.wrap (tkV 4 l))) from rfl).trans (ret_int (by have := HV.out; rw [IntKind.wrap_u32]; omega)), HR.out⟩
section
variable {K : Nat → Prop} {B : Nat} {t : St} {w : World}
theorem IT.four (h : IT K B t w) : Calls Try.prog 50 #[.pointer (some ⟨B, 0, none⟩)] w fun e w' => e = .returned (.int .u32 (tkV 4 t.l)) ∧ Turns B w w' ∧ IT K B (adv 4 t) w' := iFour_any h
theorem IT.done (h : IT K B t w) : Calls Try.prog 34 #[.pointer (some ⟨B, 0, none⟩)] w fun e w' => e = .returned (.bool (!t.bad && decide (t.l.length = 0))) ∧ w' = w := done_any h
theorem IT.isBad (h : IT K B t w) : Calls Try.prog 51 #[.pointer (some ⟨B, 0, none⟩)] w fun e w' => e = .returned (.bool t.bad) ∧ w' = w := bad_any h
theorem IT.fail (h : IT K B t w) : Calls Try.prog 62 #[.pointer (some ⟨B, 0, none⟩)] w fun e w' => e = .returned (.tuple #[]) ∧ Turns B w w' ∧ IT K B ⟨[], true⟩ w' := fail_any h
end
end Go.Proofs.Ythphmhcgnkoigaa
