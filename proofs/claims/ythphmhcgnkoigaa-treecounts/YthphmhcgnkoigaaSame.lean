/- Contracts of slices.Equal, Same of package tree and the reference's Same, at two slices that read as one list; no conditions beyond those written in each theorem. -/
import Derived.Test.YthphmhcgnkoigaaNdMem
namespace Go.Proofs.Ythphmhcgnkoigaa
open Go.ChangeShapes Go.WideShapes Go.ChangeAt Go.RowKit
set_option maxRecDepth 100000
theorem run_loadAtN {w : World} {b o : Nat} {x : Nd} (h : At w b o x) : (Instr.loadAt 51 (.pointer (some ⟨b, o, none⟩))).run Try.prog w = .ok (nv x) w := by
  have e : (loadVar 51 ⟨b, o, none⟩).run Try.prog w = .ok (nv x) w := run_loadVar_mid w b o 51 (ndl x) _ h Try.underlying51 rfl (by rw [ndl_length]; exact info51)
  simp only [Instr.loadAt, Instr.sureAddr, Sem.run_bind, Sem.run_pure, Result.andThen_ok, e]
theorem quiet_loadN {op : Oper} {a : Act} {C : World → Prop} {w : World} {q : Nd} {b o : Nat} (x : Operand) (ho : op.op = .load 51 x) (hx : a.eval x = .pointer (some ⟨b, o, none⟩))
    (hl : (Instr.loadAt 51 (.pointer (some ⟨b, o, none⟩))).run Try.prog w = .ok (nv q) w) : Oper.quietAt Try.prog op a C w (nv q) := by
  unfold Oper.quietAt execOp
  simp only [ho, hx, Sem.run_bind, hl, Result.andThen_ok, Sem.run_pure]
  exact ⟨rfl, rfl⟩
set_option maxHeartbeats 4000000 in
theorem equal_any (ad ad' : Option Addr) (n c c' : Nat) (l : List Nd) (w : World) (h : NS w ad n l) (h' : NS w ad' n l) (hn : n ≤ 1099511627776) :
    Calls Try.prog 35 #[.slice ad n c, .slice ad' n c'] w fun e w' => e = .returned (.bool true) ∧ Seen w w' := by
  rcases Nat.eq_zero_or_pos n with h0 | h0
  · subst h0
    clear h h'
    go_enter Try.func35, Try.ntmps35
    go_wp2_with fail
    go_loopw [13] (fun i wr => i = .int .i64 0 ∧ wr = w) (fun _ _ => 0)
    case atStart => exact ⟨rfl, rfl⟩
    case round =>
      obtain ⟨rfl, rfl⟩ := hrel
      go_wp2_with fail
      go_ret
      exact ⟨rfl, Seen.refl _⟩
  · obtain ⟨b, off, rfl, hc⟩ := h.ats h0
    obtain ⟨b', off', rfl, hc'⟩ := h'.ats h0
    have HC := Lib.hid hc
    have HC' := Lib.hid hc'
    clear h hc h' hc'
    go_enter Try.func35, Try.ntmps35
    go_wp2_with fail
    go_loopw [13] (fun i wr => ∃ k : Nat, k ≤ n ∧ i = .int .i64 k ∧ Seen w wr) (fun i _ => n - (intOf i).toNat)
    case atStart => exact ⟨0, Nat.zero_le _, rfl, Seen.refl _⟩
    case round =>
      obtain ⟨k, hk, rfl, hs⟩ := hrel
      have S1 := Lib.hid hs
      clear hs
      by_cases hlt : k < n
      · have hk' : (k : Int) < (n : Int) := by omega
        have A1 : Hid (∀ w1, Seen w w1 → (Instr.loadAt 51 (.pointer (some ⟨b, off + k * 49, none⟩))).run Try.prog w1 = .ok (nv (nd l k)) w1) := fun w1 h1 => run_loadAtN ((HC.out k hlt).seen h1)
        have A2 : Hid (∀ w1, Seen w w1 → (Instr.loadAt 51 (.pointer (some ⟨b', off' + k * 49, none⟩))).run Try.prog w1 = .ok (nv (nd l k)) w1) := fun w1 h1 => run_loadAtN ((HC'.out k hlt).seen h1)
        have hne := neq_node (nd l k)
        have hgd := fun x y => guard_node .neq x y (nd l k) (nd l k)
        go_wp2_with fail
        refine wp_region_quiet (C := Seen w) (by kernel_rfl) (by kernel_rfl) (Seen.drew S1.out) ?_
        simp only []
        repeat (first
          | go_big_quiet_skip
          | (go_big_quiet_want
             apply Exists.intro
             refine ⟨fun w1 h1 => ?_, ?_⟩
             focus
               first
               | exact quiet_loadN _ rfl rfl (A1.out w1 h1)
               | exact quiet_loadN _ rfl rfl (A2.out w1 h1)
               | (go_simp
                  first
                    | done
                    | rfl)
             (try simp only [Act.put, List.setIfInBounds_toArray, List.set_cons_zero, List.set_cons_succ])
             go_big_quiet_on))
        refine wpQuiet_nil ?_
        intro w3 h3
        go_wp2_with fail
        exact ⟨⟨k + 1, by omega, by go_num, h3⟩, by simp [intOf]; omega⟩
      · have hk' : ¬ (k : Int) < (n : Int) := by omega
        go_wp2_with fail
        go_ret
        exact ⟨rfl, S1.out⟩
set_option maxHeartbeats 4000000 in
theorem refSame_any (ad ad' : Option Addr) (n c c' : Nat) (l : List Nd) (w : World) (h : NS w ad n l) (h' : NS w ad' n l) (hn : n ≤ 1099511627776) :
    Calls Try.prog 16 #[.slice ad n c, .slice ad' n c'] w fun e w' => e = .returned (.bool true) ∧ Seen w w' := by
  rcases Nat.eq_zero_or_pos n with h0 | h0
  · subst h0
    clear h h'
    go_enter Try.func16, Try.ntmps16
    go_wp2_with fail
    go_loopw [13] (fun i wr => i = .int .i64 0 ∧ wr = w) (fun _ _ => 0)
    case atStart => exact ⟨rfl, rfl⟩
    case round =>
      obtain ⟨rfl, rfl⟩ := hrel
      go_wp2_with fail
      go_ret
      exact ⟨rfl, Seen.refl _⟩
  · obtain ⟨b, off, rfl, hc⟩ := h.ats h0
    obtain ⟨b', off', rfl, hc'⟩ := h'.ats h0
    have HC := Lib.hid hc
    have HC' := Lib.hid hc'
    clear h hc h' hc'
    go_enter Try.func16, Try.ntmps16
    go_wp2_with fail
    go_loopw [13] (fun i wr => ∃ k : Nat, k ≤ n ∧ i = .int .i64 k ∧ Seen w wr) (fun i _ => n - (intOf i).toNat)
    case atStart => exact ⟨0, Nat.zero_le _, rfl, Seen.refl _⟩
    case round =>
      obtain ⟨k, hk, rfl, hs⟩ := hrel
      have S1 := Lib.hid hs
      clear hs
      by_cases hlt : k < n
      · have hk' : (k : Int) < (n : Int) := by omega
        have A1 : Hid (∀ w1, Seen w w1 → (Instr.loadAt 51 (.pointer (some ⟨b, off + k * 49, none⟩))).run Try.prog w1 = .ok (nv (nd l k)) w1) := fun w1 h1 => run_loadAtN ((HC.out k hlt).seen h1)
        have A2 : Hid (∀ w1, Seen w w1 → (Instr.loadAt 51 (.pointer (some ⟨b', off' + k * 49, none⟩))).run Try.prog w1 = .ok (nv (nd l k)) w1) := fun w1 h1 => run_loadAtN ((HC'.out k hlt).seen h1)
        have hne := neq_node (nd l k)
        have hgd := fun x y => guard_node .neq x y (nd l k) (nd l k)
        go_wp2_with fail
        refine wp_region_quiet (C := Seen w) (by kernel_rfl) (by kernel_rfl) (Seen.drew S1.out) ?_
        simp only []
        repeat (first
          | go_big_quiet_skip
          | (go_big_quiet_want
             apply Exists.intro
             refine ⟨fun w1 h1 => ?_, ?_⟩
             focus
               first
               | exact quiet_loadN _ rfl rfl (A1.out w1 h1)
               | exact quiet_loadN _ rfl rfl (A2.out w1 h1)
               | (go_simp
                  first
                    | done
                    | rfl)
             (try simp only [Act.put, List.setIfInBounds_toArray, List.set_cons_zero, List.set_cons_succ])
             go_big_quiet_on))
        refine wpQuiet_nil ?_
        intro w3 h3
        go_wp2_with fail
        exact ⟨⟨k + 1, by omega, by go_num, h3⟩, by simp [intOf]; omega⟩
      · have hk' : ¬ (k : Int) < (n : Int) := by omega
        go_wp2_with fail
        go_ret
        exact ⟨rfl, S1.out⟩
theorem same_any (ad ad' : Option Addr) (n c c' : Nat) (l : List Nd) (w : World) (h : NS w ad n l) (h' : NS w ad' n l) (hn : n ≤ 1099511627776) :
    Calls Try.prog 17 #[.slice ad n c, .slice ad' n c'] w fun e w' => e = .returned (.bool true) ∧ Seen w w' := by
  have HE := Lib.hid (equal_any ad ad' n c c' l w h h' hn)
  clear h h'
  go_enter Try.func17, Try.ntmps17
  go_wp2_with (go_at_call 35; refine HE.out.mono ?_; rintro e w1 ⟨rfl, hs⟩; have S1 := Lib.hid hs; clear hs)
  go_ret
  exact ⟨rfl, S1.out⟩
end Go.Proofs.Ythphmhcgnkoigaa
