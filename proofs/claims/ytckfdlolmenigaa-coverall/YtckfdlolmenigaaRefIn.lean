/- Contract of In, of the reference package: is a point in one of some? -/
import Derived.Test.YtckfdlolmenigaaApart
namespace Go.Proofs.Ytckfdlolmenigaa
open Go.ChangeShapes Go.WideShapes Go.ChangeAt Go.RowKit
theorem inB_hit {rs : List R4} {k : Nat} {x y : Int} (hk : k < rs.length) (h : holdsB (rat rs k) x y = true) : inB rs x y = true := by
  unfold inB; rw [List.any_eq_true]
  exact ⟨rs[k], List.getElem_mem hk, by rw [← rat_eq hk]; exact h⟩
theorem inB_miss {rs : List R4} {x y : Int} (h : ∀ j, j < rs.length → holdsB (rat rs j) x y = false) : inB rs x y = false := by
  cases hb : inB rs x y with
  | false => rfl
  | true =>
    unfold inB at hb
    rw [List.any_eq_true] at hb
    obtain ⟨r, hr, hh⟩ := hb
    obtain ⟨i, hi, rfl⟩ := List.getElem_of_mem hr
    rw [← rat_eq hi, h i hi] at hh; cases hh
set_option maxHeartbeats 2000000 in
theorem refIn_any (ad : Option Addr) (n c : Nat) (rs : List R4) (x y : Int) (w : World) (h : RS w ad n rs) (hn : n ≤ 1000000) :
    Calls Try.prog 10 #[.slice ad n c, .int .i64 x, .int .i64 y] w fun e w' => e = .returned (.bool (inB rs x y)) ∧ Below w.heap.size w w' := by
  have HR := Lib.hid h
  clear h
  go_enter Try.func10, Try.ntmps10
  go_wp2_with fail
  go_loopw [10] (fun i wr => ∃ k : Nat, k ≤ n ∧ i = .int .i64 k ∧ (∀ j, j < k → holdsB (rat rs j) x y = false) ∧ Seen w wr) (fun i _ => n - (intOf i).toNat)
  case atStart => exact ⟨0, Nat.zero_le _, rfl, fun j hj => absurd hj (Nat.not_lt_zero _), Seen.refl _⟩
  case round =>
    obtain ⟨k, hk, rfl, hno, hs⟩ := hrel
    have HN := Lib.hid hno
    clear hno
    by_cases hlt : k < n
    · obtain ⟨b1, o1, rfl, hc1⟩ := HR.out.2 (by omega)
      have rk := At4.rules (hc1 k hlt)
      clear hc1
      have hkl : k < rs.length := by rw [HR.out.1]; exact hlt
      cases hh : holdsB (rat rs k) x y with
      | true =>
        have HH := Lib.hid hh
        have HA := Lib.hid (inB_hit hkl hh)
        clear hh
        go_wp2_with fail
        refine (isB (refHolds_any (rat rs k) x y _) HH.out).mono ?_
        rintro e wA ⟨rfl, hA⟩
        have sA : Seen w wA := hs.next hA
        clear hA
        go_wp2_with fail
        go_ret
        exact ⟨ret_bool HA.out.symm, sA⟩
      | false =>
        have HH := Lib.hid hh
        have HN2 : Hid (∀ j, j < k + 1 → holdsB (rat rs j) x y = false) := fun j hj => by
          rcases Nat.lt_succ_iff_lt_or_eq.1 hj with h1 | h1
          · exact HN.out j h1
          · rw [h1]; exact hh
        clear hh
        go_wp2_with fail
        refine (isB (refHolds_any (rat rs k) x y _) HH.out).mono ?_
        rintro e wA ⟨rfl, hA⟩
        have sA : Seen w wA := hs.next hA
        clear hA
        go_wp2_with fail
        go_roundw
        case rel => exact ⟨k + 1, by omega, by go_num, HN2.out, sA⟩
        case measure => simp [intOf]; omega
    · have HA := Lib.hid (inB_miss (rs := rs) (x := x) (y := y) (fun j hj => HN.out j (by rw [HR.out.1] at hj; omega)))
      go_wp2_with fail
      go_ret
      exact ⟨ret_bool HA.out.symm, hs⟩
end Go.Proofs.Ytckfdlolmenigaa
