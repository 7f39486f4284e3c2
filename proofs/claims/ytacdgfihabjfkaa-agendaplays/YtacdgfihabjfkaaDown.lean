/- Contract of container/heap's down, over the list of entries. -/
import Derived.Test.YtacdgfihabjfkaaUp
namespace Go.Proofs.Ytacdgfihabjfkaa
open Go.ChangeShapes Go.WideShapes Go.ChangeAt Go.RowKit
set_option maxHeartbeats 2000000 in
theorem down_any (base B : Nat) (T : Nat → Prop) (l : List E3) (g N n cap : Nat) (W0 : World) (l0 : List E3) (w : World) (h : HI base B g N cap T W0 l0 l w) (hN : N ≤ 1000000) (hnN : n ≤ N) (hu : DownInv l n 0) (x : E3) (hx : ∀ m, n ≤ m → m < N → eat l m = x) :
    Calls Try.prog 26 #[.iface 50 (.pointer (some ⟨B, 0, none⟩)), .int .i64 0, .int .i64 n] w fun e w' => (∃ v, e = .returned v) ∧ ∃ l', HI base B g N cap T W0 l0 l' w' ∧ HeapP l' n ∧ ∀ m, n ≤ m → m < N → eat l' m = x := by
  have HH := Lib.hid h
  have HU := Lib.hid hu
  have HX := Lib.hid hx
  clear h hu hx
  go_enter Try.func26, Try.ntmps26
  go_wp2_with fail
  go_loopg [7] (n + 1) (fun gh vj wr => ∃ (k : Nat) (lk : List E3), vj = .int .i64 k ∧ n < gh + k ∧ k ≤ n ∧ HI base B g N cap T W0 l0 lk wr ∧ DownInv lk n k ∧ ∀ m, n ≤ m → m < N → eat lk m = x)
  case atStart => exact ⟨0, l, rfl, by omega, by omega, HH.out, HU.out, HX.out⟩
  case round =>
    obtain ⟨k, lk, rfl, hg, hkn, hI, hu, hx⟩ := hrel
    have H2 := Lib.hid hI
    have HU2 := Lib.hid hu
    have HX2 := Lib.hid hx
    have hm := method_less ⟨B, 0, none⟩ wr _ _ _ hI.2.2.1.cell
    have HL : Hid (lk.length = N) := hI.1
    clear hu hI hx
    obtain ⟨j1, hj1⟩ : ∃ j1, j1 = 2 * k + 1 := ⟨_, rfl⟩
    obtain ⟨j2, hj2⟩ : ∃ j2, j2 = 2 * k + 2 := ⟨_, rfl⟩
    have HJ1 := Lib.hid hj1
    have HJ2 := Lib.hid hj2
    have e1 : (2 : Int) * (k : Int) + 1 = (j1 : Int) := by omega
    have e2 : (j1 : Int) + 1 = (j2 : Int) := by omega
    have hb1 : j1 ≤ 3000000 := by omega
    have hb2 : j2 ≤ 3000000 := by omega
    have hjk : k < j1 := by omega
    have hj12 : j1 < j2 := by omega
    clear hj1 hj2
    by_cases c1 : j1 < n
    · have i1 : (j1 : Int) < (n : Int) := by omega
      have i0 : (0 : Int) ≤ (j1 : Int) := by omega
      by_cases c2 : j2 < n
      · have i2 : (j2 : Int) < (n : Int) := by omega
        obtain ⟨q1, hq1⟩ : ∃ q, ltE (eat lk j2) (eat lk j1) = q := ⟨_, rfl⟩
        have HQ1 := Lib.hid hq1
        have hc1 := fun (_ : True) => HI.less H2.out (i := j2) (j := j1) (by omega) (by omega) hN
        rw [hq1] at hc1
        have HC1 := Lib.hid hc1
        clear hq1 hc1
        cases q1 with
        | true =>
          obtain ⟨q, hq⟩ : ∃ q, ltE (eat lk j2) (eat lk k) = q := ⟨_, rfl⟩
          have HQ := Lib.hid hq
          have HLS : Hid (Lesser lk n k j2) := by have h := lesser_right (l := lk) (n := n) (i := k) (by rw [← HJ2.out]; exact c2) (by rw [← HJ1.out, ← HJ2.out]; exact HQ1.out); rwa [← HJ2.out] at h
          have hcl := fun (w' : World) (h : HI base B g N cap T W0 l0 lk w') => HI.less h (i := j2) (j := k) (by omega) (by omega) hN
          rw [hq] at hcl
          have HCL := Lib.hid hcl
          clear hq hcl
          cases q with
          | false =>
            go_wp2_with (first | (go_at_call 64; refine (HC1.out trivial).mono ?_; rintro e w1 ⟨rfl, hI3⟩; have H3 := Lib.hid hI3; clear hm HC1; have hm := method_less ⟨B, 0, none⟩ w1 _ _ _ hI3.2.2.1.cell; clear hI3) | (go_at_call 64; refine (HCL.out _ H3.out).mono ?_; rintro e w2 ⟨rfl, hI4⟩; have H4 := Lib.hid hI4; clear hm HCL; have hm := method_swap ⟨B, 0, none⟩ w2 _ _ _ hI4.2.2.1.cell; clear hI4))
            go_ret
            exact ⟨⟨_, rfl⟩, lk, H4.out, down_end HU2.out HLS.out HQ.out, HX2.out⟩
          | true =>
            go_wp2_with (first | (go_at_call 64; refine (HC1.out trivial).mono ?_; rintro e w1 ⟨rfl, hI3⟩; have H3 := Lib.hid hI3; clear hm HC1; have hm := method_less ⟨B, 0, none⟩ w1 _ _ _ hI3.2.2.1.cell; clear hI3) | (go_at_call 64; refine (HCL.out _ H3.out).mono ?_; rintro e w2 ⟨rfl, hI4⟩; have H4 := Lib.hid hI4; clear hm HCL; have hm := method_swap ⟨B, 0, none⟩ w2 _ _ _ hI4.2.2.1.cell; clear hI4) | (go_at_call 65; refine (HI.swaps H4.out (i := k) (j := j2) (by omega) (by omega) hN).mono ?_; rintro e w3 ⟨rfl, hI5⟩; have H5 := Lib.hid hI5; clear hI5 hm))
            go_roundg (gk - 1)
            case rel => exact ⟨j2, swapE lk k j2, rfl, by omega, by omega, H5.out, down_step (by rw [HL.out]; omega) HU2.out HLS.out HQ.out, fun m h1 h2 => by rw [eat_swap (by rw [HL.out]; omega) (by rw [HL.out]; omega), if_neg (by omega), if_neg (by omega)]; exact HX2.out m h1 h2⟩
            case measure => omega
        | false =>
          obtain ⟨q, hq⟩ : ∃ q, ltE (eat lk j1) (eat lk k) = q := ⟨_, rfl⟩
          have HQ := Lib.hid hq
          have HLS : Hid (Lesser lk n k j1) := by have h := lesser_left (l := lk) (n := n) (i := k) (by rw [← HJ1.out]; exact c1) (by rw [← HJ1.out, ← HJ2.out]; exact HQ1.out); rwa [← HJ1.out] at h
          have hcl := fun (w' : World) (h : HI base B g N cap T W0 l0 lk w') => HI.less h (i := j1) (j := k) (by omega) (by omega) hN
          rw [hq] at hcl
          have HCL := Lib.hid hcl
          clear hq hcl
          cases q with
          | false =>
            go_wp2_with (first | (go_at_call 64; refine (HC1.out trivial).mono ?_; rintro e w1 ⟨rfl, hI3⟩; have H3 := Lib.hid hI3; clear hm HC1; have hm := method_less ⟨B, 0, none⟩ w1 _ _ _ hI3.2.2.1.cell; clear hI3) | (go_at_call 64; refine (HCL.out _ H3.out).mono ?_; rintro e w2 ⟨rfl, hI4⟩; have H4 := Lib.hid hI4; clear hm HCL; have hm := method_swap ⟨B, 0, none⟩ w2 _ _ _ hI4.2.2.1.cell; clear hI4))
            go_ret
            exact ⟨⟨_, rfl⟩, lk, H4.out, down_end HU2.out HLS.out HQ.out, HX2.out⟩
          | true =>
            go_wp2_with (first | (go_at_call 64; refine (HC1.out trivial).mono ?_; rintro e w1 ⟨rfl, hI3⟩; have H3 := Lib.hid hI3; clear hm HC1; have hm := method_less ⟨B, 0, none⟩ w1 _ _ _ hI3.2.2.1.cell; clear hI3) | (go_at_call 64; refine (HCL.out _ H3.out).mono ?_; rintro e w2 ⟨rfl, hI4⟩; have H4 := Lib.hid hI4; clear hm HCL; have hm := method_swap ⟨B, 0, none⟩ w2 _ _ _ hI4.2.2.1.cell; clear hI4) | (go_at_call 65; refine (HI.swaps H4.out (i := k) (j := j1) (by omega) (by omega) hN).mono ?_; rintro e w3 ⟨rfl, hI5⟩; have H5 := Lib.hid hI5; clear hI5 hm))
            go_roundg (gk - 1)
            case rel => exact ⟨j1, swapE lk k j1, rfl, by omega, by omega, H5.out, down_step (by rw [HL.out]; omega) HU2.out HLS.out HQ.out, fun m h1 h2 => by rw [eat_swap (by rw [HL.out]; omega) (by rw [HL.out]; omega), if_neg (by omega), if_neg (by omega)]; exact HX2.out m h1 h2⟩
            case measure => omega
      · have i2 : ¬ (j2 : Int) < (n : Int) := by omega
        obtain ⟨q, hq⟩ : ∃ q, ltE (eat lk j1) (eat lk k) = q := ⟨_, rfl⟩
        have HQ := Lib.hid hq
        have HLS : Hid (Lesser lk n k j1) := by have h := lesser_one (l := lk) (n := n) (i := k) (by rw [← HJ1.out]; exact c1) (by rw [← HJ2.out]; exact c2); rwa [← HJ1.out] at h
        have hcl := fun (w' : World) (h : HI base B g N cap T W0 l0 lk w') => HI.less h (i := j1) (j := k) (by omega) (by omega) hN
        rw [hq] at hcl
        have HCL := Lib.hid hcl
        clear hq hcl
        cases q with
        | false =>
          go_wp2_with (first | (go_at_call 64; refine (HCL.out _ H2.out).mono ?_; rintro e w2 ⟨rfl, hI4⟩; have H4 := Lib.hid hI4; clear hm HCL; have hm := method_swap ⟨B, 0, none⟩ w2 _ _ _ hI4.2.2.1.cell; clear hI4))
          go_ret
          exact ⟨⟨_, rfl⟩, lk, H4.out, down_end HU2.out HLS.out HQ.out, HX2.out⟩
        | true =>
          go_wp2_with (first | (go_at_call 64; refine (HCL.out _ H2.out).mono ?_; rintro e w2 ⟨rfl, hI4⟩; have H4 := Lib.hid hI4; clear hm HCL; have hm := method_swap ⟨B, 0, none⟩ w2 _ _ _ hI4.2.2.1.cell; clear hI4) | (go_at_call 65; refine (HI.swaps H4.out (i := k) (j := j1) (by omega) (by omega) hN).mono ?_; rintro e w3 ⟨rfl, hI5⟩; have H5 := Lib.hid hI5; clear hI5 hm))
          go_roundg (gk - 1)
          case rel => exact ⟨j1, swapE lk k j1, rfl, by omega, by omega, H5.out, down_step (by rw [HL.out]; omega) HU2.out HLS.out HQ.out, fun m h1 h2 => by rw [eat_swap (by rw [HL.out]; omega) (by rw [HL.out]; omega), if_neg (by omega), if_neg (by omega)]; exact HX2.out m h1 h2⟩
          case measure => omega
    · have i1 : (n : Int) ≤ (j1 : Int) := by omega
      go_wp2_with fail
      go_ret
      exact ⟨⟨_, rfl⟩, lk, H2.out, down_none HU2.out (by rw [← HJ1.out]; omega), HX2.out⟩
end Go.Proofs.Ytacdgfihabjfkaa
