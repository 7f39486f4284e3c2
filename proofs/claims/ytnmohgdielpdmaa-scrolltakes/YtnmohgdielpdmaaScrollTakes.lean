/- Proved: for all bytes b and askings l (of up to 500 and 60 the answers are held against the reference) the law ScrollTakes returns true, and its arguments read afterwards as before; no conditions. -/
import Derived.Test.YtnmohgdielpdmaaRows
import Derived.WalkKit
import Derived.Test.YtnmohgdielpdmaaTakesMath
import Derived.ProofKit
import Derived.OpenShut
import Derived.ShutString
import Derived.ChangeOld
import Derived.Below
namespace Go.Proofs.Ytnmohgdielpdmaa.scrollTakes
open Go.ChangeShapes Go.WideShapes Go.ChangeAt Go.RowKit
set_option linter.unusedVariables false

theorem own : ownKnob Try.prog.godebug = none := by kernel_rfl
theorem laidOut : laidOutB Try.prog = true := by kernel_rfl


set_option maxRecDepth 100000 in
set_option maxHeartbeats 8000000 in
theorem walk (ad : Option Addr) (n c : Nat) (l : List Int) (ad2 : Option Addr) (n2 c2 : Nat) (l2 : List Int) (w : World) (ol : BS w ad n l ∧ Bytes8 l ∧ n ≤ c ∧ (ad = none → c = 0)) (ol2 : BS w ad2 n2 l2 ∧ Bytes8 l2 ∧ n2 ≤ c2 ∧ (ad2 = none → c2 = 0)) :
    Calls Try.prog 4 #[.slice ad n c, .slice ad2 n2 c2] w fun e w' => e = .returned (.bool true) ∧ Below w.heap.size w w' := by
  have HP := Lib.hid ol
  have HP2 := Lib.hid ol2
  clear ol ol2
  by_cases hn : 500 < n
  · have hn' : (500 : Int) < (n : Int) := by omega
    go_enter Try.func4, Try.ntmps4
    go_wp2_with (first
      | (go_at_call 7; refine (awake_any w).mono ?_; rintro _ w1 ⟨rfl, b1⟩; have S1 : Hid (Seen w w1) := b1; clear b1)
      | (go_at_call 7; refine (awake_any w1).mono ?_; rintro _ w2 ⟨rfl, b2⟩; have S2 : Hid (Seen w w2) := S1.out.next b2; clear b2))
    go_ret
    exact ⟨rfl, S2.out⟩
  have hn' : ¬ (500 : Int) < (n : Int) := by omega
  by_cases hm : 60 < n2
  · have hm' : (60 : Int) < (n2 : Int) := by omega
    go_enter Try.func4, Try.ntmps4
    go_wp2_with (first
      | (go_at_call 7; refine (awake_any w).mono ?_; rintro _ w1 ⟨rfl, b1⟩; have S1 : Hid (Seen w w1) := b1; clear b1)
      | (go_at_call 7; refine (awake_any w1).mono ?_; rintro _ w2 ⟨rfl, b2⟩; have S2 : Hid (Seen w w2) := S1.out.next b2; clear b2))
    go_ret
    exact ⟨rfl, S2.out⟩
  have hm' : ¬ (60 : Int) < (n2 : Int) := by omega
  go_enter Try.func4, Try.ntmps4
  go_wp2_with (first
    | (go_at_call 7; refine (awake_any w).mono ?_; rintro _ w1 ⟨rfl, b1⟩; have S1 : Hid (Seen w w1) := b1; clear b1)
    | (go_at_call 13; refine (newIn_any ad n c l w1 (HP.out.1.seen S1.out) HP.out.2.1 HP.out.2.2.2 (by omega)).mono ?_; rintro _ w2 ⟨B, K, rfl, hi2, hk2, hs2⟩; have R2 := Lib.hid (And.intro (S1.out.trans hs2) (And.intro hi2 (And.intro hs2 hk2))); clear hi2 hk2 hs2))
  obtain ⟨X, hX⟩ : ∃ X, w2.heap.size = X := ⟨_, rfl⟩
  obtain ⟨W, hW⟩ : ∃ W, W = w2.alloc (.cells #[.slice ad n c, .bool false] 38) := ⟨_, rfl⟩
  have HXK : Hid (¬ K X) := fun h => by have := R2.out.2.1.2.1 X h; omega
  have HX : Hid (w.heap.size ≤ X) := by unfold Hid; have := R2.out.1.size; omega
  have HB : Hid (w.heap.size ≤ B) := by unfold Hid; have := S1.out.size; have := R2.out.2.2.2 B R2.out.2.1.1; omega
  have HXB : Hid (X ≠ B) := fun e => HXK.out (by rw [e]; exact R2.out.2.1.1)
  have HT0 : Hid (TI w K B X l false ad n c W) := by
    unfold Hid
    rw [hW]
    exact ⟨R2.out.1.alloc _, R2.out.2.1.seen ((Seen.refl w2).alloc _), by rw [← hX]; exact World.alloc_heap_new w2 _, HP.out.1, HP.out.2.2.1⟩
  rw [← hW, hX]
  clear hW hX R2 S1
  go_loopw [29] (fun i wr => ∃ k : Nat, k ≤ n2 ∧ i = .int .i64 k ∧ ∃ lst bad aX NX cX, TI w K B X lst bad aX NX cX wr) (fun i _ => n2 - (intOf i).toNat)
  case atStart => exact ⟨0, Nat.zero_le _, rfl, l, false, ad, n, c, HT0.out⟩
  case round =>
    obtain ⟨k, hk, rfl, lst, bad, aX, NX, cX, h0⟩ := hrel
    have H0 := Lib.hid h0
    clear h0 HT0
    by_cases hlt : k < n2
    · have hkn : (k : Int) < (n2 : Int) := by omega
      obtain ⟨b2, off2, rfl, hcell⟩ := HP2.out.1.2 (by omega)
      have ck := BS.rules hcell hlt wr H0.out.seen
      clear hcell
      obtain ⟨hx0, hx1⟩ := bat_ok HP2.out.2.1 k
      obtain ⟨x, hx⟩ : ∃ x, bat l2 k = x := ⟨_, rfl⟩
      rw [hx] at ck hx0 hx1
      clear hx
      obtain ⟨e0, e1, e2⟩ := H0.out.cells
      rcases (by omega : x % 4 = 0 ∨ x % 4 = 1 ∨ x % 4 = 2 ∨ x % 4 = 3) with hx4 | hx4 | hx4 | hx4
      · -- 14
        have h4 : x % 4 = 0 := hx4
        have hw := wrap_u64_small (tkV_bound (n := 1) H0.out.self.bytes) (by omega)
        clear hx4
        go_wp2_with (first
          | (go_at_call 14; refine (iByte_any H0.out.self).mono ?_; rintro _ w3 ⟨rfl, ht3, hi3⟩
             obtain ⟨hs3, hc3⟩ := H0.out.turn ht3 HB.out HXB.out
             obtain ⟨p0, p1, p2⟩ := cells38 hc3
             have R3 := Lib.hid (And.intro hs3 (And.intro hi3 hc3))
             clear ht3 hi3 hs3 hc3)
          | (go_at_call 15; refine (refTake_any aX NX cX lst bad 1 w3 (H0.out.src.seen R3.out.1) H0.out.self.bytes H0.out.cap H0.out.self.gone (by omega) (by omega)).mono ?_
             rintro _ w4 ⟨a4, N4, c4, rfl, hs4, hn4, hbs4⟩
             have hc4 := (hs4.block X (low38 R3.out.2.2)).trans R3.out.2.2
             have TI4 := Lib.hid (TI.store (R3.out.1.trans hs4) (R3.out.2.1.seen hs4) hc4 HXK.out HX.out (hbs4 w H0.out.src) hn4)
             obtain ⟨q0, q1, q2⟩ := cells38 hc4
             clear hs4 hn4 hbs4 hc4 p0 p1 p2))
        obtain ⟨W5, hW5⟩ : ∃ W5, W5 = (w4.setCell ⟨X, 0, none⟩ (.slice a4 N4 c4)).setCell ⟨X, 1, none⟩ (.bool (tkB 1 lst bad)) := ⟨_, rfl⟩
        rw [← hW5] at TI4 ⊢
        clear hW5
        obtain ⟨b5, hb5⟩ : ∃ b5, tkB 1 lst bad = b5 := ⟨_, rfl⟩
        rw [hb5] at TI4 ⊢
        clear hb5 q0 q1 q2
        have TI5 := TI4
        clear TI4
        have HN5 : Hid ((tkL 1 lst).length = N4) := TI5.out.src.1
        obtain ⟨p0, p1, p2⟩ := TI5.out.cells
        cases b5
        all_goals
          go_quiet (first
            | (go_at_call 19; refine Calls.quiet_of_same (bad_any (TI5.out.self.drewN _)))
            | (go_at_call 20; refine Calls.quiet_of_same (left_at (TI5.out.self.drewN _) HN5.out))
            | (go_at_call 21; refine Calls.quiet_of_same (done_at (TI5.out.self.drewN _) HN5.out)))
          go_wp2_with fail
          exact ⟨⟨k + 1, hlt, by go_num, _, _, _, _, _, TI5.out.drewN _⟩, by simp [intOf]; omega⟩
      · -- 16
        have h4 : x % 4 = 1 := hx4
        have hw := wrap_u64_small (tkV_bound (n := 4) H0.out.self.bytes) (by omega)
        clear hx4
        go_wp2_with (first
          | (go_at_call 16; refine (iFour_any H0.out.self).mono ?_; rintro _ w3 ⟨rfl, ht3, hi3⟩
             obtain ⟨hs3, hc3⟩ := H0.out.turn ht3 HB.out HXB.out
             obtain ⟨p0, p1, p2⟩ := cells38 hc3
             have R3 := Lib.hid (And.intro hs3 (And.intro hi3 hc3))
             clear ht3 hi3 hs3 hc3)
          | (go_at_call 15; refine (refTake_any aX NX cX lst bad 4 w3 (H0.out.src.seen R3.out.1) H0.out.self.bytes H0.out.cap H0.out.self.gone (by omega) (by omega)).mono ?_
             rintro _ w4 ⟨a4, N4, c4, rfl, hs4, hn4, hbs4⟩
             have hc4 := (hs4.block X (low38 R3.out.2.2)).trans R3.out.2.2
             have TI4 := Lib.hid (TI.store (R3.out.1.trans hs4) (R3.out.2.1.seen hs4) hc4 HXK.out HX.out (hbs4 w H0.out.src) hn4)
             obtain ⟨q0, q1, q2⟩ := cells38 hc4
             clear hs4 hn4 hbs4 hc4 p0 p1 p2))
        obtain ⟨W5, hW5⟩ : ∃ W5, W5 = (w4.setCell ⟨X, 0, none⟩ (.slice a4 N4 c4)).setCell ⟨X, 1, none⟩ (.bool (tkB 4 lst bad)) := ⟨_, rfl⟩
        rw [← hW5] at TI4 ⊢
        clear hW5
        obtain ⟨b5, hb5⟩ : ∃ b5, tkB 4 lst bad = b5 := ⟨_, rfl⟩
        rw [hb5] at TI4 ⊢
        clear hb5 q0 q1 q2
        have TI5 := TI4
        clear TI4
        have HN5 : Hid ((tkL 4 lst).length = N4) := TI5.out.src.1
        obtain ⟨p0, p1, p2⟩ := TI5.out.cells
        cases b5
        all_goals
          go_quiet (first
            | (go_at_call 19; refine Calls.quiet_of_same (bad_any (TI5.out.self.drewN _)))
            | (go_at_call 20; refine Calls.quiet_of_same (left_at (TI5.out.self.drewN _) HN5.out))
            | (go_at_call 21; refine Calls.quiet_of_same (done_at (TI5.out.self.drewN _) HN5.out)))
          go_wp2_with fail
          exact ⟨⟨k + 1, hlt, by go_num, _, _, _, _, _, TI5.out.drewN _⟩, by simp [intOf]; omega⟩
      · -- 17
        have h4 : x % 4 = 2 := hx4
        have hw := wrap_u64_wrap64 (tkV_bound (n := 8) H0.out.self.bytes)
        clear hx4
        go_wp2_with (first
          | (go_at_call 17; refine (iEight_any H0.out.self).mono ?_; rintro _ w3 ⟨rfl, ht3, hi3⟩
             obtain ⟨hs3, hc3⟩ := H0.out.turn ht3 HB.out HXB.out
             obtain ⟨p0, p1, p2⟩ := cells38 hc3
             have R3 := Lib.hid (And.intro hs3 (And.intro hi3 hc3))
             clear ht3 hi3 hs3 hc3)
          | (go_at_call 15; refine (refTake_any aX NX cX lst bad 8 w3 (H0.out.src.seen R3.out.1) H0.out.self.bytes H0.out.cap H0.out.self.gone (by omega) (by omega)).mono ?_
             rintro _ w4 ⟨a4, N4, c4, rfl, hs4, hn4, hbs4⟩
             have hc4 := (hs4.block X (low38 R3.out.2.2)).trans R3.out.2.2
             have TI4 := Lib.hid (TI.store (R3.out.1.trans hs4) (R3.out.2.1.seen hs4) hc4 HXK.out HX.out (hbs4 w H0.out.src) hn4)
             obtain ⟨q0, q1, q2⟩ := cells38 hc4
             clear hs4 hn4 hbs4 hc4 p0 p1 p2))
        obtain ⟨W5, hW5⟩ : ∃ W5, W5 = (w4.setCell ⟨X, 0, none⟩ (.slice a4 N4 c4)).setCell ⟨X, 1, none⟩ (.bool (tkB 8 lst bad)) := ⟨_, rfl⟩
        rw [← hW5] at TI4 ⊢
        clear hW5
        obtain ⟨b5, hb5⟩ : ∃ b5, tkB 8 lst bad = b5 := ⟨_, rfl⟩
        rw [hb5] at TI4 ⊢
        clear hb5 q0 q1 q2
        have TI5 := TI4
        clear TI4
        have HN5 : Hid ((tkL 8 lst).length = N4) := TI5.out.src.1
        obtain ⟨p0, p1, p2⟩ := TI5.out.cells
        cases b5
        all_goals
          go_quiet (first
            | (go_at_call 19; refine Calls.quiet_of_same (bad_any (TI5.out.self.drewN _)))
            | (go_at_call 20; refine Calls.quiet_of_same (left_at (TI5.out.self.drewN _) HN5.out))
            | (go_at_call 21; refine Calls.quiet_of_same (done_at (TI5.out.self.drewN _) HN5.out)))
          go_wp2_with fail
          exact ⟨⟨k + 1, hlt, by go_num, _, _, _, _, _, TI5.out.drewN _⟩, by simp [intOf]; omega⟩
      · have h4 : x % 4 = 3 := hx4
        clear hx4
        by_cases h250 : 250 < x
        · go_wp2_with (go_at_call 18; refine (fail_any H0.out.self).mono ?_; rintro _ w3 ⟨rfl, ht3, hi3⟩
                       obtain ⟨hs3, hc3⟩ := H0.out.turn ht3 HB.out HXB.out
                       obtain ⟨p0, p1, p2⟩ := cells38 hc3
                       have TI4 := Lib.hid (TI.store hs3 hi3 hc3 HXK.out HX.out (BS.nil w none) (Nat.le_refl 0))
                       clear ht3 hi3 hs3 hc3)
          obtain ⟨W5, hW5⟩ : ∃ W5, W5 = (w3.setCell ⟨X, 0, none⟩ (.slice none 0 0)).setCell ⟨X, 1, none⟩ (.bool true) := ⟨_, rfl⟩
          rw [← hW5] at TI4 ⊢
          clear hW5 p0 p1 p2
          have TI5 := TI4
          clear TI4
          have HN5 : Hid (([] : List Int).length = 0) := rfl
          obtain ⟨p0, p1, p2⟩ := TI5.out.cells
          go_quiet (first
            | (go_at_call 19; refine Calls.quiet_of_same (bad_any (TI5.out.self.drewN _)))
            | (go_at_call 20; refine Calls.quiet_of_same (left_at (TI5.out.self.drewN _) HN5.out))
            | (go_at_call 21; refine Calls.quiet_of_same (done_at (TI5.out.self.drewN _) HN5.out)))
          go_wp2_with fail
          exact ⟨⟨k + 1, hlt, by go_num, _, _, _, _, _, TI5.out.drewN _⟩, by simp [intOf]; omega⟩
        · have h250' : ¬ 250 < x := h250
          have TI5 := H0
          have HN5 : Hid (lst.length = NX) := TI5.out.src.1
          cases bad
          all_goals
            go_wp2_with fail
            go_quiet (first
              | (go_at_call 19; refine Calls.quiet_of_same (bad_any (TI5.out.self.drewN _)))
              | (go_at_call 20; refine Calls.quiet_of_same (left_at (TI5.out.self.drewN _) HN5.out))
              | (go_at_call 21; refine Calls.quiet_of_same (done_at (TI5.out.self.drewN _) HN5.out)))
            go_wp2_with fail
            exact ⟨⟨k + 1, hlt, by go_num, _, _, _, _, _, TI5.out.drewN _⟩, by simp [intOf]; omega⟩
    · have hkn : ¬ (k : Int) < (n2 : Int) := by omega
      go_wp2_with fail
      go_ret
      exact ⟨rfl, H0.out.seen⟩

/-! ### The row's step. -/
set_option maxRecDepth 100000 in
theorem lifted (os : Os) (started : os.Started) (H : Type) (enc : TypeId × Value → H) :
    ReturnsInHanded {} Try.checked os 4 .any (Rows.scrollTakesSpec.pre6 enc Try.prog Try.f4 Rows.scrollTakesRow.domain false) (Rows.scrollTakesSpec.post enc Try.prog Try.f4 false true false false) := by
  refine returnsInHanded_of_change (C := Try.checked) own started (by kernel_rfl) Try.func4
    (ChangeSpec.witness6 (enc := enc) (C := Try.checked) false ⟨#[], #[.slice none 0 0, .slice none 0 0], []⟩ 8 (by kernel_rfl) (by kernel_rfl) (by kernel_rfl) (by kernel_rfl)) ?_
  intro W base args ds gs before hval0 hW hcnd _
  have hval : ∀ (j : Nat) t v, Try.f4.params[j]? = some t → args[j]? = some v → Value.okWide Try.prog W .any base t v := hval0
  have hW' := hW
  obtain ⟨p, q, hA0, hV, rfl, hfz, hnd⟩ := hW
  have hA : DataW.TrodAll enc Try.prog W 0 (fun _ => true) true Try.f4.params.toList args.toList ds p := hA0
  rw [Try.params4] at hA hval
  obtain ⟨v0, vs0, d0, ds0, p0, q0, hargs, rfl, rfl, h0, r0⟩ := trodAll_cons hA
  obtain ⟨v1, vs1, d1, ds1, p1, q1, rfl, rfl, rfl, h1, r1⟩ := trodAll_cons r0
  obtain ⟨rfl, rfl, rfl⟩ := trodAll_nil r1
  obtain rfl : args = #[v0, v1] := by cases args; simp_all
  obtain ⟨rfl, rfl⟩ := trodVars_none hV
  have k0 := h0
  have lt0 : ∀ x ∈ p0, x.block < W.heap.size := by obtain ⟨m, hm⟩ := k0; exact DataW.trod_lt m _ _ _ hm
  obtain ⟨a0, len0, cap0, g0, rfl, o0⟩ := open_bytes (hval 0 24 v0 rfl rfl) h0
  have k1 := h1
  have lt1 : ∀ x ∈ p1, x.block < W.heap.size := by obtain ⟨m, hm⟩ := k1; exact DataW.trod_lt m _ _ _ hm
  obtain ⟨a1, len1, cap1, g1, rfl, o1⟩ := open_bytes (hval 1 24 v1 rfl rfl) h1
  clear hA0 hval0
  refine (walk a0 len0 cap0 g0 a1 len1 cap1 g1 W o0 o1).mono fun e W' ⟨he, bel⟩ => ?_
  subst he
  exact ⟨_, rfl, _, _, _, [], _, [], hW', trodAll_mk1 (shut_bool Try.underlying4 _), (trodAll_cons_mk (Below.trod laidOut (by kernel_rfl) (of_decide_eq_true (by kernel_rfl)) k0 bel lt0) (trodAll_cons_mk (Below.trod laidOut (by kernel_rfl) (of_decide_eq_true (by kernel_rfl)) k1 bel lt1) trodAll_mk0)), rfl, bel.frame _, fun h => by cases h⟩

theorem over : Rows.scrollTakesRow.holds Try.pinned (OpenSpec.ofChange Rows.scrollTakesSpec) :=
  OpenClaim.holds_of_wide 4 Try.f4 rfl rfl rfl rfl rfl rfl rfl ⟨rfl, rfl, rfl, rfl, rfl⟩ rfl rfl rfl rfl rfl (by kernel_rfl) Try.func4 (by kernel_rfl)
    (of_decide_eq_true (by kernel_rfl)) (by unfold Func.isWrapper; first | (rw [if_pos (by decide +kernel)]; kernel_rfl) | (rw [if_neg (by decide +kernel)]; exact ⟨rfl, rfl⟩))
    (fun os started H enc _ => lifted os started H enc)

/-- The statement. -/
theorem proved : Rows.ScrollTakesSaid := over
#print axioms proved
end Go.Proofs.Ytnmohgdielpdmaa.scrollTakes
