/- Proved: for all rectangles a and b and all int64 x and y the law RectCuts returns true, and its arguments read afterwards as before; no conditions. -/
import Derived.Test.YtnoolbonejamcaaRows
import Derived.WalkKit
import Derived.Test.YtnoolbonejamcaaAwake
import Derived.Test.YtnoolbonejamcaaRefCut
import Derived.Test.YtnoolbonejamcaaCutMath
import Derived.Test.YtnoolbonejamcaaArgs
import Derived.ProofKit
import Derived.OpenShut
import Derived.ShutString
import Derived.ChangeOld
import Derived.Below
namespace Go.Proofs.Ytnoolbonejamcaa.rectCuts
open Go.ChangeShapes Go.WideShapes Go.ChangeAt Go.RowKit
set_option linter.unusedVariables false

theorem own : ownKnob Try.prog.godebug = none := by kernel_rfl
theorem laidOut : laidOutB Try.prog = true := by kernel_rfl


set_option maxHeartbeats 8000000 in
theorem walk (a b : R4) (x y : Int) (w : World) (oa : okR a) (ob : okR b) (ox : okN x) (oy : okN y) :
    Calls Try.prog 7 #[.agg #[.int .i64 a.x0, .int .i64 a.y0, .int .i64 a.x1, .int .i64 a.y1], .agg #[.int .i64 b.x0, .int .i64 b.y0, .int .i64 b.x1, .int .i64 b.y1], .int .i64 x, .int .i64 y] w fun e w' => e = .returned (.bool true) ∧ Below w.heap.size w w' := by
  clear oa ob ox oy
  obtain ⟨W, hW⟩ : ∃ W, W = (w.alloc (.cells #[.int .i64 a.x0, .int .i64 a.y0, .int .i64 a.x1, .int .i64 a.y1] 23)).alloc (.cells #[.int .i64 b.x0, .int .i64 b.y0, .int .i64 b.x1, .int .i64 b.y1] 23) := ⟨_, rfl⟩
  have ba := Box.rules (show Box W w.heap.size a by rw [hW]; exact (box_new w a).alloc _)
  have bb := Box.rules (show Box W (w.heap.size + 1) b by subst hW; unfold Box; simp)
  have hWb : Below w.heap.size w W := by subst hW; go_grown
  obtain ⟨n, hn⟩ : ∃ n, (cutL a b).length = n := ⟨_, rfl⟩
  obtain ⟨rs, hrs⟩ : ∃ rs, cutL a b = rs := ⟨_, rfl⟩
  have HN := Lib.hid hn
  have HR := Lib.hid hrs
  have hn4 : n ≤ 4 := hn ▸ cut_short a b
  have HL : Hid (rs.length = n) := by unfold Hid; rw [← hrs]; exact hn
  clear hn hrs
  go_enter Try.func7, Try.ntmps7
  go_wp2_with fail
  rw [← hW]
  clear hW
  have sW := Seen.refl W
  refine (awake_any _).mono ?_
  rintro e wA ⟨rfl, hwA⟩
  have swA : Seen W wA := sW.next hwA
  clear hwA
  go_wp2_with fail
  refine (cut_any a b _).mono ?_
  rintro e wB ⟨⟨v, rfl, hown⟩, hB⟩
  have sB : Seen W wB := swA.next hB
  rw [HN.out, HR.out] at hown
  obtain ⟨ad, c, rfl, hrs⟩ := rs_of_own hown HL.out
  have HS := Lib.hid hrs
  clear hB hown hrs
  go_wp2_with fail
  go_loopw [10, 20] (fun cn i wr => ∃ k : Nat, k ≤ n ∧ i = .int .i64 k ∧ cn = .int .i64 (cntI x y (rs.take k)) ∧ Seen wB wr) (fun _ i _ => n - (intOf i).toNat)
  case atStart => exact ⟨0, Nat.zero_le _, rfl, rfl, Seen.refl _⟩
  case round =>
    obtain ⟨k, hk, rfl, hcn, hs⟩ := hrel
    by_cases hlt : k < n
    · obtain ⟨bk, ok, rfl, hc1⟩ := HS.out.2 (by omega)
      have rk := At4.rules (hc1 k hlt)
      clear hc1
      have HE : Hid (emptyB (rat rs k) = false) := by
        have hkl : k < rs.length := by rw [HL.out]; exact hlt
        unfold Hid
        rw [rat_eq hkl]
        exact cut_no a b _ (by rw [HR.out]; exact List.getElem_mem hkl)
      have hcb : (0 : Int) ≤ cntI x y (rs.take k) ∧ cntI x y (rs.take k) ≤ 4 := by
        unfold cntI
        have h1 := cnt_le x y (rs.take k)
        have h2 : (rs.take k).length ≤ k := List.length_take_le _ _
        omega
      obtain ⟨hcb0, hcb4⟩ := hcb
      subst hcn
      rcases Bool.eq_false_or_eq_true (holdsB (rat rs k) x y) with hh | hh
      · have HH := Lib.hid hh
        have HC : Hid (cntI x y (rs.take (k + 1)) = cntI x y (rs.take k) + 1) := by
          unfold Hid cntI
          rw [cnt_step (by rw [HL.out]; exact hlt), hh]; simp
        clear hh
        go_wp2_with fail
        refine (isB (empty_any (rat rs k) _) HE.out).mono ?_
        rintro e wC ⟨rfl, hC⟩
        have sC : Seen wB wC := hs.next hC
        clear hC
        go_wp2_with fail
        refine (isB (holds_any (rat rs k) x y _) HH.out).mono ?_
        rintro e wD ⟨rfl, hD⟩
        have sD : Seen wB wD := sC.next hD
        clear hD
        go_wp2_with fail
        go_roundw
        case rel => exact ⟨k + 1, by omega, by go_num, by rw [HC.out], sD⟩
        case measure => simp [intOf]; omega
      · have HH := Lib.hid hh
        have HC : Hid (cntI x y (rs.take (k + 1)) = cntI x y (rs.take k)) := by
          unfold Hid cntI
          rw [cnt_step (by rw [HL.out]; exact hlt), hh]; simp
        clear hh
        go_wp2_with fail
        refine (isB (empty_any (rat rs k) _) HE.out).mono ?_
        rintro e wC ⟨rfl, hC⟩
        have sC : Seen wB wC := hs.next hC
        clear hC
        go_wp2_with fail
        refine (isB (holds_any (rat rs k) x y _) HH.out).mono ?_
        rintro e wD ⟨rfl, hD⟩
        have sD : Seen wB wD := sC.next hD
        clear hD
        go_wp2_with fail
        go_roundw
        case rel => exact ⟨k + 1, by omega, by go_num, by rw [HC.out], sD⟩
        case measure => simp [intOf]; omega
    · have hke : k = n := by omega
      have HC : Hid (u10 = .int .i64 (cntI x y rs)) := by
        rw [hke, List.take_of_length_le (Nat.le_of_eq HL.out)] at hcn; exact hcn
      have ths : Seen W wr := sB.trans hs
      clear hcn hke
      rcases Bool.eq_false_or_eq_true (holdsB a x y) with h1 | h1
      · have H1 := Lib.hid h1
        clear h1
        rcases Bool.eq_false_or_eq_true (holdsB b x y) with h2 | h2
        · have H2 := Lib.hid h2
          clear h2
          have hcn : u10 = .int .i64 0 := by
            rw [HC.out, ← HR.out]
            show Value.int .i64 (cntI x y (cutL a b)) = _
            unfold cntI
            rw [cnt_cut, H1.out, H2.out]; rfl
          subst hcn
          clear HC
          go_wp2_with fail
          refine (isB (refHolds_any a x y _) H1.out).mono ?_
          rintro e wC ⟨rfl, hwC⟩
          have swC : Seen wB wC := hs.next hwC
          have twC : Seen W wC := sB.trans swC
          clear hwC
          go_wp2_with fail
          refine (isB (refHolds_any b x y _) H2.out).mono ?_
          rintro e wD ⟨rfl, hwD⟩
          have swD : Seen wB wD := swC.next hwD
          have twD : Seen W wD := sB.trans swD
          clear hwD
          go_wp2_with fail
          refine (refCut_any a b _).mono ?_
          rintro e wE ⟨⟨v2, rfl, hown2⟩, hE⟩
          have swE : Seen wB wE := swD.next hE
          rw [HN.out, HR.out] at hown2
          obtain ⟨ad2, cc2, rfl, hrs2⟩ := rs_of_own hown2 HL.out
          have HS2 := Lib.hid hrs2
          clear hE hown2 hrs2
          go_wp2_with fail
          refine (refSame_any _ _ _ _ _ rs _ (HS.out.seen swE) HS2.out (by omega)).mono ?_
          rintro e wF ⟨rfl, hF⟩
          go_wp2_with fail
          go_ret
          exact ⟨rfl, Seen.trans (Seen.trans (Seen.trans hWb sB) swE) hF⟩
        · have H2 := Lib.hid h2
          clear h2
          have hcn : u10 = .int .i64 1 := by
            rw [HC.out, ← HR.out]
            show Value.int .i64 (cntI x y (cutL a b)) = _
            unfold cntI
            rw [cnt_cut, H1.out, H2.out]; rfl
          subst hcn
          clear HC
          go_wp2_with fail
          refine (isB (refHolds_any a x y _) H1.out).mono ?_
          rintro e wC ⟨rfl, hwC⟩
          have swC : Seen wB wC := hs.next hwC
          have twC : Seen W wC := sB.trans swC
          clear hwC
          go_wp2_with fail
          refine (isB (refHolds_any b x y _) H2.out).mono ?_
          rintro e wD ⟨rfl, hwD⟩
          have swD : Seen wB wD := swC.next hwD
          have twD : Seen W wD := sB.trans swD
          clear hwD
          go_wp2_with fail
          refine (refCut_any a b _).mono ?_
          rintro e wE ⟨⟨v2, rfl, hown2⟩, hE⟩
          have swE : Seen wB wE := swD.next hE
          rw [HN.out, HR.out] at hown2
          obtain ⟨ad2, cc2, rfl, hrs2⟩ := rs_of_own hown2 HL.out
          have HS2 := Lib.hid hrs2
          clear hE hown2 hrs2
          go_wp2_with fail
          refine (refSame_any _ _ _ _ _ rs _ (HS.out.seen swE) HS2.out (by omega)).mono ?_
          rintro e wF ⟨rfl, hF⟩
          go_wp2_with fail
          go_ret
          exact ⟨rfl, Seen.trans (Seen.trans (Seen.trans hWb sB) swE) hF⟩
      · have H1 := Lib.hid h1
        clear h1
        have hcn : u10 = .int .i64 0 := by
          rw [HC.out, ← HR.out]
          show Value.int .i64 (cntI x y (cutL a b)) = _
          unfold cntI
          rw [cnt_cut, H1.out]; rfl
        subst hcn
        clear HC
        go_wp2_with fail
        refine (isB (refHolds_any a x y _) H1.out).mono ?_
        rintro e wC ⟨rfl, hwC⟩
        have swC : Seen wB wC := hs.next hwC
        have twC : Seen W wC := sB.trans swC
        clear hwC
        go_wp2_with fail
        refine (refCut_any a b _).mono ?_
        rintro e wE ⟨⟨v2, rfl, hown2⟩, hE⟩
        have swE : Seen wB wE := swC.next hE
        rw [HN.out, HR.out] at hown2
        obtain ⟨ad2, cc2, rfl, hrs2⟩ := rs_of_own hown2 HL.out
        have HS2 := Lib.hid hrs2
        clear hE hown2 hrs2
        go_wp2_with fail
        refine (refSame_any _ _ _ _ _ rs _ (HS.out.seen swE) HS2.out (by omega)).mono ?_
        rintro e wF ⟨rfl, hF⟩
        go_wp2_with fail
        go_ret
        exact ⟨rfl, Seen.trans (Seen.trans (Seen.trans hWb sB) swE) hF⟩

/-! ### The row's step. -/
set_option maxRecDepth 100000 in
theorem lifted (os : Os) (started : os.Started) (H : Type) (enc : TypeId × Value → H) :
    ReturnsInHanded {} Try.checked os 7 .any (Rows.rectCutsSpec.pre6 enc Try.prog Try.f7 Rows.rectCutsRow.domain false) (Rows.rectCutsSpec.post enc Try.prog Try.f7 false true false false) := by
  refine returnsInHanded_of_change (C := Try.checked) own started (by kernel_rfl) Try.func7
    (ChangeSpec.witness6 (enc := enc) (C := Try.checked) false ⟨#[], #[.agg #[.int .i64 0, .int .i64 0, .int .i64 0, .int .i64 0], .agg #[.int .i64 0, .int .i64 0, .int .i64 0, .int .i64 0], .int .i64 0, .int .i64 0], []⟩ 8 (by kernel_rfl) (by kernel_rfl) (by kernel_rfl) (by kernel_rfl)) ?_
  intro W base args ds gs before hval0 hW hcnd _
  have hval : ∀ (j : Nat) t v, Try.f7.params[j]? = some t → args[j]? = some v → Value.okWide Try.prog W .any base t v := hval0
  have hW' := hW
  obtain ⟨p, q, hA0, hV, rfl, hfz, hnd⟩ := hW
  have hA : DataW.TrodAll enc Try.prog W 0 (fun _ => true) true Try.f7.params.toList args.toList ds p := hA0
  rw [Try.params7] at hA hval
  obtain ⟨v0, vs0, d0, ds0, p0, q0, hargs, rfl, rfl, h0, r0⟩ := trodAll_cons hA
  obtain ⟨v1, vs1, d1, ds1, p1, q1, rfl, rfl, rfl, h1, r1⟩ := trodAll_cons r0
  obtain ⟨v2, vs2, d2, ds2, p2, q2, rfl, rfl, rfl, h2, r2⟩ := trodAll_cons r1
  obtain ⟨v3, vs3, d3, ds3, p3, q3, rfl, rfl, rfl, h3, r3⟩ := trodAll_cons r2
  obtain ⟨rfl, rfl, rfl⟩ := trodAll_nil r3
  obtain rfl : args = #[v0, v1, v2, v3] := by cases args; simp_all
  obtain ⟨rfl, rfl⟩ := trodVars_none hV
  have k0 := h0
  have lt0 : ∀ x ∈ p0, x.block < W.heap.size := by obtain ⟨m, hm⟩ := k0; exact DataW.trod_lt m _ _ _ hm
  obtain ⟨g0, rfl, o0⟩ := open_rect (hval 0 23 v0 rfl rfl) h0
  have k1 := h1
  have lt1 : ∀ x ∈ p1, x.block < W.heap.size := by obtain ⟨m, hm⟩ := k1; exact DataW.trod_lt m _ _ _ hm
  obtain ⟨g1, rfl, o1⟩ := open_rect (hval 1 23 v1 rfl rfl) h1
  have k2 := h2
  have lt2 : ∀ x ∈ p2, x.block < W.heap.size := by obtain ⟨m, hm⟩ := k2; exact DataW.trod_lt m _ _ _ hm
  obtain ⟨g2, rfl, o2⟩ := open_num (hval 2 2 v2 rfl rfl) h2
  have k3 := h3
  have lt3 : ∀ x ∈ p3, x.block < W.heap.size := by obtain ⟨m, hm⟩ := k3; exact DataW.trod_lt m _ _ _ hm
  obtain ⟨g3, rfl, o3⟩ := open_num (hval 3 2 v3 rfl rfl) h3
  clear hA0 hval0
  refine (walk g0 g1 g2 g3 W o0 o1 o2 o3).mono fun e W' ⟨he, bel⟩ => ?_
  subst he
  exact ⟨_, rfl, _, _, _, [], _, [], hW', trodAll_mk1 (shut_bool Try.underlying4 _), (trodAll_cons_mk (Below.trod laidOut (by kernel_rfl) (of_decide_eq_true (by kernel_rfl)) k0 bel lt0) (trodAll_cons_mk (Below.trod laidOut (by kernel_rfl) (of_decide_eq_true (by kernel_rfl)) k1 bel lt1) (trodAll_cons_mk (Below.trod laidOut (by kernel_rfl) (of_decide_eq_true (by kernel_rfl)) k2 bel lt2) (trodAll_cons_mk (Below.trod laidOut (by kernel_rfl) (of_decide_eq_true (by kernel_rfl)) k3 bel lt3) trodAll_mk0)))), rfl, bel.frame _, fun h => by cases h⟩

theorem over : Rows.rectCutsRow.holds Try.pinned (OpenSpec.ofChange Rows.rectCutsSpec) :=
  OpenClaim.holds_of_wide 7 Try.f7 rfl rfl rfl rfl rfl rfl rfl ⟨rfl, rfl, rfl, rfl, rfl⟩ rfl rfl rfl rfl rfl (by kernel_rfl) Try.func7 (by kernel_rfl)
    (of_decide_eq_true (by kernel_rfl)) (by unfold Func.isWrapper; first | (rw [if_pos (by decide +kernel)]; kernel_rfl) | (rw [if_neg (by decide +kernel)]; exact ⟨rfl, rfl⟩))
    (fun os started H enc _ => lifted os started H enc)

/-- The statement. -/
theorem proved : Rows.RectCutsSaid := over
#print axioms proved
end Go.Proofs.Ytnoolbonejamcaa.rectCuts
