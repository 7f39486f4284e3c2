/- Proved: for every rectangle r, every slice l of rectangles and all int64 x and y the law CoverRests returns true, and its arguments read afterwards as before; no conditions. -/
import Derived.Test.YtckfdlolmenigaaRows
import Derived.WalkKit
import Derived.Test.YtckfdlolmenigaaAwake
import Derived.Test.YtckfdlolmenigaaRefIn
import Derived.Test.YtckfdlolmenigaaRefRest
import Derived.Test.YtckfdlolmenigaaArgCap
import Derived.ProofKit
import Derived.OpenShut
import Derived.ShutString
import Derived.ChangeOld
import Derived.Below
namespace Go.Proofs.Ytckfdlolmenigaa.coverRests
open Go.ChangeShapes Go.WideShapes Go.ChangeAt Go.RowKit
set_option linter.unusedVariables false

theorem own : ownKnob Try.prog.godebug = none := by kernel_rfl
theorem laidOut : laidOutB Try.prog = true := by kernel_rfl


theorem row_cap {w : World} {base e size m : Nat} {a : Option Addr} {c : Nat} {xs : List Value} (h : w.ownsRow base e size (.slice a m c) m xs) : m ≤ c := by
  rcases h.2 with ⟨h1, h2⟩ | ⟨g, cap, cur, h1, _, _, h2, _⟩
  · cases h1; omega
  · cases h1; exact h2
set_option maxHeartbeats 8000000 in
theorem walk (r : R4) (ad : Option Addr) (n c : Nat) (rs : List R4) (x y : Int) (w : World) (_ : okR r) (h : RS w ad n rs ∧ n ≤ c) (_ : okN x) (_ : okN y) :
    Calls Try.prog 3 #[.agg #[.int .i64 r.x0, .int .i64 r.y0, .int .i64 r.x1, .int .i64 r.y1], .slice ad n c, .int .i64 x, .int .i64 y] w fun e w' => e = .returned (.bool true) ∧ Below w.heap.size w w' := by
  rename_i hx1 hx2 hx3
  clear hx1 hx2 hx3
  obtain ⟨h, hc⟩ := h
  have HR := Lib.hid h
  clear h
  by_cases hn : 8 < n
  · have hn' : (8 : Int) < (n : Int) := by omega
    go_enter Try.func3, Try.ntmps3
    go_wp2_with fail
    refine (awake_any _).mono ?_
    rintro e wA ⟨rfl, hA⟩
    have sA : Seen w wA := ((Seen.refl w).alloc _).next hA
    clear hA
    go_wp2_with fail
    refine (awake_any _).mono ?_
    rintro e wB ⟨rfl, hB⟩
    go_wp2_with fail
    go_ret
    exact ⟨rfl, sA.next hB⟩
  · have hn' : ¬ (8 : Int) < (n : Int) := by omega
    obtain ⟨W, hW⟩ : ∃ W, W = w.alloc (.cells #[.int .i64 r.x0, .int .i64 r.y0, .int .i64 r.x1, .int .i64 r.y1] 23) := ⟨_, rfl⟩
    have br := Box.rules (show Box W w.heap.size r by rw [hW]; exact box_new w r)
    have hwW : Seen w W := by rw [hW]; exact (Seen.refl w).alloc _
    obtain ⟨O, hO⟩ : ∃ O, restOf r rs = O := ⟨_, rfl⟩
    obtain ⟨m, hm⟩ : ∃ m, O.length = m := ⟨_, rfl⟩
    have hm4 : m ≤ 324 := by
      have h1 := restOf_length r rs
      have h2 : rs.length = n := HR.out.1
      have h3 : (2 * rs.length + 2) * (2 * rs.length + 2) ≤ 18 * 18 := Nat.mul_le_mul (by omega) (by omega)
      rw [hO, hm] at h1
      omega
    have HAp : Hid (apartB O = true) := by unfold Hid; rw [← hO]; exact apart_rest r rs
    have HO := Lib.hid hO
    have HM := Lib.hid hm
    have HW := Lib.hid hW
    clear hO hm hW
    go_enter Try.func3, Try.ntmps3
    go_wp2_with fail
    rw [← HW.out]
    clear HW
    have sW := Seen.refl W
    refine (awake_any _).mono ?_
    rintro e wA ⟨rfl, hwA⟩
    have swA : Seen W wA := sW.next hwA
    clear hwA
    go_wp2_with fail
    refine (rest_any r ad n c rs _ (HR.out.seen (hwW.trans swA)) (by omega) hc).mono ?_
    rintro e wB ⟨⟨v, rfl, hown⟩, hB⟩
    have sB : Seen W wB := swA.next hB
    rw [HO.out, HM.out] at hown
    obtain ⟨ado, co, rfl, hrs⟩ := rs_of_own hown HM.out
    have hmc : m ≤ co := row_cap hown
    have HS := Lib.hid hrs
    clear hB hown hrs
    go_wp2_with fail
    go_loopw [10, 26] (fun cn i wr => ∃ k : Nat, k ≤ m ∧ i = .int .i64 k ∧ cn = .int .i64 (cntI x y (O.take k)) ∧ Seen wB wr) (fun _ i _ => m - (intOf i).toNat)
    case atStart => exact ⟨0, Nat.zero_le _, rfl, rfl, Seen.refl _⟩
    case round =>
      obtain ⟨k, hk, rfl, hcn, hs⟩ := hrel
      by_cases hlt : k < m
      · obtain ⟨bk, ok, rfl, hc1⟩ := HS.out.2 (by omega)
        have rk := At4.rules (hc1 k hlt)
        clear hc1
        have hcb : (0 : Int) ≤ cntI x y (O.take k) ∧ cntI x y (O.take k) ≤ 324 := by
          unfold cntI
          have h1 := cnt_le x y (O.take k)
          have h2 : (O.take k).length ≤ k := List.length_take_le _ _
          omega
        obtain ⟨hcb0, hcb4⟩ := hcb
        subst hcn
        rcases Bool.eq_false_or_eq_true (holdsB (rat O k) x y) with hh | hh
        · have HH := Lib.hid hh
          have HC : Hid (cntI x y (O.take (k + 1)) = cntI x y (O.take k) + 1) := by
            unfold Hid cntI
            rw [cnt_step (by rw [HM.out]; exact hlt), hh]; simp
          clear hh
          go_wp2_with fail
          refine (isB (refHolds_any (rat O k) x y _) HH.out).mono ?_
          rintro e wD ⟨rfl, hD⟩
          have sD : Seen wB wD := hs.next hD
          clear hD
          go_wp2_with fail
          go_roundw
          case rel => exact ⟨k + 1, by omega, by go_num, by rw [HC.out], sD⟩
          case measure => simp [intOf]; omega
        · have HH := Lib.hid hh
          have HC : Hid (cntI x y (O.take (k + 1)) = cntI x y (O.take k)) := by
            unfold Hid cntI
            rw [cnt_step (by rw [HM.out]; exact hlt), hh]; simp
          clear hh
          go_wp2_with fail
          refine (isB (refHolds_any (rat O k) x y _) HH.out).mono ?_
          rintro e wD ⟨rfl, hD⟩
          have sD : Seen wB wD := hs.next hD
          clear hD
          go_wp2_with fail
          go_roundw
          case rel => exact ⟨k + 1, by omega, by go_num, by rw [HC.out], sD⟩
          case measure => simp [intOf]; omega
      · have hke : k = m := by omega
        have HC : Hid (u10 = .int .i64 (cntI x y O)) := by
          rw [hke, List.take_of_length_le (Nat.le_of_eq HM.out)] at hcn; exact hcn
        have ths : Seen W wr := sB.trans hs
        clear hcn hke
        rcases Bool.eq_false_or_eq_true (holdsB r x y) with h1 | h1
        · have H1 := Lib.hid h1
          clear h1
          rcases Bool.eq_false_or_eq_true (inB rs x y) with h2 | h2
          · have H2 := Lib.hid h2
            clear h2
            have hcn : u10 = .int .i64 0 := by
              rw [HC.out, ← HO.out]
              show Value.int .i64 (((cnt (restOf r rs) x y : Nat)) : Int) = _
              rw [cnt_restOf, H1.out, H2.out]; rfl
            subst hcn
            clear HC
            go_wp2_with fail
            refine (isB (refHolds_any r x y _) H1.out).mono ?_
            rintro e wD ⟨rfl, hwD⟩
            have swD : Seen wB wD := hs.next hwD
            have twD : Seen W wD := sB.trans swD
            clear hwD
            go_wp2_with fail
            refine (isB (refIn_any ad n c rs x y _ (HR.out.seen (hwW.trans twD)) (by omega)) H2.out).mono ?_
            rintro e wC ⟨rfl, hwC⟩
            have swC : Seen wB wC := swD.next hwC
            have twC : Seen W wC := sB.trans swC
            clear hwC
            go_wp2_with fail
            refine (refRest_any r n ad c rs _ (HR.out.seen (hwW.trans twC)) (by omega) hc).mono ?_
            rintro e wE ⟨⟨v2, rfl, hown2⟩, hE⟩
            have swE : Seen wB wE := swC.next hE
            have twE : Seen W wE := sB.trans swE
            rw [HO.out, HM.out] at hown2
            obtain ⟨ad2, cc2, rfl, hrs2⟩ := rs_of_own hown2 HM.out
            have HS2 := Lib.hid hrs2
            clear hE hown2 hrs2
            go_wp2_with fail
            refine (refSame_any _ _ _ _ _ O _ (HS.out.seen swE) HS2.out (by omega)).mono ?_
            rintro e wF ⟨rfl, hF⟩
            have swF : Seen wB wF := swE.next hF
            clear hF
            go_wp2_with fail
            refine (isB (apart_any _ _ _ O _ (HS.out.seen swF) (by omega) hmc) HAp.out).mono ?_
            rintro e wG ⟨rfl, hG⟩
            have swG : Seen wB wG := swF.next hG
            clear hG
            go_wp2_with fail
            go_ret
            exact ⟨rfl, Seen.trans hwW (Seen.trans sB swG)⟩
          · have H2 := Lib.hid h2
            clear h2
            have hcn : u10 = .int .i64 1 := by
              rw [HC.out, ← HO.out]
              show Value.int .i64 (((cnt (restOf r rs) x y : Nat)) : Int) = _
              rw [cnt_restOf, H1.out, H2.out]; rfl
            subst hcn
            clear HC
            go_wp2_with fail
            refine (isB (refHolds_any r x y _) H1.out).mono ?_
            rintro e wD ⟨rfl, hwD⟩
            have swD : Seen wB wD := hs.next hwD
            have twD : Seen W wD := sB.trans swD
            clear hwD
            go_wp2_with fail
            refine (isB (refIn_any ad n c rs x y _ (HR.out.seen (hwW.trans twD)) (by omega)) H2.out).mono ?_
            rintro e wC ⟨rfl, hwC⟩
            have swC : Seen wB wC := swD.next hwC
            have twC : Seen W wC := sB.trans swC
            clear hwC
            go_wp2_with fail
            refine (refRest_any r n ad c rs _ (HR.out.seen (hwW.trans twC)) (by omega) hc).mono ?_
            rintro e wE ⟨⟨v2, rfl, hown2⟩, hE⟩
            have swE : Seen wB wE := swC.next hE
            have twE : Seen W wE := sB.trans swE
            rw [HO.out, HM.out] at hown2
            obtain ⟨ad2, cc2, rfl, hrs2⟩ := rs_of_own hown2 HM.out
            have HS2 := Lib.hid hrs2
            clear hE hown2 hrs2
            go_wp2_with fail
            refine (refSame_any _ _ _ _ _ O _ (HS.out.seen swE) HS2.out (by omega)).mono ?_
            rintro e wF ⟨rfl, hF⟩
            have swF : Seen wB wF := swE.next hF
            clear hF
            go_wp2_with fail
            refine (isB (apart_any _ _ _ O _ (HS.out.seen swF) (by omega) hmc) HAp.out).mono ?_
            rintro e wG ⟨rfl, hG⟩
            have swG : Seen wB wG := swF.next hG
            clear hG
            go_wp2_with fail
            go_ret
            exact ⟨rfl, Seen.trans hwW (Seen.trans sB swG)⟩
        · have H1 := Lib.hid h1
          clear h1
          have hcn : u10 = .int .i64 0 := by
            rw [HC.out, ← HO.out]
            show Value.int .i64 (((cnt (restOf r rs) x y : Nat)) : Int) = _
            rw [cnt_restOf, H1.out]; rfl
          subst hcn
          clear HC
          go_wp2_with fail
          refine (isB (refHolds_any r x y _) H1.out).mono ?_
          rintro e wC ⟨rfl, hwC⟩
          have swC : Seen wB wC := hs.next hwC
          have twC : Seen W wC := sB.trans swC
          clear hwC
          go_wp2_with fail
          refine (refRest_any r n ad c rs _ (HR.out.seen (hwW.trans twC)) (by omega) hc).mono ?_
          rintro e wE ⟨⟨v2, rfl, hown2⟩, hE⟩
          have swE : Seen wB wE := swC.next hE
          have twE : Seen W wE := sB.trans swE
          rw [HO.out, HM.out] at hown2
          obtain ⟨ad2, cc2, rfl, hrs2⟩ := rs_of_own hown2 HM.out
          have HS2 := Lib.hid hrs2
          clear hE hown2 hrs2
          go_wp2_with fail
          refine (refSame_any _ _ _ _ _ O _ (HS.out.seen swE) HS2.out (by omega)).mono ?_
          rintro e wF ⟨rfl, hF⟩
          have swF : Seen wB wF := swE.next hF
          clear hF
          go_wp2_with fail
          refine (isB (apart_any _ _ _ O _ (HS.out.seen swF) (by omega) hmc) HAp.out).mono ?_
          rintro e wG ⟨rfl, hG⟩
          have swG : Seen wB wG := swF.next hG
          clear hG
          go_wp2_with fail
          go_ret
          exact ⟨rfl, Seen.trans hwW (Seen.trans sB swG)⟩

/-! ### The row's step. -/
set_option maxRecDepth 100000 in
theorem lifted (os : Os) (started : os.Started) (H : Type) (enc : TypeId × Value → H) :
    ReturnsInHanded {} Try.checked os 3 .any (Rows.coverRestsSpec.pre6 enc Try.prog Try.f3 Rows.coverRestsRow.domain false) (Rows.coverRestsSpec.post enc Try.prog Try.f3 false true false false) := by
  refine returnsInHanded_of_change (C := Try.checked) own started (by kernel_rfl) Try.func3
    (ChangeSpec.witness6 (enc := enc) (C := Try.checked) false ⟨#[], #[.agg #[.int .i64 0, .int .i64 0, .int .i64 0, .int .i64 0], .slice none 0 0, .int .i64 0, .int .i64 0], []⟩ 8 (by kernel_rfl) (by kernel_rfl) (by kernel_rfl) (by kernel_rfl)) ?_
  intro W base args ds gs before hval0 hW hcnd _
  have hval : ∀ (j : Nat) t v, Try.f3.params[j]? = some t → args[j]? = some v → Value.okWide Try.prog W .any base t v := hval0
  have hW' := hW
  obtain ⟨p, q, hA0, hV, rfl, hfz, hnd⟩ := hW
  have hA : DataW.TrodAll enc Try.prog W 0 (fun _ => true) true Try.f3.params.toList args.toList ds p := hA0
  rw [Try.params3] at hA hval
  obtain ⟨v0, vs0, d0, ds0, p0, q0, hargs, rfl, rfl, h0, r0⟩ := trodAll_cons hA
  obtain ⟨v1, vs1, d1, ds1, p1, q1, rfl, rfl, rfl, h1, r1⟩ := trodAll_cons r0
  obtain ⟨v2, vs2, d2, ds2, p2, q2, rfl, rfl, rfl, h2, r2⟩ := trodAll_cons r1
  obtain ⟨v3, vs3, d3, ds3, p3, q3, rfl, rfl, rfl, h3, r3⟩ := trodAll_cons r2
  obtain ⟨rfl, rfl, rfl⟩ := trodAll_nil r3
  obtain rfl : args = #[v0, v1, v2, v3] := by cases args; simp_all
  obtain ⟨rfl, rfl⟩ := trodVars_none hV
  have k0 := h0
  have lt0 : ∀ x ∈ p0, x.block < W.heap.size := by obtain ⟨m, hm⟩ := k0; exact DataW.trod_lt m _ _ _ hm
  obtain ⟨g0, rfl, o0⟩ := open_rect (hval 0 23 v0 rfl rfl) h0
  have k1 := h1
  have lt1 : ∀ x ∈ p1, x.block < W.heap.size := by obtain ⟨m, hm⟩ := k1; exact DataW.trod_lt m _ _ _ hm
  obtain ⟨a1, len1, cap1, g1, rfl, o1⟩ := open_rowc (hval 1 24 v1 rfl rfl) h1
  have k2 := h2
  have lt2 : ∀ x ∈ p2, x.block < W.heap.size := by obtain ⟨m, hm⟩ := k2; exact DataW.trod_lt m _ _ _ hm
  obtain ⟨g2, rfl, o2⟩ := open_num (hval 2 2 v2 rfl rfl) h2
  have k3 := h3
  have lt3 : ∀ x ∈ p3, x.block < W.heap.size := by obtain ⟨m, hm⟩ := k3; exact DataW.trod_lt m _ _ _ hm
  obtain ⟨g3, rfl, o3⟩ := open_num (hval 3 2 v3 rfl rfl) h3
  clear hA0 hval0
  refine (walk g0 a1 len1 cap1 g1 g2 g3 W o0 o1 o2 o3).mono fun e W' ⟨he, bel⟩ => ?_
  subst he
  exact ⟨_, rfl, _, _, _, [], _, [], hW', trodAll_mk1 (shut_bool Try.underlying4 _), (trodAll_cons_mk (Below.trod laidOut (by kernel_rfl) (of_decide_eq_true (by kernel_rfl)) k0 bel lt0) (trodAll_cons_mk (Below.trod laidOut (by kernel_rfl) (of_decide_eq_true (by kernel_rfl)) k1 bel lt1) (trodAll_cons_mk (Below.trod laidOut (by kernel_rfl) (of_decide_eq_true (by kernel_rfl)) k2 bel lt2) (trodAll_cons_mk (Below.trod laidOut (by kernel_rfl) (of_decide_eq_true (by kernel_rfl)) k3 bel lt3) trodAll_mk0)))), rfl, bel.frame _, fun h => by cases h⟩

theorem over : Rows.coverRestsRow.holds Try.pinned (OpenSpec.ofChange Rows.coverRestsSpec) :=
  OpenClaim.holds_of_wide 3 Try.f3 rfl rfl rfl rfl rfl rfl rfl ⟨rfl, rfl, rfl, rfl, rfl⟩ rfl rfl rfl rfl rfl (by kernel_rfl) Try.func3 (by kernel_rfl)
    (of_decide_eq_true (by kernel_rfl)) (by unfold Func.isWrapper; first | (rw [if_pos (by decide +kernel)]; kernel_rfl) | (rw [if_neg (by decide +kernel)]; exact ⟨rfl, rfl⟩))
    (fun os started H enc _ => lifted os started H enc)

/-- The statement. -/
theorem proved : Rows.CoverRestsSaid := over
#print axioms proved
end Go.Proofs.Ytckfdlolmenigaa.coverRests
