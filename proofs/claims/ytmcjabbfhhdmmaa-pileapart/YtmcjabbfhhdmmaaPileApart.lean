/- Proved: for every slice of uint16 and every Boolean the law PileApart returns true, and its arguments read afterwards as before; no conditions. -/
import Derived.Test.YtmcjabbfhhdmmaaRows
import Derived.WalkKit
import Derived.Test.YtmcjabbfhhdmmaaPAwake
import Derived.Test.YtmcjabbfhhdmmaaPArgs
import Derived.Test.YtmcjabbfhhdmmaaPush
import Derived.Test.YtmcjabbfhhdmmaaPHi
import Derived.ProofKit
import Derived.OpenShut
import Derived.ShutString
import Derived.ChangeOld
import Derived.Below
namespace Go.Proofs.Ytmcjabbfhhdmmaa.pileApart
open Go.ChangeShapes Go.WideShapes Go.ChangeAt Go.RowKit
set_option linter.unusedVariables false

theorem own : ownKnob Try.prog.godebug = none := by kernel_rfl
theorem laidOut : laidOutB Try.prog = true := by kernel_rfl

theorem info32z : (Try.prog.info? 32).map (fun i => (i.zero, i.size, i.bytes)) = some (some (chv zeroC), 8, 64) := by kernel_rfl
theorem chl_one (q : Ch) : ∀ u ∈ chl q, u.oneCell' = true := by
  intro u hu
  simp [chl] at hu
  rcases hu with rfl | rfl | rfl | rfl | rfl | rfl | rfl | rfl <;> rfl
set_option maxHeartbeats 4000000 in
theorem walk (q : Us) (o : Bool) (w : World) (oq : okU w q) (_ : True) :
    Calls Try.prog 5 #[.slice q.a q.n q.c, .bool o] w fun e w' => e = .returned (.bool true) ∧ Below w.heap.size w w' := by
  by_cases hn : 50 < q.n
  · have hn' : (50 : Int) < (q.n : Int) := by omega
    clear oq
    have acc := Seen.refl w
    go_enter Try.func5, Try.ntmps5
    go_wp2_with (go_at_call 6; refine (awake_any _).mono ?_; rintro e w1 ⟨rfl, hb⟩; replace acc := acc.next hb; clear hb)
    go_ret
    exact ⟨rfl, acc⟩
  have hn' : ¬ (50 : Int) < (q.n : Int) := by omega
  obtain ⟨a, n, c, l⟩ := q
  simp only at hn hn' ⊢
  have HU := Lib.hid oq.1
  have HZ := Lib.hid oq.2
  have HL : Hid (l.length = n) := oq.1.1
  clear oq
  go_enter Try.func5, Try.ntmps5
  go_upto_region 4 with (go_at_call 6; refine (awake_any _).mono ?_; rintro e w1 ⟨rfl, hb⟩; have S1 := Lib.hid hb; clear hb)
  go_wp2_with fail
  go_loopw [5, 21] (fun s i wr => ∃ k : Nat, k ≤ n ∧ i = .int .i64 k ∧ GR chl 32 8 wr w1.heap.size s ((l.take k).map hiC) ∧ Seen w1 wr) (fun _ i _ => n - (intOf i).toNat)
  case atStart => exact ⟨0, Nat.zero_le _, rfl, GR.nil _ _, Seen.refl _⟩
  case round =>
    obtain ⟨k, hk, rfl, hr, hs⟩ := hrel
    have HR := Lib.hid hr
    have HS := Lib.hid hs
    clear hr hs
    by_cases hkn : k < n
    · obtain ⟨b, off, rfl, hc⟩ := ((HU.out.seen S1.out).seen HS.out).2 (show 0 < n by omega)
      have cz := hc k hkn
      have hzb := HZ.out (l.getD k 0) (by rw [List.getD_eq_getElem?_getD, List.getElem?_eq_getElem (by rw [HL.out]; exact hkn)]; exact List.getElem_mem _)
      have hkl : k < l.length := by rw [HL.out]; exact hkn
      have et : Hid ((l.take (k + 1)).map hiC = (l.take k).map hiC ++ [hiC (l.getD k 0)]) := by
        unfold Hid
        rw [List.take_succ_eq_append_getElem hkl, List.map_append]
        simp [List.getD_eq_getElem?_getD, hkl]
      generalize l.getD k 0 = z at cz hzb et
      have hll : Hid (((l.take k).map hiC).length ≤ 1000000) := by unfold Hid; rw [List.length_map, List.length_take]; omega
      clear hc hkl
      go_wp2_with (at_builtin; refine wpList_pushG Try.underlying22 info32z rfl (by decide) chl_length chl_one (by decide) rfl (.tmp 24) (.tmp 31) rfl w1.heap.size u5 ((l.take k).map hiC) (hiC z) rfl rfl HR.out hll.out HS.out.size ?_; intro g cap w2 hg hgr; generalize Value.slice (some ⟨g, 0, none⟩) (((l.take k).map hiC).length + 1) cap = vv at hg ⊢; have HG := Lib.hid hg; have HB := Lib.hid ((HS.out.alloc _).grown hgr (by have := HS.out.size; simp; omega) (fun g hg => (HR.out.lt g hg).1)); clear hg hgr)
      go_roundw
      case rel =>
        refine ⟨k + 1, by omega, by go_num, ?_, HB.out⟩
        rw [et.out]
        exact HG.out
      case measure => simp [intOf]; omega
    · obtain rfl : k = n := by omega
      have et : (l.take k).map hiC = l.map hiC := by rw [List.take_of_length_le (by have := HL.out; omega)]
      rw [et] at HR
      clear et hkn hk
      obtain ⟨ka, kc, hv, hsl, -⟩ := HR.out.slice chl_length zeroC
      have hlen : (l.map hiC).length = k := by rw [List.length_map]; exact HL.out
      rw [hlen] at hv hsl
      subst hv
      have hcs : CS wr ka k (l.map hiC) := hsl
      have st := stack_any ka k kc (l.map hiC) o wr hcs (by omega)
      have hh := hi_stk (o := o) (by have := HL.out; omega : l.length ≤ 50) HZ.out
      rw [hh.1] at st
      obtain ⟨p, hp⟩ : ∃ p, stkP (l.map hiC) o = p := ⟨_, rfl⟩
      rw [hp] at st hh
      obtain ⟨-, h2, h3, h4, h5⟩ := hh
      rw [HL.out] at h2 h3 h4 h5
      have H3 := Lib.hid (And.intro h3 (And.intro h4 h5))
      clear hp h3 h4 h5 hcs hsl hlen
      go_upto_region 9 with fail
      go_upto_region 10 with (go_at_call 8; refine st.mono ?_; clear st; rintro e w2 ⟨v, rfl, hr, hs⟩; obtain ⟨ya, yc, hv, hz, -⟩ := hr.slice; rw [h2] at hv hz; subst hv; have HY := Lib.hid hz; have HS2 := Lib.hid (HS.out.trans hs); clear hr hs hz)
      obtain ⟨R, hR⟩ : ∃ R, R = w2.alloc (.cells (pil (.slice ya k yc) p).toArray 35) := ⟨_, rfl⟩
      have kR : Blk R w2.heap.size (pil (.slice ya k yc) p) 35 := by rw [hR]; exact Blk.new w2 _ _
      have sR : Seen w2 R := by rw [hR]; exact (Seen.refl w2).alloc _
      simp only [pil] at hR
      rw [← hR]
      clear hR
      have rP := kR.rulesP
      have HYR := Lib.hid (ZS_seen HY.out sR)
      have HSR := Lib.hid (HS2.out.trans sR)
      have HUR := Lib.hid ((HU.out.seen S1.out).seen HSR.out)
      clear HY HS2 kR sR HR HS
      go_wp2_with fail
      go_loopw [9, 42] (fun s i wr => ∃ j : Nat, j ≤ k ∧ i = .int .i64 j ∧ s = .int .i64 (upS l j) ∧ Seen R wr) (fun _ i _ => k - (intOf i).toNat)
      case atStart => exact ⟨0, Nat.zero_le _, rfl, rfl, Seen.refl _⟩
      case round =>
        obtain ⟨j, hj, rfl, rfl, hs⟩ := hrel
        have HS := Lib.hid hs
        clear hs
        obtain ⟨p0, p1, -, -, -, -, p6, -⟩ := rP _ HS.out
        clear rP
        by_cases hjk : j < k
        · have hlk := HL.out
          obtain ⟨b, off, rfl, hc⟩ := (HUR.out.seen HS.out).2 (show 0 < k by omega)
          have cz := hc j hjk
          obtain ⟨yb, yo, rfl, hy⟩ := HYR.out.2 (show 0 < k by omega)
          have cy := HS.out.cell (hy j hjk)
          rw [H3.out.1 j hjk] at cy
          have hzb := HZ.out (l.getD j 0) (by rw [List.getD_eq_getElem?_getD, List.getElem?_eq_getElem (by omega)]; exact List.getElem_mem _)
          have hub := upS_low HZ.out j (by omega)
          have hun := Lib.hid (upS_next (l := l) (k := j) (by omega))
          unfold zat at hun
          obtain ⟨u, hu⟩ : ∃ u, upS l j = u := ⟨_, rfl⟩
          obtain ⟨z, hz⟩ : ∃ z, l.getD j 0 = z := ⟨_, rfl⟩
          rw [hu] at hub cy hun ⊢
          rw [hz] at hzb cz hun
          have huu : u ≤ 65535 * 50 := by omega
          clear hu hz hc hy hlk p1 p6
          go_wp2_with fail
          go_roundw
          case rel => exact ⟨j + 1, by omega, by go_num, by rw [hun.out], HS.out⟩
          case measure => simp [intOf]; omega
        · obtain rfl : j = k := by omega
          rw [H3.out.2.1] at p1
          rw [H3.out.2.2] at p6
          obtain ⟨u, hu⟩ : ∃ u, upS l j = u := ⟨_, rfl⟩
          rw [hu] at p1 ⊢
          clear hu hjk hj
          cases o
          · simp only [Bool.false_and] at p6
            go_wp2_with fail
            go_ret
            exact ⟨rfl, S1.out.trans (HSR.out.trans HS.out)⟩
          · by_cases h0 : j = 0
            · subst h0
              simp only [decide_true, Bool.and_true] at p6
              go_wp2_with fail
              go_ret
              exact ⟨rfl, S1.out.trans (HSR.out.trans HS.out)⟩
            · have e0 : (decide (j = 0)) = false := by simpa using h0
              rw [e0] at p6
              have hj0 : ¬ (j : Int) = 0 := by omega
              simp only [Bool.and_false] at p6
              have hj1 : ((j : Int) == 0) = false := by simpa using h0
              go_wp2_with fail
              go_ret
              exact ⟨rfl, S1.out.trans (HSR.out.trans HS.out)⟩
/-! ### The row's step. -/
set_option maxRecDepth 100000 in
theorem lifted (os : Os) (started : os.Started) (H : Type) (enc : TypeId × Value → H) :
    ReturnsInHanded {} Try.checked os 5 .any (Rows.pileApartSpec.pre6 enc Try.prog Try.f5 Rows.pileApartRow.domain false) (Rows.pileApartSpec.post enc Try.prog Try.f5 false true false false) := by
  refine returnsInHanded_of_change (C := Try.checked) own started (by kernel_rfl) Try.func5
    (ChangeSpec.witness6 (enc := enc) (C := Try.checked) false ⟨#[], #[.slice none 0 0, .bool false], []⟩ 8 (by kernel_rfl) (by kernel_rfl) (by kernel_rfl) (by kernel_rfl)) ?_
  intro W base args ds gs before hval0 hW hcnd _
  have hval : ∀ (j : Nat) t v, Try.f5.params[j]? = some t → args[j]? = some v → Value.okWide Try.prog W .any base t v := hval0
  have hW' := hW
  obtain ⟨p, q, hA0, hV, rfl, hfz, hnd⟩ := hW
  have hA : DataW.TrodAll enc Try.prog W 0 (fun _ => true) true Try.f5.params.toList args.toList ds p := hA0
  rw [Try.params5] at hA hval
  obtain ⟨v0, vs0, d0, ds0, p0, q0, hargs, rfl, rfl, h0, r0⟩ := trodAll_cons hA
  obtain ⟨v1, vs1, d1, ds1, p1, q1, rfl, rfl, rfl, h1, r1⟩ := trodAll_cons r0
  obtain ⟨rfl, rfl, rfl⟩ := trodAll_nil r1
  obtain rfl : args = #[v0, v1] := by cases args; simp_all
  obtain ⟨rfl, rfl⟩ := trodVars_none hV
  have k0 := h0
  have lt0 : ∀ x ∈ p0, x.block < W.heap.size := by obtain ⟨m, hm⟩ := k0; exact DataW.trod_lt m _ _ _ hm
  obtain ⟨g0, rfl, o0⟩ := open_us (hval 0 45 v0 rfl rfl) h0
  have k1 := h1
  have lt1 : ∀ x ∈ p1, x.block < W.heap.size := by obtain ⟨m, hm⟩ := k1; exact DataW.trod_lt m _ _ _ hm
  obtain ⟨g1, rfl, o1⟩ := open_boo (hval 1 4 v1 rfl rfl) h1
  clear hA0 hval0
  refine (walk g0 g1 W o0 o1).mono fun e W' ⟨he, bel⟩ => ?_
  subst he
  exact ⟨_, rfl, _, _, _, [], _, [], hW', trodAll_mk1 (shut_bool Try.underlying4 _), (trodAll_cons_mk (Below.trod laidOut (by kernel_rfl) (of_decide_eq_true (by kernel_rfl)) k0 bel lt0) (trodAll_cons_mk (Below.trod laidOut (by kernel_rfl) (of_decide_eq_true (by kernel_rfl)) k1 bel lt1) trodAll_mk0)), rfl, bel.frame _, fun h => by cases h⟩

theorem over : Rows.pileApartRow.holds Try.pinned (OpenSpec.ofChange Rows.pileApartSpec) :=
  OpenClaim.holds_of_wide 5 Try.f5 rfl rfl rfl rfl rfl rfl rfl ⟨rfl, rfl, rfl, rfl, rfl⟩ rfl rfl rfl rfl rfl (by kernel_rfl) Try.func5 (by kernel_rfl)
    (of_decide_eq_true (by kernel_rfl)) (by unfold Func.isWrapper; first | (rw [if_pos (by decide +kernel)]; kernel_rfl) | (rw [if_neg (by decide +kernel)]; exact ⟨rfl, rfl⟩))
    (fun os started H enc _ => lifted os started H enc)

/-- The statement. -/
theorem proved : Rows.PileApartSaid := over
#print axioms proved
end Go.Proofs.Ytmcjabbfhhdmmaa.pileApart
