/- Proved: for every slice of children and every Boolean the law PileStacks returns true, and its arguments read afterwards as before; no conditions. -/
import Derived.Test.YtmcjabbfhhdmmaaRows
import Derived.WalkKit
import Derived.Test.YtmcjabbfhhdmmaaPAwake
import Derived.Test.YtmcjabbfhhdmmaaPIs
import Derived.Test.YtmcjabbfhhdmmaaPRef
import Derived.Test.YtmcjabbfhhdmmaaPush
import Derived.ProofKit
import Derived.OpenShut
import Derived.ShutString
import Derived.ChangeOld
import Derived.Below
namespace Go.Proofs.Ytmcjabbfhhdmmaa.pileStacks
open Go.ChangeShapes Go.WideShapes Go.ChangeAt Go.RowKit
set_option linter.unusedVariables false

theorem own : ownKnob Try.prog.godebug = none := by kernel_rfl
theorem laidOut : laidOutB Try.prog = true := by kernel_rfl

theorem info28z : (Try.prog.info? 28).map (fun i => (i.zero, i.size, i.bytes)) = some (some (chv zeroC), 8, 64) := by kernel_rfl
theorem chl_one (q : Ch) : ∀ u ∈ chl q, u.oneCell' = true := by
  intro u hu
  simp [chl] at hu
  rcases hu with rfl | rfl | rfl | rfl | rfl | rfl | rfl | rfl <;> rfl
set_option maxHeartbeats 4000000 in
theorem walk (q : Kids) (o : Bool) (w : World) (oq : okK w q) (_ : True) :
    Calls Try.prog 3 #[.slice q.a q.n q.c, .bool o] w fun e w' => e = .returned (.bool true) ∧ Below w.heap.size w w' := by
  by_cases hn : 100 < q.n
  · have hn' : (100 : Int) < (q.n : Int) := by omega
    clear oq
    have acc := Seen.refl w
    go_enter Try.func3, Try.ntmps3
    go_wp2_with (go_at_call 6; refine (awake_any _).mono ?_; rintro e w1 ⟨rfl, hb⟩; replace acc := acc.next hb; clear hb)
    go_ret
    exact ⟨rfl, acc⟩
  have hn' : ¬ (100 : Int) < (q.n : Int) := by omega
  obtain ⟨a, n, c, l⟩ := q
  simp only at hn hn' ⊢
  have HC := Lib.hid oq.1
  have HL : Hid (l.length = n) := oq.1.1
  clear oq
  go_enter Try.func3, Try.ntmps3
  go_upto_region 4 with (go_at_call 6; refine (awake_any _).mono ?_; rintro e w1 ⟨rfl, hb⟩; have S1 := Lib.hid hb; clear hb)
  go_wp2_with fail
  go_loopw [5, 21] (fun s i wr => ∃ k : Nat, k ≤ n ∧ i = .int .i64 k ∧ GR chl 28 8 wr w1.heap.size s (l.take k) ∧ Seen w1 wr) (fun _ i _ => n - (intOf i).toNat)
  case atStart => exact ⟨0, Nat.zero_le _, rfl, GR.nil _ _, Seen.refl _⟩
  case round =>
    obtain ⟨k, hk, rfl, hr, hs⟩ := hrel
    have HR := Lib.hid hr
    have HS := Lib.hid hs
    clear hr hs
    by_cases hkn : k < n
    · obtain ⟨b, off, rfl, hats⟩ := ((HC.out.seen S1.out).seen HS.out).ats (show 0 < n by omega)
      have hat := hats k hkn
      have hkl : k < l.length := by rw [HL.out]; exact hkn
      have et := Lib.hid (take_cat hkl)
      obtain ⟨cc, hcc⟩ : ∃ cc, cat l k = cc := ⟨_, rfl⟩
      rw [hcc] at hat et
      have hll : Hid ((l.take k).length ≤ 1000000) := by unfold Hid; rw [List.length_take]; omega
      have oc := of_any cc
      unfold At8 at hat
      obtain ⟨x0, x1, x2, x3, x4, x5, x6, x7⟩ := hat
      clear hats hkl hcc
      go_wp2_with (first
        | (go_at_call 7; refine (oc _).mono ?_; clear oc; rintro e w2 ⟨rfl, hb⟩; have S2 := Lib.hid (HS.out.trans hb); have HR2 := Lib.hid (HR.out.seen hb); clear hb)
        | (at_builtin; refine wpList_pushG Try.underlying24 info28z rfl (by decide) chl_length chl_one (by decide) rfl (.tmp 24) (.tmp 30) rfl w1.heap.size u5 (l.take k) cc rfl rfl HR2.out hll.out S2.out.size ?_; intro g cap w3 hg hgr; generalize Value.slice (some ⟨g, 0, none⟩) ((l.take k).length + 1) cap = vv at hg ⊢; have HG := Lib.hid hg; have HB := Lib.hid ((S2.out.alloc _).grown hgr (by have := S2.out.size; simp; omega) (fun g hg => (HR2.out.lt g hg).1)); clear hg hgr))
      go_roundw
      case rel =>
        refine ⟨k + 1, by omega, by go_num, ?_, HB.out⟩
        rw [et.out]
        exact HG.out
      case measure => simp [intOf]; omega
    · obtain rfl : k = n := by omega
      have et : l.take k = l := by rw [List.take_of_length_le (by have := HL.out; omega)]
      rw [et] at HR
      clear et hkn hk
      obtain ⟨ka, kc, hv, hsl, -⟩ := HR.out.slice chl_length zeroC
      rw [HL.out] at hv hsl
      subst hv
      have hcs : CS wr ka k l := hsl
      have h1 := Lib.hid (show ∀ W, Seen wr W → CS W a k l from fun W h => ((HC.out.seen S1.out).seen HS.out).seen h)
      have h2 := Lib.hid (show ∀ W, Seen wr W → CS W ka k l from fun W h => hcs.seen h)
      have st := stack_any a k c l o wr (h1.out _ (Seen.refl _)) (by omega)
      obtain ⟨p, hp⟩ : ∃ p, stkP l o = p := ⟨_, rfl⟩
      obtain ⟨pb, hpb⟩ : ∃ b, stkB l o = b := ⟨_, rfl⟩
      have rs := fun W h => refStack_any ka k kc l o W (h2.out W h) (by omega)
      rw [hp, hpb] at st
      simp only [hp, hpb] at rs
      have hpl : p.y.length ≤ 1000000 := by
        rw [← hp]
        cases hO : stkO l o with
        | none => rw [(stk_none hO).1]; exact Nat.zero_le _
        | some q =>
          rw [(stk_some hO).1]
          have h1 := runP_len hO
          have h2 := HL.out
          simp only [openP, List.length_nil] at h1
          omega
      have HPL := Lib.hid hpl
      clear hp hpb hcs hsl hpl
      go_upto_region 9 with fail
      go_upto_region 10 with (go_at_call 8; refine st.mono ?_; clear st; rintro e w2 ⟨v, rfl, hr, hs⟩; obtain ⟨ya, yc, hv, hz, -⟩ := hr.slice; obtain ⟨m, hm⟩ : ∃ m, p.y.length = m := ⟨_, rfl⟩; rw [hm] at hv hz; have HM := Lib.hid hm; clear hm; subst hv; have HY := Lib.hid hz; have HS2 := Lib.hid hs; clear hr hs hz)
      obtain ⟨R, hR⟩ : ∃ R, R = w2.alloc (.cells (pil (.slice ya m yc) p).toArray 35) := ⟨_, rfl⟩
      have kR : Blk R w2.heap.size (pil (.slice ya m yc) p) 35 := by rw [hR]; exact Blk.new w2 _ _
      have sR : Seen w2 R := by rw [hR]; exact (Seen.refl w2).alloc _
      simp only [pil] at hR
      rw [← hR]
      clear hR
      have KR := Lib.hid kR
      have HYR := Lib.hid (ZS_seen HY.out sR)
      have HSR := Lib.hid (HS2.out.trans sR)
      clear HY HS2 kR sR
      go_upto_region 11 with (go_at_call 9; refine (rs R HSR.out).mono ?_; clear rs; rintro e w3 ⟨v, rfl, hr, hs⟩; obtain ⟨za, zc, hv, hz, -⟩ := hr.slice; rw [HM.out] at hv hz; subst hv; have HZ := Lib.hid hz; have HS3 := Lib.hid hs; clear hr hs hz)
      obtain ⟨R2, hR2⟩ : ∃ R2, R2 = w3.alloc (.cells (pil (.slice za m zc) p).toArray 39) := ⟨_, rfl⟩
      have kR2 : Blk R2 w3.heap.size (pil (.slice za m zc) p) 39 := by rw [hR2]; exact Blk.new w3 _ _
      have sR2 : Seen w3 R2 := by rw [hR2]; exact (Seen.refl w3).alloc _
      simp only [pil] at hR2
      rw [← hR2]
      clear hR2
      have r1 := (KR.out.seen (HS3.out.trans sR2)).rulesP R2 (Seen.refl _)
      have r2 := kR2.rulesP R2 (Seen.refl _)
      have is1 := is_any p ya za m yc zc R2 (ZS_seen HYR.out (HS3.out.trans sR2)) (ZS_seen HZ.out sR2) (by rw [← HM.out]; exact HPL.out)
      have HSF : Hid (Seen w R2) := S1.out.trans (HS.out.trans (HSR.out.trans (HS3.out.trans sR2)))
      clear kR2 sR2 HZ HYR HS3 HSR KR
      cases pb <;>
      · go_wp2_with (go_at_call 10; refine is1.mono ?_; clear is1; rintro e w4 ⟨rfl, hb⟩; have S4 := Lib.hid hb; clear hb)
        go_ret
        exact ⟨rfl, HSF.out.trans S4.out⟩
/-! ### The row's step. -/
set_option maxRecDepth 100000 in
theorem lifted (os : Os) (started : os.Started) (H : Type) (enc : TypeId × Value → H) :
    ReturnsInHanded {} Try.checked os 3 .any (Rows.pileStacksSpec.pre6 enc Try.prog Try.f3 Rows.pileStacksRow.domain false) (Rows.pileStacksSpec.post enc Try.prog Try.f3 false true false false) := by
  refine returnsInHanded_of_change (C := Try.checked) own started (by kernel_rfl) Try.func3
    (ChangeSpec.witness6 (enc := enc) (C := Try.checked) false ⟨#[], #[.slice none 0 0, .bool false], []⟩ 8 (by kernel_rfl) (by kernel_rfl) (by kernel_rfl) (by kernel_rfl)) ?_
  intro W base args ds gs before hval0 hW hcnd _
  have hval : ∀ (j : Nat) t v, Try.f3.params[j]? = some t → args[j]? = some v → Value.okWide Try.prog W .any base t v := hval0
  have hW' := hW
  obtain ⟨p, q, hA0, hV, rfl, hfz, hnd⟩ := hW
  have hA : DataW.TrodAll enc Try.prog W 0 (fun _ => true) true Try.f3.params.toList args.toList ds p := hA0
  rw [Try.params3] at hA hval
  obtain ⟨v0, vs0, d0, ds0, p0, q0, hargs, rfl, rfl, h0, r0⟩ := trodAll_cons hA
  obtain ⟨v1, vs1, d1, ds1, p1, q1, rfl, rfl, rfl, h1, r1⟩ := trodAll_cons r0
  obtain ⟨rfl, rfl, rfl⟩ := trodAll_nil r1
  obtain rfl : args = #[v0, v1] := by cases args; simp_all
  obtain ⟨rfl, rfl⟩ := trodVars_none hV
  have k0 := h0
  have lt0 : ∀ x ∈ p0, x.block < W.heap.size := by obtain ⟨m, hm⟩ := k0; exact DataW.trod_lt m _ _ _ hm
  obtain ⟨g0, rfl, o0⟩ := open_kids (hval 0 22 v0 rfl rfl) h0
  have k1 := h1
  have lt1 : ∀ x ∈ p1, x.block < W.heap.size := by obtain ⟨m, hm⟩ := k1; exact DataW.trod_lt m _ _ _ hm
  obtain ⟨g1, rfl, o1⟩ := open_boo (hval 1 4 v1 rfl rfl) h1
  clear hA0 hval0
  refine (walk g0 g1 W o0 o1).mono fun e W' ⟨he, bel⟩ => ?_
  subst he
  exact ⟨_, rfl, _, _, _, [], _, [], hW', trodAll_mk1 (shut_bool Try.underlying4 _), (trodAll_cons_mk (Below.trod laidOut (by kernel_rfl) (of_decide_eq_true (by kernel_rfl)) k0 bel lt0) (trodAll_cons_mk (Below.trod laidOut (by kernel_rfl) (of_decide_eq_true (by kernel_rfl)) k1 bel lt1) trodAll_mk0)), rfl, bel.frame _, fun h => by cases h⟩

theorem over : Rows.pileStacksRow.holds Try.pinned (OpenSpec.ofChange Rows.pileStacksSpec) :=
  OpenClaim.holds_of_wide 3 Try.f3 rfl rfl rfl rfl rfl rfl rfl ⟨rfl, rfl, rfl, rfl, rfl⟩ rfl rfl rfl rfl rfl (by kernel_rfl) Try.func3 (by kernel_rfl)
    (of_decide_eq_true (by kernel_rfl)) (by unfold Func.isWrapper; first | (rw [if_pos (by decide +kernel)]; kernel_rfl) | (rw [if_neg (by decide +kernel)]; exact ⟨rfl, rfl⟩))
    (fun os started H enc _ => lifted os started H enc)

/-- The statement. -/
theorem proved : Rows.PileStacksSaid := over
#print axioms proved
end Go.Proofs.Ytmcjabbfhhdmmaa.pileStacks
