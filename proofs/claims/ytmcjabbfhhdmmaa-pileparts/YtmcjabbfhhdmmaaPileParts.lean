/- Proved: for any two slices of children the law PileParts returns true, and its arguments read afterwards as before; no conditions. -/
import Derived.Test.YtmcjabbfhhdmmaaRows
import Derived.WalkKit
import Derived.Test.YtmcjabbfhhdmmaaPAwake
import Derived.Test.YtmcjabbfhhdmmaaPArgs
import Derived.Test.YtmcjabbfhhdmmaaCat
import Derived.Test.YtmcjabbfhhdmmaaPPm
import Derived.ProofKit
import Derived.OpenShut
import Derived.ShutString
import Derived.ChangeOld
import Derived.Below
namespace Go.Proofs.Ytmcjabbfhhdmmaa.pileParts
open Go.ChangeShapes Go.WideShapes Go.ChangeAt Go.RowKit
set_option linter.unusedVariables false

theorem own : ownKnob Try.prog.godebug = none := by kernel_rfl
theorem laidOut : laidOutB Try.prog = true := by kernel_rfl

theorem info32z : (Try.prog.info? 32).map (fun i => (i.zero, i.size, i.bytes)) = some (some (chv zeroC), 8, 64) := by kernel_rfl
theorem chl_one (q : Ch) : ∀ u ∈ chl q, u.oneCell' = true := by
  intro u hu
  simp [chl] at hu
  rcases hu with rfl | rfl | rfl | rfl | rfl | rfl | rfl | rfl <;> rfl
theorem GR.made (w : World) (base : Nat) (hb : base ≤ w.heap.size) : GR chl 32 8 (w.alloc (.cells #[] 32)) base (.slice (some ⟨w.heap.size, 0, none⟩) 0 0) [] := World.ownsRow_made w #[] 0 hb (Nat.zero_le _) rfl
theorem GR.one (w : World) (base : Nat) (hb : base ≤ w.heap.size) (c : Ch) : GR chl 32 8 (w.alloc (.cells (chl c).toArray 32)) base (.slice (some ⟨w.heap.size, 0, none⟩) 1 1) [c] :=
  ⟨rfl, .inr ⟨w.heap.size, 1, (chl c).toArray, rfl, hb, World.alloc_heap_new w _, Nat.le_refl _, by unfold maxLen; omega, rfl, by simp [chl]⟩⟩
set_option maxHeartbeats 4000000 in
theorem walk (q r : Kids) (w : World) (oq : okK w q) (or' : okK w r) :
    Calls Try.prog 4 #[.slice q.a q.n q.c, .slice r.a r.n r.c] w fun e w' => e = .returned (.bool true) ∧ Below w.heap.size w w' := by
  by_cases hn : 30 < q.n
  · have hn' : (30 : Int) < (q.n : Int) := by omega
    clear oq or'
    have acc := Seen.refl w
    go_enter Try.func4, Try.ntmps4
    go_wp2_with (go_at_call 6; refine (awake_any _).mono ?_; rintro e w1 ⟨rfl, hb⟩; replace acc := acc.next hb; clear hb)
    go_ret
    exact ⟨rfl, acc⟩
  by_cases hm : 30 < r.n
  · have hn' : ¬ (30 : Int) < (q.n : Int) := by omega
    have hm' : (30 : Int) < (r.n : Int) := by omega
    clear oq or'
    have acc := Seen.refl w
    go_enter Try.func4, Try.ntmps4
    go_wp2_with (go_at_call 6; refine (awake_any _).mono ?_; rintro e w1 ⟨rfl, hb⟩; replace acc := acc.next hb; clear hb)
    go_ret
    exact ⟨rfl, acc⟩
  have hn' : ¬ (30 : Int) < (q.n : Int) := by omega
  have hm' : ¬ (30 : Int) < (r.n : Int) := by omega
  obtain ⟨a, n, c, l⟩ := q
  obtain ⟨a2, m, c2, more⟩ := r
  simp only at hn hm hn' hm' ⊢
  have HC := Lib.hid oq.1
  have HL : Hid (l.length = n) := oq.1.1
  have HC2 := Lib.hid or'.1
  have HL2 : Hid (more.length = m) := or'.1.1
  have S1' := Lib.hid (src_sl (c := c) chl_length (by decide) oq.1 oq.2)
  have S2' := Lib.hid (src_sl (c := c2) chl_length (by decide) or'.1 or'.2)
  clear oq or'
  cases hO : stkO (l ++ more) false with
  | none =>
    obtain ⟨A, hA⟩ : ∃ A, A = zeroP := ⟨_, rfl⟩
    have E1 : Hid (stkP (l ++ more) false = A ∧ stkB (l ++ more) false = false) := by rw [hA]; exact stk_none hO
    obtain ⟨P, hP⟩ : ∃ P, stkP l false = P := ⟨_, rfl⟩
    obtain ⟨is, his⟩ : ∃ is, stkB l false = is := ⟨_, rfl⟩
    have E2 : Hid (stkP l false = P ∧ stkB l false = is) := ⟨hP, his⟩
    obtain ⟨kA, hkA⟩ : ∃ k, A.y.length = k := ⟨_, rfl⟩
    have HA := Lib.hid hkA
    obtain ⟨kP, hkP⟩ : ∃ k, P.y.length = k := ⟨_, rfl⟩
    have HP := Lib.hid hkP
    clear hA hP his hO hkA hkP
    go_enter Try.func4, Try.ntmps4
    go_upto_region 3 with (go_at_call 6; refine (awake_any _).mono ?_; rintro e w1 ⟨rfl, hb⟩; have A1 := Lib.hid hb; clear hb)
    clear hn' hm'
    have G0 := Lib.hid (GR.made w1 w1.heap.size (Nat.le_refl _))
    have B0 : Hid (Below w1.heap.size w1 (w1.alloc (.cells #[] 32))) := (Seen.refl w1).alloc _
    go_upto_region 4 with (first
      | (at_builtin; refine wpList_catG Try.underlying22 info32z rfl (by decide) chl_one (by decide) rfl (.tmp 26) (.tmp 27) rfl w1.heap.size _ [] _ n l rfl rfl G0.out (src_seen S1'.out (A1.out.trans B0.out)) HL.out (by simp; omega) (by simp) ?_; intro v1 w2 hg hgr; have G1 := Lib.hid (show GR chl 32 8 w2 w1.heap.size v1 l from hg); have B1 := Lib.hid (B0.out.grown hgr (by simp) (fun g hg => (G0.out.lt g hg).1)); clear hg hgr G0 B0)
      | (at_builtin; refine wpList_catG Try.underlying22 info32z rfl (by decide) chl_one (by decide) rfl (.tmp 28) (.tmp 29) rfl w1.heap.size v1 l _ m more rfl rfl G1.out (src_seen S2'.out (A1.out.trans B1.out)) HL2.out (by have := HL.out; omega) B1.out.size ?_; intro v2 w3 hg hgr; have G2 := Lib.hid hg; have B2 := Lib.hid (B1.out.grown hgr B1.out.size (fun g hg => (G1.out.lt g hg).1)); clear hg hgr G1 B1; have hsl := G2.out.slice chl_length zeroC; rw [List.length_append, HL.out, HL2.out] at hsl; obtain ⟨xa, xc, hv, hsl, -⟩ := hsl; subst hv; have C2 : Hid (CS w3 xa (n + m) (l ++ more)) := hsl; clear hsl G2)
      | (go_at_call 8; refine (stack_any xa (n + m) xc (l ++ more) false _ C2.out (by omega)).mono ?_; clear C2; rintro e w4 ⟨v, rfl, hr, hs⟩; rw [E1.out.1] at hr ⊢; rw [E1.out.2]; obtain ⟨ya, yc, hv, hz, -⟩ := hr.slice; rw [HA.out] at hv hz; subst hv; have HY := Lib.hid hz; have B4 := Lib.hid (B2.out.trans (hs.mono B2.out.size)); clear hr hs hz B2))
    obtain ⟨X, hX⟩ : ∃ X, X = w4.alloc (.cells (pil (.slice ya kA yc) A).toArray 35) := ⟨_, rfl⟩
    have kX : Blk X w4.heap.size (pil (.slice ya kA yc) A) 35 := by rw [hX]; exact Blk.new w4 _ _
    have sX : Seen w4 X := by rw [hX]; exact (Seen.refl w4).alloc _
    simp only [pil] at hX
    rw [← hX]
    clear hX
    have KX := Lib.hid kX
    have HY2 := Lib.hid (ZS_seen HY.out sX)
    have BX := Lib.hid (B4.out.trans (sX.mono B4.out.size))
    have CX : Hid (CS X a n l) := HC.out.seen (A1.out.trans BX.out)
    clear kX sX HY B4
    go_upto_region 5 with (go_at_call 8; refine (stack_any a n c l false X CX.out (by omega)).mono ?_; clear CX; rintro e w5 ⟨v, rfl, hr, hs⟩; rw [E2.out.1] at hr ⊢; rw [E2.out.2]; obtain ⟨za, zc, hv, hz, -⟩ := hr.slice; rw [HP.out] at hv hz; subst hv; have HZ := Lib.hid hz; have S5 := Lib.hid hs; clear hr hs hz)
    cases is <;>
    · go_wp2_with fail
      go_ret
      exact ⟨rfl, Seen.alloc (Seen.trans (Seen.trans A1.out BX.out) S5.out) _⟩
  | some A =>
    obtain ⟨P, hOP, Y, B, hAl, hOB, hYl, hAY, hBY, hBl, hBe, hBc⟩ := parts hO
    have E1 : Hid (stkP (l ++ more) false = A ∧ stkB (l ++ more) false = true) := stk_some hO
    have E2 : Hid (stkP l false = P ∧ stkB l false = true) := stk_some hOP
    have E3 : Hid (stkP (oneC P.edge P.cur :: more) false = B ∧ stkB (oneC P.edge P.cur :: more) false = true) := stk_some hOB
    obtain ⟨kA, hkA⟩ : ∃ k, A.y.length = k := ⟨_, rfl⟩
    have HA := Lib.hid hkA
    obtain ⟨kP, hkP⟩ : ∃ k, P.y.length = k := ⟨_, rfl⟩
    have HP := Lib.hid hkP
    obtain ⟨kB, hkB⟩ : ∃ k, B.y.length = k := ⟨_, rfl⟩
    have HB := Lib.hid hkB
    have HkA : Hid (kA = n + m) := by rw [← hkA, hAl, HL.out, HL2.out]; exact rfl
    have HkB : Hid (kB = m + 1) := by rw [← hkB, hBl, HL2.out]; exact rfl
    have HAY := Lib.hid hAY
    have HBY := Lib.hid hBY
    have HE := Lib.hid (And.intro hBe (And.intro hBc hYl))
    clear hOP hO hOB hAl hYl hAY hBY hBl hBe hBc hkA hkP hkB
    go_enter Try.func4, Try.ntmps4
    go_upto_region 3 with (go_at_call 6; refine (awake_any _).mono ?_; rintro e w1 ⟨rfl, hb⟩; have A1 := Lib.hid hb; clear hb)
    clear hn' hm'
    have G0 := Lib.hid (GR.made w1 w1.heap.size (Nat.le_refl _))
    have B0 : Hid (Below w1.heap.size w1 (w1.alloc (.cells #[] 32))) := (Seen.refl w1).alloc _
    go_upto_region 4 with (first
      | (at_builtin; refine wpList_catG Try.underlying22 info32z rfl (by decide) chl_one (by decide) rfl (.tmp 26) (.tmp 27) rfl w1.heap.size _ [] _ n l rfl rfl G0.out (src_seen S1'.out (A1.out.trans B0.out)) HL.out (by simp; omega) (by simp) ?_; intro v1 w2 hg hgr; have G1 := Lib.hid (show GR chl 32 8 w2 w1.heap.size v1 l from hg); have B1 := Lib.hid (B0.out.grown hgr (by simp) (fun g hg => (G0.out.lt g hg).1)); clear hg hgr G0 B0)
      | (at_builtin; refine wpList_catG Try.underlying22 info32z rfl (by decide) chl_one (by decide) rfl (.tmp 28) (.tmp 29) rfl w1.heap.size v1 l _ m more rfl rfl G1.out (src_seen S2'.out (A1.out.trans B1.out)) HL2.out (by have := HL.out; omega) B1.out.size ?_; intro v2 w3 hg hgr; have G2 := Lib.hid hg; have B2 := Lib.hid (B1.out.grown hgr B1.out.size (fun g hg => (G1.out.lt g hg).1)); clear hg hgr G1 B1; have hsl := G2.out.slice chl_length zeroC; rw [List.length_append, HL.out, HL2.out] at hsl; obtain ⟨xa, xc, hv, hsl, -⟩ := hsl; subst hv; have C2 : Hid (CS w3 xa (n + m) (l ++ more)) := hsl; clear hsl G2)
      | (go_at_call 8; refine (stack_any xa (n + m) xc (l ++ more) false _ C2.out (by omega)).mono ?_; clear C2; rintro e w4 ⟨v, rfl, hr, hs⟩; rw [E1.out.1] at hr ⊢; rw [E1.out.2]; obtain ⟨ya, yc, hv, hz, -⟩ := hr.slice; rw [HA.out] at hv hz; subst hv; have HY := Lib.hid hz; have B4 := Lib.hid (B2.out.trans (hs.mono B2.out.size)); clear hr hs hz B2))
    obtain ⟨X, hX⟩ : ∃ X, X = w4.alloc (.cells (pil (.slice ya kA yc) A).toArray 35) := ⟨_, rfl⟩
    have kX : Blk X w4.heap.size (pil (.slice ya kA yc) A) 35 := by rw [hX]; exact Blk.new w4 _ _
    have sX : Seen w4 X := by rw [hX]; exact (Seen.refl w4).alloc _
    simp only [pil] at hX
    rw [← hX]
    clear hX
    have KX := Lib.hid kX
    have HY2 := Lib.hid (ZS_seen HY.out sX)
    have BX := Lib.hid (B4.out.trans (sX.mono B4.out.size))
    have CX : Hid (CS X a n l) := HC.out.seen (A1.out.trans BX.out)
    clear kX sX HY B4
    go_upto_region 5 with (go_at_call 8; refine (stack_any a n c l false X CX.out (by omega)).mono ?_; clear CX; rintro e w5 ⟨v, rfl, hr, hs⟩; rw [E2.out.1] at hr ⊢; rw [E2.out.2]; obtain ⟨za, zc, hv, hz, -⟩ := hr.slice; rw [HP.out] at hv hz; subst hv; have HZ := Lib.hid hz; have S5 := Lib.hid hs; clear hr hs hz)
    obtain ⟨X2, hX2⟩ : ∃ X2, X2 = w5.alloc (.cells (pil (.slice za kP zc) P).toArray 35) := ⟨_, rfl⟩
    have kX2 : Blk X2 w5.heap.size (pil (.slice za kP zc) P) 35 := by rw [hX2]; exact Blk.new w5 _ _
    have sX2 : Seen X X2 := by rw [hX2]; exact S5.out.alloc _
    simp only [pil] at hX2
    rw [← hX2]
    clear hX2
    have SX2 := Lib.hid sX2
    have rQ := kX2.rulesP X2 (Seen.refl _)
    obtain ⟨-, p1, -, -, p4, p5, -, -⟩ := rQ
    have G5 := Lib.hid (GR.one X2 X2.heap.size (Nat.le_refl _) (oneC P.edge P.cur))
    have D5 : Hid (Below X2.heap.size X2 (X2.alloc (.cells (chl (oneC P.edge P.cur)).toArray 32))) := (Seen.refl X2).alloc _
    have SA := Lib.hid (Seen.trans A1.out (Seen.trans BX.out sX2))
    clear kX2 sX2 HZ S5
    go_upto_region 8 with (first
      | (at_builtin; refine wpList_catG Try.underlying22 info32z rfl (by decide) chl_one (by decide) rfl (.tmp 56) (.tmp 57) rfl X2.heap.size _ [oneC P.edge P.cur] _ m more rfl rfl G5.out (src_seen S2'.out (SA.out.trans D5.out)) HL2.out (by simp; omega) (by simp) ?_; intro v6 w6 hg hgr; have G6 := Lib.hid hg; have B6 := Lib.hid (D5.out.grown hgr (by simp) (fun g hg => (G5.out.lt g hg).1)); clear hg hgr G5 D5; have hsl := G6.out.slice chl_length zeroC; rw [List.length_append, HL2.out] at hsl; obtain ⟨xa, xc, hv, hsl, -⟩ := hsl; have hv2 : v6 = .slice xa (1 + m) xc := hv; clear hv; subst hv2; have C6 : Hid (CS w6 xa (1 + m) (oneC P.edge P.cur :: more)) := hsl; clear hsl G6)
      | (go_at_call 8; refine (stack_any xa (1 + m) xc (oneC P.edge P.cur :: more) false _ C6.out (by omega)).mono ?_; clear C6; rintro e w7 ⟨v, rfl, hr, hs⟩; rw [E3.out.1] at hr ⊢; rw [E3.out.2]; obtain ⟨ua, uc, hv, hz, -⟩ := hr.slice; rw [HB.out] at hv hz; subst hv; have HU := Lib.hid hz; have S7 : Hid (Seen X2 w7) := Seen.trans B6.out hs; clear hr hs hz B6))
    obtain ⟨R, hR⟩ : ∃ R, R = w7.alloc (.cells (pil (.slice ua kB uc) B).toArray 35) := ⟨_, rfl⟩
    have kR : Blk R w7.heap.size (pil (.slice ua kB uc) B) 35 := by rw [hR]; exact Blk.new w7 _ _
    have sR : Seen w7 R := by rw [hR]; exact (Seen.refl w7).alloc _
    simp only [pil] at hR
    rw [← hR]
    clear hR
    have HUR := Lib.hid (ZS_seen HU.out sR)
    have SXR := Lib.hid (Seen.trans SX2.out (S7.out.trans sR))
    have HYR := Lib.hid (ZS_seen HY2.out SXR.out)
    have rA := (KX.out.seen SXR.out).rulesP
    have rB := kR.rulesP
    have SAR : Hid (Seen w R) := Seen.trans A1.out (Seen.trans BX.out SXR.out)
    clear HU HY2 KX kR sR S7 SX2 SA p1 p4 p5
    have r1 : (m : Int) + 1 = (kB : Int) := by rw [HkB.out]; omega
    have r2 : (n : Int) + (m : Int) = (kA : Int) := by rw [HkA.out]; omega
    obtain ⟨xA, -⟩ := rA R (Seen.refl _)
    obtain ⟨xB, -⟩ := rB R (Seen.refl _)
    go_upto_region 11 with fail
    clear r1 r2 xA xB
    go_loopw [86] (fun i wr => ∃ k : Nat, k ≤ m ∧ i = .int .i64 k ∧ Seen R wr) (fun i _ => m - (intOf i).toNat)
    case atStart => exact ⟨0, Nat.zero_le _, rfl, Seen.refl _⟩
    case round =>
      obtain ⟨k, hk, rfl, hs⟩ := hrel
      have HS := Lib.hid hs
      obtain ⟨a0, a1, -, -, a4, a5, -, -⟩ := rA _ hs
      obtain ⟨b0, b1, -, -, b4, b5, -, -⟩ := rB _ hs
      clear rA rB hs
      by_cases hkm : k < m
      · obtain ⟨j1, hj1⟩ : ∃ j, n + k = j := ⟨_, rfl⟩
        obtain ⟨j2, hj2⟩ : ∃ j, k + 1 = j := ⟨_, rfl⟩
        have l1 : j1 < kA := by rw [HkA.out]; omega
        have l2 : j2 < kB := by rw [HkB.out]; omega
        have e1 : (n : Int) + (k : Int) = (j1 : Int) := by omega
        have e2 : (k : Int) + 1 = (j2 : Int) := by omega
        obtain ⟨b, off, rfl, hc⟩ := HYR.out.2 (by omega : 0 < kA)
        obtain ⟨b', off', rfl, hc'⟩ := HUR.out.2 (by omega : 0 < kB)
        have c1 := HS.out.cell (hc j1 l1)
        have c2 := HS.out.cell (hc' j2 l2)
        have ey := HAY.out k
        have eb := HBY.out k
        rw [HL.out, hj1] at ey
        rw [hj2] at eb
        rw [ey] at c1
        rw [eb] at c2
        obtain ⟨z, hz⟩ : ∃ z, zat Y k = z := ⟨_, rfl⟩
        rw [hz] at c1 c2
        clear hc hc' hz ey eb hj1 hj2 a1 a4 a5 b1 b4 b5 hn hm hk
        go_wp2_with fail
        go_quiet (fail)
        go_wp2_with fail
        go_roundw
        case rel => exact ⟨k + 1, by omega, by go_num, Seen.next HS.out (Go.Joins.below_draws _ _ _)⟩
        case measure => simp [intOf]; omega
      · obtain rfl : k = m := by omega
        rw [HE.out.1] at b1
        rw [HE.out.2.1] at b4 b5
        have eq := fun W => run_eql25 W A.cur.p A.cur.n A.cur.p A.cur.n
        rw [eqS_self] at eq
        clear hkm hk hn hm
        go_wp2_with fail
        go_ret
        exact ⟨rfl, SAR.out.trans HS.out⟩
/-! ### The row's step. -/
set_option maxRecDepth 100000 in
theorem lifted (os : Os) (started : os.Started) (H : Type) (enc : TypeId × Value → H) :
    ReturnsInHanded {} Try.checked os 4 .any (Rows.pilePartsSpec.pre6 enc Try.prog Try.f4 Rows.pilePartsRow.domain false) (Rows.pilePartsSpec.post enc Try.prog Try.f4 false true false false) := by
  refine returnsInHanded_of_change (C := Try.checked) own started (by kernel_rfl) Try.func4
    (ChangeSpec.witness6 (enc := enc) (C := Try.checked) false ⟨#[], #[.slice none 0 0, .slice none 0 0], []⟩ 8 (by kernel_rfl) (by kernel_rfl) (by kernel_rfl) (by kernel_rfl)) ?_
  intro W base args ds gs before hval0 hW hcnd _
  have hval : ∀ (j : Nat) t v, Try.f4.params[j]? = some t → args[j]? = some v → Value.okWide Try.prog W .any base t v := hval0
  have hW' := hW
  obtain ⟨p, q, hA0, hV, rfl, hfz, hnd⟩ := hW
  have hA : DataW.TrodAll enc Try.prog W 0 (fun _ => true) true Try.f4.params.toList args.toList ds p := hA0
  rw [Try.params4] at hA hval
  obtain ⟨v0, vs0, d0, ds0, p0, q0, hargs, rfl, rfl, h0, r0⟩ := trodAll_cons hA
  obtain ⟨v1, vs1, d1, ds1, p1, q1, rfl, rfl, rfl, h1, r1⟩ := trodAll_cons r0
  obtain ⟨rfl, rfl, rfl⟩ := trodAll_nil r1
  obtain rfl : args = #[v0, v1] := by cases args; simp_all
  obtain ⟨rfl, rfl⟩ := trodVars_none hV
  have k0 := h0
  have lt0 : ∀ x ∈ p0, x.block < W.heap.size := by obtain ⟨m, hm⟩ := k0; exact DataW.trod_lt m _ _ _ hm
  obtain ⟨g0, rfl, o0⟩ := open_kids (hval 0 22 v0 rfl rfl) h0
  have k1 := h1
  have lt1 : ∀ x ∈ p1, x.block < W.heap.size := by obtain ⟨m, hm⟩ := k1; exact DataW.trod_lt m _ _ _ hm
  obtain ⟨g1, rfl, o1⟩ := open_kids (hval 1 22 v1 rfl rfl) h1
  clear hA0 hval0
  refine (walk g0 g1 W o0 o1).mono fun e W' ⟨he, bel⟩ => ?_
  subst he
  exact ⟨_, rfl, _, _, _, [], _, [], hW', trodAll_mk1 (shut_bool Try.underlying4 _), (trodAll_cons_mk (Below.trod laidOut (by kernel_rfl) (of_decide_eq_true (by kernel_rfl)) k0 bel lt0) (trodAll_cons_mk (Below.trod laidOut (by kernel_rfl) (of_decide_eq_true (by kernel_rfl)) k1 bel lt1) trodAll_mk0)), rfl, bel.frame _, fun h => by cases h⟩

theorem over : Rows.pilePartsRow.holds Try.pinned (OpenSpec.ofChange Rows.pilePartsSpec) :=
  OpenClaim.holds_of_wide 4 Try.f4 rfl rfl rfl rfl rfl rfl rfl ⟨rfl, rfl, rfl, rfl, rfl⟩ rfl rfl rfl rfl rfl (by kernel_rfl) Try.func4 (by kernel_rfl)
    (of_decide_eq_true (by kernel_rfl)) (by unfold Func.isWrapper; first | (rw [if_pos (by decide +kernel)]; kernel_rfl) | (rw [if_neg (by decide +kernel)]; exact ⟨rfl, rfl⟩))
    (fun os started H enc _ => lifted os started H enc)

/-- The statement. -/
theorem proved : Rows.PilePartsSaid := over
#print axioms proved
end Go.Proofs.Ytmcjabbfhhdmmaa.pileParts
