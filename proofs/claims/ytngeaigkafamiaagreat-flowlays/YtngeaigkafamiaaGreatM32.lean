/- Texts of the proof, merged: FAll. -/
import Derived.Test.YtngeaigkafamiaaGreatM31
namespace Go.Proofs.YtngeaigkafamiaaGreat
open Go.ChangeShapes Go.WideShapes Go.ChangeAt Go.RowKit
set_option maxRecDepth 100000
theorem boxOK_all {l : List Nd} {w0 : World} {D : Nat} {kv : Value} (hf : FormedT l) (hl : l.length ≤ 1000) (hKV : KV w0 kv l) (hD : w0.heap.size ≤ D) : ∀ k, BoxOK l w0 D kv k := by
  intro k
  induction k with
  | zero => intro n c W v ps hn hk; omega
  | succ k ih => exact box_any hf hl hKV hD ih
def flowO (l : List Nd) (n : Int) (c : Ct) : Option Bo := if (plAt l n).made && rngB c then boxO l l.length n c else none
def FlowAns (l : List Nd) (n : Int) (c : Ct) (W : World) (e : Ending) (W' : World) : Prop :=
  Seen W W' ∧ ((flowO l n c = none ∧ e = .returned (.tuple #[frv zFr, layv (.slice none 0 0) (.slice none 0 0) zPi 0, .bool false])) ∨
    (∃ b v a cap, flowO l n c = some b ∧ e = .returned (.tuple #[frv b.f, layv v (.slice a b.p.y.length cap) b.p b.hi, .bool true]) ∧ GR pdl 114 26 W' W.heap.size v b.l ∧ RP W' W.heap.size (.slice a b.p.y.length cap) b.p.y))
theorem made_nat {l : List Nd} {n : Int} (h : (plAt l n).made = true) : ∃ m : Nat, m < l.length ∧ n = (m : Int) := by
  cases hb : inB l n
  · rw [plAt_no hb] at h; cases h
  · obtain ⟨k, hk, rfl⟩ := inB_iff.1 hb
    exact ⟨k, hk, rfl⟩
set_option maxHeartbeats 4000000 in
theorem flowBox_any {l : List Nd} {kv : Value} (W : World) (hl : l.length ≤ 1000) (hKV : KV W kv l) (n cw : Int) (cau : Bool) (cn : Int) (crtl : Bool) :
    Calls Tryz.prog 7 #[kv, .int .i64 n, .int .i64 cw, .agg #[.bool cau, .int .i64 cn], .bool crtl] W (FlowAns l n ⟨cw, ⟨cau, cn⟩, crtl⟩ W) := by
  have HK := Lib.hid hKV
  have MK := Lib.hid fun w h => made_kin kv l n w (hKV.seen h)
  clear hKV
  obtain ⟨mb, hmb⟩ : ∃ x, (plAt l n).made = x := ⟨_, rfl⟩
  obtain ⟨rb, hrb⟩ : ∃ x, rngB ⟨cw, ⟨cau, cn⟩, crtl⟩ = x := ⟨_, rfl⟩
  have IR := Lib.hid fun w => inRange_any ⟨cw, ⟨cau, cn⟩, crtl⟩ w
  rw [hrb] at IR
  rw [hmb] at MK
  have HFO := Lib.hid (show flowO l n ⟨cw, ⟨cau, cn⟩, crtl⟩ = if mb && rb then boxO l l.length n ⟨cw, ⟨cau, cn⟩, crtl⟩ else none by unfold flowO; rw [hmb, hrb])
  have HMB := Lib.hid hmb
  clear hmb hrb
  obtain ⟨W4, hW4⟩ : ∃ W4, W4 = ((((W.alloc (.cells #[.bool cau, .int .i64 cn] 24)).alloc (.cells #[.int .i64 0, .int .i64 0, .int .i64 0, .int .i64 0, .int .i64 0, .int .i64 0, .int .i64 0, .int .i64 0, .int .i64 0, .int .i64 0, .int .i64 0, .int .i64 0, .int .i64 0, .int .i64 0, .int .i64 0, .int .i64 0, .bool false, .int .i64 0, .int .i64 0, .int .i64 0, .int .i64 0, .int .i64 0, .int .i64 0, .bool false, .int .i64 0] 37)).alloc (.cells #[.slice none 0 0, .slice none 0 0, .int .i64 0, .int .i64 0, .int .i64 0, .int .i64 0, .int .i64 0, .bool false, .int .i64 0] 43)).alloc (.cells #[.int .i64 cw, .bool cau, .int .i64 cn, .bool crtl] 82)) := ⟨_, rfl⟩
  have k1 : Blk W4 (W.heap.size + 1) (frl zFr) 37 := by rw [hW4]; simpa using ((blk_zero (W.alloc (.cells #[.bool cau, .int .i64 cn] 24))).alloc (.cells #[.slice none 0 0, .slice none 0 0, .int .i64 0, .int .i64 0, .int .i64 0, .int .i64 0, .int .i64 0, .bool false, .int .i64 0] 43)).alloc (.cells #[.int .i64 cw, .bool cau, .int .i64 cn, .bool crtl] 82)
  have k2 : Blk W4 (W.heap.size + 1 + 1) zlay 43 := by rw [hW4]; simpa using (blk_zlay ((W.alloc (.cells #[.bool cau, .int .i64 cn] 24)).alloc (.cells #[.int .i64 0, .int .i64 0, .int .i64 0, .int .i64 0, .int .i64 0, .int .i64 0, .int .i64 0, .int .i64 0, .int .i64 0, .int .i64 0, .int .i64 0, .int .i64 0, .int .i64 0, .int .i64 0, .int .i64 0, .int .i64 0, .bool false, .int .i64 0, .int .i64 0, .int .i64 0, .int .i64 0, .int .i64 0, .int .i64 0, .bool false, .int .i64 0] 37))).alloc (.cells #[.int .i64 cw, .bool cau, .int .i64 cn, .bool crtl] 82)
  have k3 : Blk W4 (W.heap.size + 1 + 1 + 1) [.int .i64 cw, .bool cau, .int .i64 cn, .bool crtl] 82 := by rw [hW4]; simpa using Blk.new (((W.alloc (.cells #[.bool cau, .int .i64 cn] 24)).alloc (.cells #[.int .i64 0, .int .i64 0, .int .i64 0, .int .i64 0, .int .i64 0, .int .i64 0, .int .i64 0, .int .i64 0, .int .i64 0, .int .i64 0, .int .i64 0, .int .i64 0, .int .i64 0, .int .i64 0, .int .i64 0, .int .i64 0, .bool false, .int .i64 0, .int .i64 0, .int .i64 0, .int .i64 0, .int .i64 0, .int .i64 0, .bool false, .int .i64 0] 37)).alloc (.cells #[.slice none 0 0, .slice none 0 0, .int .i64 0, .int .i64 0, .int .i64 0, .int .i64 0, .int .i64 0, .bool false, .int .i64 0] 43)) [.int .i64 cw, .bool cau, .int .i64 cn, .bool crtl] 82
  have s4 : Hid (Seen W W4) := by rw [hW4]; exact ((((Seen.refl W).alloc _).alloc _).alloc _).alloc _
  have S4 := s4
  have rc := k3.rules4
  have l3 := k3.lt
  have K1 := Lib.hid k1
  have K2 := Lib.hid k2
  clear k1 k2 k3 s4
  cases mb
  · have HNO : flowO l n ⟨cw, ⟨cau, cn⟩, crtl⟩ = none := by rw [HFO.out]; rfl
    clear IR HK HMB HFO
    go_enter Tryz.func7, Tryz.ntmps7
    go_upto_region 2 with fail
    rw [← hW4]
    clear hW4
    go_wp2_with (first
          | (go_at_call 18; refine (MK.out _ S4.out).mono ?_; rintro e w5 ⟨rfl, hb⟩; have S5 := Lib.hid (show Seen W4 w5 from hb); clear hb; have c5 := rc w5 S5.out; have K1F := Blk.seen K1.out S5.out; have K2F := Blk.seen K2.out S5.out; have SWF : Seen W w5 := S4.out.trans S5.out)
          | (refine wpList_buildF0 rfl rfl ?_)
          | (refine wpList_storeF rfl (.tmp 10) (.tmp 31) rfl (W.heap.size + 1) zFr zFr rfl rfl K1F ?_; intro Wa ba ta; have K2a := Blk.turns K2F ta (by omega))
          | (refine wpList_storeL rfl (.tmp 11) (.tmp 32) rfl (W.heap.size + 1 + 1) zlay (.slice none 0 0) (.slice none 0 0) rfl rfl zPi 0 rfl rfl rfl K2a ?_; intro Wb bb tb; have bc := ba.turns tb (by omega)))
    refine bodyPost_ret (results_three rfl rfl rfl rfl (run_loadF bc) (run_loadLay bb)) rfl ?_
    exact ⟨(SWF.turns ta (by omega)).turns tb (by omega), .inl ⟨HNO, rfl⟩⟩
  · cases rb
    · have HNO : flowO l n ⟨cw, ⟨cau, cn⟩, crtl⟩ = none := by rw [HFO.out]; rfl
      clear HK HMB HFO
      go_enter Tryz.func7, Tryz.ntmps7
      go_upto_region 2 with fail
      rw [← hW4]
      have c4 := rc W4 (Seen.refl W4)
      clear hW4
      go_wp2_with (first
          | (go_at_call 18; refine (MK.out _ S4.out).mono ?_; rintro e w5 ⟨rfl, hb⟩; have S5 := Lib.hid (show Seen W4 w5 from hb); clear hb; have c5 := rc w5 S5.out)
          | (go_at_call 19; refine (IR.out _).mono ?_; rintro e w6 ⟨rfl, hb⟩; have S6 := Lib.hid (show Seen W4 w6 from S5.out.trans hb); clear hb c5; have K1F := Blk.seen K1.out S6.out; have K2F := Blk.seen K2.out S6.out; have SWF : Seen W w6 := S4.out.trans S6.out)
          | (refine wpList_buildF0 rfl rfl ?_)
          | (refine wpList_storeF rfl (.tmp 10) (.tmp 31) rfl (W.heap.size + 1) zFr zFr rfl rfl K1F ?_; intro Wa ba ta; have K2a := Blk.turns K2F ta (by omega))
          | (refine wpList_storeL rfl (.tmp 11) (.tmp 32) rfl (W.heap.size + 1 + 1) zlay (.slice none 0 0) (.slice none 0 0) rfl rfl zPi 0 rfl rfl rfl K2a ?_; intro Wb bb tb; have bc := ba.turns tb (by omega)))
      refine bodyPost_ret (results_three rfl rfl rfl rfl (run_loadF bc) (run_loadLay bb)) rfl ?_
      exact ⟨(SWF.turns ta (by omega)).turns tb (by omega), .inl ⟨HNO, rfl⟩⟩
    · obtain ⟨m, hm, rfl⟩ := made_nat HMB.out
      obtain ⟨hf, B, rfl⟩ : FormedT l ∧ ∃ B, kv = .pointer (some ⟨B, 0, none⟩) := by
        rcases HK.out with ⟨_, h⟩ | ⟨hf, _, B, _, _, h, _⟩
        · rw [h] at hm; simp at hm
        · exact ⟨hf, B, h⟩
      have HF := Lib.hid hf
      clear hf
      obtain ⟨z, hz⟩ : ∃ z : Int, z = (m : Int) := ⟨_, rfl⟩
      have HNE : Hid (flowO l z ⟨cw, ⟨cau, cn⟩, crtl⟩ = boxO l l.length (m : Int) ⟨cw, ⟨cau, cn⟩, crtl⟩) := by unfold Hid; rw [hz, HFO.out]; rfl
      have HBX := Lib.hid (fun (w0 : World) (h : Seen W w0) (D : Nat) (hD : w0.heap.size ≤ D) (w : World) (hls : LS w0 D (.pointer (some ⟨B, 0, none⟩)) w (.slice none 0 0) []) => boxOK_all HF.out hl (HK.out.seen h) hD l.length m ⟨cw, ⟨cau, cn⟩, crtl⟩ w (.slice none 0 0) [] hm (by omega) hls (by have := end_le hm; simp only [List.length_nil]; omega))
      clear HF HFO HMB HK
      simp only [← hz] at HBX MK ⊢
      clear hz
      go_enter Tryz.func7, Tryz.ntmps7
      go_upto_region 2 with fail
      rw [← hW4]
      have c4 := rc W4 (Seen.refl W4)
      clear hW4
      go_upto_region 5 with (first
          | (go_at_call 18; refine (MK.out _ S4.out).mono ?_; rintro e w5 ⟨rfl, hb⟩; have S5 := Lib.hid (show Seen W4 w5 from hb); clear hb; have c5 := rc w5 S5.out)
          | (go_at_call 19; refine (IR.out _).mono ?_; rintro e w6 ⟨rfl, hb⟩; have S6 := Lib.hid (show Seen W4 w6 from S5.out.trans hb); clear hb c5; have c6 := rc w6 S6.out))
      obtain ⟨W7, hW7⟩ : ∃ x, x = w6.alloc (.cells #[.pointer (some ⟨B, 0, none⟩), .slice none 0 0] 85) := ⟨_, rfl⟩
      have LS7 : Hid (LS w6 w6.heap.size (.pointer (some ⟨B, 0, none⟩)) W7 (.slice none 0 0) []) := by rw [hW7]; exact ⟨(Seen.refl w6).alloc _, Blk.new w6 [.pointer (some ⟨B, 0, none⟩), .slice none 0 0] 85, GR.nil _ _⟩
      have S67 : Hid (Seen w6 W7) := LS7.out.seen
      rw [← hW7]
      clear hW7
      obtain ⟨D, hD⟩ : ∃ D, w6.heap.size = D := ⟨_, rfl⟩
      have lD : W.heap.size + 1 + 1 + 1 < D := by rw [← hD]; exact Nat.lt_of_lt_of_le l3 S6.out.size
      rw [hD] at LS7 ⊢
      have HD := Lib.hid hD
      clear hD
      have c7 := rc W7 (S6.out.trans S67.out)
      have SW6 := Lib.hid (S4.out.trans S6.out)
      have K17 := Lib.hid (Blk.seen K1.out S6.out)
      have K27 := Lib.hid (Blk.seen K2.out S6.out)
      clear S4 S6 K1 K2 rc l3 c6
      go_upto_region 6 with (first
        | (go_at_call 20; refine (HBX.out _ SW6.out _ (Nat.le_of_eq HD.out) _ LS7.out).mono ?_; clear HBX c7; rintro e w8 ⟨F, ra, rm, rc, rP, rhi, ok, v', ps', rfl, ls8, mv8, han⟩
           have LS8 := Lib.hid ls8
           have HAN := Lib.hid han
           have SB8 := Lib.hid (LS7.out.below mv8 (Nat.le_of_eq HD.out))
           have K18 := Lib.hid (Blk.moves (Blk.seen K17.out S67.out) LS7.out (by decide) (by decide) mv8)
           have K28 := Lib.hid (Blk.moves (Blk.seen K27.out S67.out) LS7.out (by decide) (by decide) mv8)
           have l7 : D < W7.heap.size := LS7.out.blk.lt
           have l8 : W7.heap.size ≤ w8.heap.size := mv8.size
           clear ls8 mv8 han LS7)
        | (refine wpList_storeF rfl (.tmp 15) (.tmp 39) rfl w8.heap.size zFr F rfl rfl (by simpa using (blk_zero w8).alloc (.cells #[.slice none 0 0, .slice none 0 0, .int .i64 0, .int .i64 0, .int .i64 0, .int .i64 0, .int .i64 0, .bool false, .int .i64 0] 43)) ?_; intro W9 b9 t9)
        | (refine wpList_storeL rfl (.tmp 16) (.tmp 40) rfl (w8.heap.size + 1) zlay (.slice none 0 0) (.slice ra rm rc) rfl (oneS _ _ _) rP rhi rfl rfl rfl ((show Blk ((w8.alloc (.cells #[.int .i64 0, .int .i64 0, .int .i64 0, .int .i64 0, .int .i64 0, .int .i64 0, .int .i64 0, .int .i64 0, .int .i64 0, .int .i64 0, .int .i64 0, .int .i64 0, .int .i64 0, .int .i64 0, .int .i64 0, .int .i64 0, .bool false, .int .i64 0, .int .i64 0, .int .i64 0, .int .i64 0, .int .i64 0, .int .i64 0, .bool false, .int .i64 0] 37)).alloc (.cells #[.slice none 0 0, .slice none 0 0, .int .i64 0, .int .i64 0, .int .i64 0, .int .i64 0, .int .i64 0, .bool false, .int .i64 0] 43)) (w8.heap.size + 1) zlay 43 by simpa using blk_zlay (w8.alloc (.cells #[.int .i64 0, .int .i64 0, .int .i64 0, .int .i64 0, .int .i64 0, .int .i64 0, .int .i64 0, .int .i64 0, .int .i64 0, .int .i64 0, .int .i64 0, .int .i64 0, .int .i64 0, .int .i64 0, .int .i64 0, .int .i64 0, .bool false, .int .i64 0, .int .i64 0, .int .i64 0, .int .i64 0, .int .i64 0, .int .i64 0, .bool false, .int .i64 0] 37))).turns t9 (by omega)) ?_; intro W10 b10 t10))
      obtain ⟨WA, hWA⟩ : ∃ x, x = ((w8.alloc (.cells #[.int .i64 0, .int .i64 0, .int .i64 0, .int .i64 0, .int .i64 0, .int .i64 0, .int .i64 0, .int .i64 0, .int .i64 0, .int .i64 0, .int .i64 0, .int .i64 0, .int .i64 0, .int .i64 0, .int .i64 0, .int .i64 0, .bool false, .int .i64 0, .int .i64 0, .int .i64 0, .int .i64 0, .int .i64 0, .int .i64 0, .bool false, .int .i64 0] 37)).alloc (.cells #[.slice none 0 0, .slice none 0 0, .int .i64 0, .int .i64 0, .int .i64 0, .int .i64 0, .int .i64 0, .bool false, .int .i64 0] 43)) := ⟨_, rfl⟩
      have z15 : Blk WA w8.heap.size (frl zFr) 37 := by rw [hWA]; simpa using (blk_zero w8).alloc (.cells #[.slice none 0 0, .slice none 0 0, .int .i64 0, .int .i64 0, .int .i64 0, .int .i64 0, .int .i64 0, .bool false, .int .i64 0] 43)
      have z16 : Blk WA (w8.heap.size + 1) zlay 43 := by rw [hWA]; simpa using blk_zlay (w8.alloc (.cells #[.int .i64 0, .int .i64 0, .int .i64 0, .int .i64 0, .int .i64 0, .int .i64 0, .int .i64 0, .int .i64 0, .int .i64 0, .int .i64 0, .int .i64 0, .int .i64 0, .int .i64 0, .int .i64 0, .int .i64 0, .int .i64 0, .bool false, .int .i64 0, .int .i64 0, .int .i64 0, .int .i64 0, .int .i64 0, .int .i64 0, .bool false, .int .i64 0] 37))
      have s8A : Seen w8 WA := by rw [hWA]; exact ((Seen.refl w8).alloc _).alloc _
      rw [← hWA] at t9
      clear hWA
      have z16b := z16.turns t9 (by omega)
      have SW10 := Lib.hid (((SW6.out.trans (SB8.out.trans s8A)).turns t9 (by have := SW6.out.size; have := HD.out; omega)).turns t10 (by have := SW6.out.size; have := HD.out; omega))
      have K110 := Lib.hid (((K18.out.seen s8A).turns t9 (by omega)).turns t10 (by omega))
      have K210 := Lib.hid (((K28.out.seen s8A).turns t9 (by omega)).turns t10 (by omega))
      have LS10 := Lib.hid (((LS8.out.seen' s8A).turns z15 (by decide) (by decide) (by have := HD.out; omega) t9).turns z16b (by decide) (by decide) (by have := HD.out; omega) t10)
      have B9 := Lib.hid (b9.turns t10 (by omega))
      have B10 := Lib.hid b10
      cases ok
      · have HNO : flowO l z ⟨cw, ⟨cau, cn⟩, crtl⟩ = none := by
          rw [HNE.out]
          rcases HAN.out with ⟨h, _⟩ | ⟨_, _, h, _⟩
          · exact h
          · cases h
        have K1F := K110.out
        have K2F := K210.out
        have SWF := SW10.out
        clear HAN HNE LS10 B9 B10 K110 K210 SW10 z15 z16 z16b s8A t9 t10 b9 b10 LS8 SB8 K18 K28 MK IR S67 SW6 K17 K27
        go_wp2_with (first
          | (refine wpList_buildF0 rfl rfl ?_)
          | (refine wpList_storeF rfl (.tmp 10) (.tmp 44) rfl (W.heap.size + 1) zFr zFr rfl rfl K1F ?_; intro Wa ba ta; have K2a := Blk.turns K2F ta (by omega))
          | (refine wpList_storeL rfl (.tmp 11) (.tmp 45) rfl (W.heap.size + 1 + 1) zlay (.slice none 0 0) (.slice none 0 0) rfl rfl zPi 0 rfl rfl rfl K2a ?_; intro Wb bb tb; have bc := ba.turns tb (by omega)))
        refine bodyPost_ret (results_three rfl rfl rfl rfl (run_loadF bc) (run_loadLay bb)) rfl ?_
        exact ⟨(SWF.turns ta (by omega)).turns tb (by omega), .inl ⟨HNO, rfl⟩⟩
      · obtain ⟨b, hb, rfl, rfl, rfl, hps, rfl, rp⟩ : ∃ b, boxO l l.length (m : Int) ⟨cw, ⟨cau, cn⟩, crtl⟩ = some b ∧ F = b.f ∧ rP = b.p ∧ rhi = b.hi ∧ ps' = b.l ∧ rm = b.p.y.length ∧ RP w8 W7.heap.size (.slice ra rm rc) b.p.y := by
          rcases HAN.out with ⟨_, h⟩ | ⟨b, h1, _, h2, h3, h4, h5, h6, h7⟩
          · cases h
          · exact ⟨b, h1, h2, h3, h4, by simpa using h5, h6, h7⟩
        have HSO : Hid (flowO l z ⟨cw, ⟨cau, cn⟩, crtl⟩ = some b) := by unfold Hid; rw [HNE.out]; exact hb
        have rp10 := Lib.hid (rp_turns (rp_turns (RP.seen rp s8A) z15 (by decide) t9) z16b (by decide) t10)
        subst hps
        obtain ⟨va, vc, rfl, -, -⟩ := GR.slice LS10.out.row pdl_length zPd
        clear HAN HNE LS8 SB8 K18 K28 MK IR S67 SW6 K17 K27 z15 z16 z16b s8A t9 t10 b9 b10 hb rp
        have c10 := LS10.out.blk.cell 1
        have d10 : W10.cell? ⟨w8.heap.size + 1, 0, none⟩ = some (.slice none 0 0) := B10.out.cell 0
        have e10 := B10.out.free
        go_upto_region 9 with fail
        rename_i hKR
        obtain ⟨V, hV⟩ : ∃ V, V = W10.setCell ⟨w8.heap.size + 1, 0, none⟩ (.slice va b.l.length vc) := ⟨_, rfl⟩
        have tV : Turns (w8.heap.size + 1) W10 V := by rw [hV]; exact Turns.set _ _ _ _
        have f0' : Blk V (w8.heap.size + 1) (layl (.slice va b.l.length vc) (.slice ra b.p.y.length rc) b.p b.hi) 43 := by rw [hV]; exact B10.out.set 0 (.slice va b.l.length vc)
        rw [← hV]
        clear hV c10 d10 e10
        have l0 := Blk.drew f0'
        have f0 := Blk.drew (B9.out.turns tV (by omega))
        have q1 := Blk.drew (K110.out.turns tV (by omega))
        have q20 := Blk.drew (K210.out.turns tV (by omega))
        have hl10 : D < W10.heap.size := LS10.out.blk.lt
        have lsV := LS.turns LS10.out B10.out (by decide) (by decide) (by have := HD.out; omega) tV
        have lsD := lsV.seen' (Seen.refl V).drew
        have rpV := RP.seen (rp_turns rp10.out B10.out (by decide) tV) (Seen.refl V).drew
        have swV := (SW10.out.turns tV (by omega)).trans (Seen.refl V).drew
        have T1 := turns_sets V.drew (W.heap.size + 1) 0 (frl b.f)
        have f1 := Blk.turns f0 T1 (by omega)
        have l1 := Blk.turns l0 T1 (by omega)
        have q2 := Blk.turns q20 T1 (by omega)
        have T2 := turns_sets (V.drew.setCells (W.heap.size + 1) 0 (frl b.f)) (W.heap.size + 1 + 1) 0 (layl (.slice va b.l.length vc) (.slice ra b.p.y.length rc) b.p b.hi)
        have f2 := Blk.turns f1 T2 (by omega)
        have l2 := Blk.turns l1 T2 (by omega)
        have g1 := Blk.turns (blkFr b.f q1 rfl) T2 (by omega)
        have g2 := blkLay (.slice va b.l.length vc) (.slice ra b.p.y.length rc) b.p b.hi q2 rfl
        have sw3 := Lib.hid ((swV.turns T1 (by omega)).turns T2 (by omega))
        have rw3 := Lib.hid (row_more (ownsRow_keeps (ownsRow_keeps lsD.row (fun g hg => T1.block g (lsD.row.lt g hg).2 (by have := (lsD.row.lt g hg).1; omega))) (fun g hg => T2.block g (by have := (lsD.row.lt g hg).2; have := T1.size; omega) (by have := (lsD.row.lt g hg).1; omega))) (show W.heap.size ≤ D + 1 by omega))
        have rp3 := Lib.hid (row_more (rp_turns (rp_turns rpV q1 (by decide) T1) q2 (by decide) T2) (show W.heap.size ≤ W7.heap.size by omega))
        clear LS10 B9 B10 K110 K210 SW10 rp10 lsV lsD rpV swV
        refine wp_region_held_drew (S := fun w' => Blk w' w8.heap.size (frl b.f) 37 ∧ Blk w' (w8.heap.size + 1) (layl (.slice va b.l.length vc) (.slice ra b.p.y.length rc) b.p b.hi) 43) (by kernel_rfl) ⟨f0, l0⟩ (fun _ => ?_)
        refine ZU 0 (some 49) (frv b.f) (fun _ hS => run_by (Instr.loadAt 37 (.pointer (some ⟨w8.heap.size, 0, none⟩))) (by kernel_rfl) (lda47 (vs := frl b.f) hS.1.range rfl)) ⟨f0, l0⟩ ?_
        simp only [Z1,Z2,Z3,Z4]
        refine ZU 1 (some 50) (layv (.slice va b.l.length vc) (.slice ra b.p.y.length rc) b.p b.hi) (fun _ hS => run_by (Instr.loadAt 43 (.pointer (some ⟨(w8.heap.size + 1), 0, none⟩))) (by kernel_rfl) (lda53 (vs := layl (.slice va b.l.length vc) (.slice ra b.p.y.length rc) b.p b.hi) hS.2.range rfl)) ⟨f0, l0⟩ ?_
        simp only [Z1,Z2,Z3,Z4]
        refine ZK 2 none (run_skip_by (Instr.storeAt 37 (.pointer (some ⟨(W.heap.size + 1), 0, none⟩)) (frv b.f)) (by kernel_rfl) (stFr b.f q1 rfl)) (⟨f1, l1⟩) ?_
        simp only [Act.put]
        refine ZK 3 none (run_skip_by (Instr.storeAt 43 (.pointer (some ⟨(W.heap.size + 1 + 1), 0, none⟩)) (layv (.slice va b.l.length vc) (.slice ra b.p.y.length rc) b.p b.hi)) (by kernel_rfl) (stLay (.slice va b.l.length vc) (.slice ra b.p.y.length rc) (oneS _ _ _) (oneS _ _ _) b.p b.hi q2 rfl)) (⟨f2, l2⟩) ?_
        simp only [Act.put]
        refine ZT 4 (some 12) (.bool true) ⟨f2, l2⟩ ?_
        simp only [Z1,Z2,Z3,Z4]
        refine wpAnyH_done (by kernel_rfl) ?_ _
        refine hKR _ _ (wp_ret ?_)
        show bodyPost Tryz.prog Tryz.f7 _ Exit.ret _ _
        refine bodyPost_ret (results_three rfl rfl rfl rfl (run_loadF g1) (run_loadLay g2)) rfl ?_
        exact ⟨sw3.out, .inr ⟨b, .slice va b.l.length vc, ra, rc, HSO.out, rfl, rw3.out, rp3.out⟩⟩
end Go.Proofs.YtngeaigkafamiaaGreat

