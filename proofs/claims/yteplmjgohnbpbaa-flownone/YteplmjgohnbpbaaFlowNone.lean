/- Proved: for every list of nodes, any node, any container the law FlowNone returns true, and its arguments read afterwards as before; no conditions. -/
import Derived.Test.YteplmjgohnbpbaaRows
import Derived.WalkKit
import Derived.Test.YteplmjgohnbpbaaM41
import Derived.Test.YteplmjgohnbpbaaM36
import Derived.Test.YteplmjgohnbpbaaM42
import Derived.Test.YteplmjgohnbpbaaM12
import Derived.Test.YteplmjgohnbpbaaM1
import Derived.ProofKit
import Derived.OpenShut
import Derived.ShutString
import Derived.ChangeOld
import Derived.Below
namespace Go.Proofs.Yteplmjgohnbpbaa.flowNone
open Go.ChangeShapes Go.WideShapes Go.ChangeAt Go.RowKit
set_option linter.unusedVariables false
theorem own : ownKnob Try.prog.godebug = none := by kernel_rfl
theorem laidOut : laidOutB Try.prog = true := by kernel_rfl
set_option maxRecDepth 100000
section
variable {H : Type} {enc : TypeId × Value → H} {w : World} {base : Nat} {spare : Nat → Bool} {held : Bool} {r : Reach} {b0 : Nat} {v : Value} {d : DataW H} {p : List MemPlace}
theorem open_int3 (hv : Value.okWide Try.prog w r b0 3 v) (h : DataW.Trod enc Try.prog w base spare held 3 v d p) : ∃ n : Int, v = .int .i64 n ∧ -9223372036854775808 ≤ n ∧ n < 9223372036854775808 := by
  obtain ⟨n, rfl, rfl, rfl, wn⟩ := open_int Try.underlying3 hv h
  exact ⟨n, rfl, wf_i64 wn⟩
end
/-- Box's answer, with what the law asks of it. -/
theorem box_short {l : List Nd} {n : Int} {c : Ct} {W W' : World} {e : Ending} (h : FlowAns l n c W e W') :
    Seen W W' ∧ ∃ F va vn vc ra rm rc P hi ok, e = .returned (.tuple #[frv F, layv (.slice va vn vc) (.slice ra rm rc) P hi, .bool ok]) ∧ ((ok = false ∧ vn = 0) ∨ (ok = true ∧ (plAt l n).made = true ∧ rngB c = true)) := by
  obtain ⟨hs, ⟨h, rfl⟩ | ⟨b, v, a, cap, h, rfl, hg, hr⟩⟩ := h
  · exact ⟨hs, _, none, 0, 0, none, 0, 0, _, _, false, rfl, .inl ⟨rfl, rfl⟩⟩
  · obtain ⟨va, vc, rfl, -, -⟩ := hg.slice pdl_length zPd
    refine ⟨hs, _, va, _, vc, a, _, cap, _, _, true, rfl, .inr ⟨rfl, ?_⟩⟩
    unfold flowO at h
    split at h
    · rename_i h'
      simpa using h'
    · cases h
theorem box_nil {n : Int} {c : Ct} {W W' : World} {e : Ending} (h : FlowAns [] n c W e W') :
    Seen W W' ∧ e = .returned (.tuple #[frv zFr, layv (.slice none 0 0) (.slice none 0 0) zPi 0, .bool false]) := by
  obtain ⟨hs, ⟨_, rfl⟩ | ⟨b, v, a, cap, h, rfl, hg, hr⟩⟩ := h
  · exact ⟨hs, rfl⟩
  · unfold flowO at h
    rw [plAt_no (by unfold inB; simp)] at h
    cases h
theorem made_same (l : List Nd) (n : Int) : (inB l n && madeB l n) = (plAt l n).made := by
  cases hb : inB l n
  · rw [plAt_no hb]; rfl
  · rw [(plAt_made hb).1]; rfl
set_option maxHeartbeats 8000000 in
theorem walk (a : Option Addr) (n c : Nat) (l : List Nd) (i x : Int) (q : Sz) (w : World) (o : NS w a n l ∧ (∀ q ∈ l, OkN q) ∧ n ≤ c ∧ (a = none → c = 0)) (hi : -9223372036854775808 ≤ i ∧ i < 9223372036854775808) (hx : -9223372036854775808 ≤ x ∧ x < 9223372036854775808) (hq : okN q.n) :
    Calls Try.prog 4 #[.slice a n c, .int .i64 i, .int .i64 x, .agg #[.bool q.au, .int .i64 q.n]] w fun e w' => e = .returned (.bool true) ∧ Below w.heap.size w w' := by
  have HS := Lib.hid o.1
  clear o hi hx hq
  obtain ⟨au, hn⟩ := q
  obtain ⟨W, hW⟩ : ∃ W, W = w.alloc (.cells #[.bool au, .int .i64 hn] 24) := ⟨_, rfl⟩
  have k : Blk W w.heap.size [.bool au, .int .i64 hn] 24 := by rw [hW]; exact Blk.new w _ _
  have SW : Hid (Seen w W) := by rw [hW]; exact (Seen.refl w).alloc _
  have lw := k.lt
  have K := Lib.hid k
  clear k
  have A0 := Lib.hid (awake_any14 W)
  by_cases hbig : (n : Int) > 10
  · go_enter Try.func4, Try.ntmps4
    go_upto_region 1 with fail
    rw [← hW]
    clear hW
    go_wp2_with (first
      | (go_at_call 6; refine A0.out.mono ?_; clear A0; rintro _ w1 ⟨rfl, hs1⟩; have S1 : Hid (Seen W w1) := hs1; clear hs1)
      | (go_at_call 6; refine (awake_any14 w1).mono ?_; rintro _ w2 ⟨rfl, hs2⟩; have S2 : Hid (Seen W w2) := S1.out.trans hs2; clear hs2))
    go_ret
    exact ⟨rfl, SW.out.trans S2.out⟩
  · have HN : n ≤ 10 := by omega
    have HC := Lib.hid fun w' h' => refCheck_any a n c l w' (HS.out.seen h') (by omega)
    by_cases hc : checkT l = 0
    · have hf := check_formed hc
      rw [hc] at HC
      have HO := Lib.hid fun w' h' => of_yes a n c l w' (HS.out.seen h') hc hf (by omega)
      have HR : Hid (∀ w', Seen w w' → Calls Try.prog 10 #[.slice a n c, .int .i64 i] w' fun e w'' => e = .returned (.bool (plAt l i).made) ∧ w'' = w') := fun w' h' => by
        have := refMade_any a n c l i w' (HS.out.seen h') hf (by omega)
        rwa [made_same] at this
      have hll : n = l.length := by have := HS.out.1; omega
      have HB := Lib.hid fun v w' (h' : KV w' v l) => flowBox_any w' (by omega) h' i x au hn false
      have HB0 := Lib.hid fun w' => flowBox_any w' (l := []) (kv := .pointer none) (by simp) (.inl ⟨rfl, rfl⟩) i x au hn true
      have HF := Lib.hid hf
      have HL : Hid (l.length ≤ 65535) := by unfold Hid; omega
      clear HS hf hc hll
      obtain ⟨mb, hmb⟩ : ∃ y, (plAt l i).made = y := ⟨_, rfl⟩
      rw [hmb] at HR
      have HMB := Lib.hid hmb
      clear hmb
      go_enter Try.func4, Try.ntmps4
      go_upto_region 1 with fail
      rw [← hW]
      clear hW
      go_upto_region 8 with (first
        | (go_at_call 6; refine A0.out.mono ?_; clear A0; rintro _ w1 ⟨rfl, hs1⟩; have S1 : Hid (Seen W w1) := hs1; clear hs1)
        | (go_at_call 7; refine (HC.out w1 (SW.out.trans S1.out)).mono ?_; clear HC; rintro _ w2 ⟨rfl, hs2⟩; have S2 : Hid (Seen W w2) := S1.out.trans hs2; clear hs2)
        | (go_at_call 8; refine (HO.out w2 (SW.out.trans S2.out)).mono ?_; clear HO; rintro _ w3 ⟨B, G, H, rfl, _, hk3, hs3⟩; have S3 : Hid (Seen W w3) := S2.out.trans hs3; have K3 := Lib.hid (hk3.kv HF.out HL.out); clear hs3 hk3; have c3 := K.out.rules2 w3 S3.out)
        | (go_at_call 12; refine (HB.out _ w3 K3.out).mono ?_; clear HB c3; rintro e w4 h4; obtain ⟨hs4, F, va, vn, vc, ra, rm, rc, P, hi, ok, rfl, hok⟩ := box_short h4; have S4 := Lib.hid (S3.out.trans hs4); have HOK := Lib.hid hok; clear h4 hs4 hok)
        | (refine wpList_storeF rfl (.tmp 11) (.tmp 45) rfl w4.heap.size zFr F rfl rfl (by simpa using (blk_zero w4).alloc (.cells #[.slice none 0 0, .slice none 0 0, .int .i64 0, .int .i64 0, .int .i64 0, .int .i64 0, .int .i64 0, .bool false, .int .i64 0] 53)) ?_; intro w5 b5 t5)
        | (refine wpList_storeL rfl (.tmp 12) (.tmp 46) rfl (w4.heap.size + 1) zlay (.slice va vn vc) (.slice ra rm rc) (oneS _ _ _) (oneS _ _ _) P hi rfl rfl rfl ((show Blk ((w4.alloc (.cells #[.int .i64 0, .int .i64 0, .int .i64 0, .int .i64 0, .int .i64 0, .int .i64 0, .int .i64 0, .int .i64 0, .int .i64 0, .int .i64 0, .int .i64 0, .int .i64 0, .int .i64 0, .int .i64 0, .int .i64 0, .int .i64 0, .bool false, .int .i64 0, .int .i64 0, .int .i64 0, .int .i64 0, .int .i64 0, .int .i64 0, .bool false, .int .i64 0] 47)).alloc (.cells #[.slice none 0 0, .slice none 0 0, .int .i64 0, .int .i64 0, .int .i64 0, .int .i64 0, .int .i64 0, .bool false, .int .i64 0] 53)) (w4.heap.size + 1) zlay 53 by simpa using blk_zlay (w4.alloc (.cells #[.int .i64 0, .int .i64 0, .int .i64 0, .int .i64 0, .int .i64 0, .int .i64 0, .int .i64 0, .int .i64 0, .int .i64 0, .int .i64 0, .int .i64 0, .int .i64 0, .int .i64 0, .int .i64 0, .int .i64 0, .int .i64 0, .bool false, .int .i64 0, .int .i64 0, .int .i64 0, .int .i64 0, .int .i64 0, .int .i64 0, .bool false, .int .i64 0] 47))).turns t5 (by omega)) ?_; intro w6 b6 t6
           have S6 := Lib.hid ((((S4.out.alloc _).alloc _).turns t5 (by have := S4.out.size; omega)).turns t6 (by have := S4.out.size; omega))
           have L6 := Lib.hid b6
           have o6 : w4.heap.size + 1 < w6.heap.size := b6.lt
           clear b5 t5 b6 t6
           have c6 := K.out.rules2 w6 S6.out)
        | (go_at_call 12; refine (HB0.out w6).mono ?_; clear HB0 c6; rintro e w7 h7; obtain ⟨hs7, rfl⟩ := box_nil h7; have S67 := Lib.hid hs7; have o7 : w6.heap.size ≤ w7.heap.size := hs7.size; clear h7 hs7)
        | (refine wpList_storeF rfl (.tmp 15) (.tmp 54) rfl w7.heap.size zFr zFr rfl rfl (by simpa using (blk_zero w7).alloc (.cells #[.slice none 0 0, .slice none 0 0, .int .i64 0, .int .i64 0, .int .i64 0, .int .i64 0, .int .i64 0, .bool false, .int .i64 0] 53)) ?_; intro w8 b8 t8)
        | (refine wpList_storeL rfl (.tmp 16) (.tmp 55) rfl (w7.heap.size + 1) zlay (.slice none 0 0) (.slice none 0 0) rfl rfl zPi 0 rfl rfl rfl ((show Blk ((w7.alloc (.cells #[.int .i64 0, .int .i64 0, .int .i64 0, .int .i64 0, .int .i64 0, .int .i64 0, .int .i64 0, .int .i64 0, .int .i64 0, .int .i64 0, .int .i64 0, .int .i64 0, .int .i64 0, .int .i64 0, .int .i64 0, .int .i64 0, .bool false, .int .i64 0, .int .i64 0, .int .i64 0, .int .i64 0, .int .i64 0, .int .i64 0, .bool false, .int .i64 0] 47)).alloc (.cells #[.slice none 0 0, .slice none 0 0, .int .i64 0, .int .i64 0, .int .i64 0, .int .i64 0, .int .i64 0, .bool false, .int .i64 0] 53)) (w7.heap.size + 1) zlay 53 by simpa using blk_zlay (w7.alloc (.cells #[.int .i64 0, .int .i64 0, .int .i64 0, .int .i64 0, .int .i64 0, .int .i64 0, .int .i64 0, .int .i64 0, .int .i64 0, .int .i64 0, .int .i64 0, .int .i64 0, .int .i64 0, .int .i64 0, .int .i64 0, .int .i64 0, .bool false, .int .i64 0, .int .i64 0, .int .i64 0, .int .i64 0, .int .i64 0, .int .i64 0, .bool false, .int .i64 0] 47))).turns t8 (by omega)) ?_; intro w9 b9 t9
           have S69 := Lib.hid ((((S67.out.alloc _).alloc _).turns t8 (by omega)).turns t9 (by omega))
           have L9 := Lib.hid b9
           clear b8 t8 b9 t9 S67
           have c9 := K.out.rules2 w9 (S6.out.trans S69.out))
        | (go_at_call 14; refine (withNil_any w9 i x au hn true).mono ?_; clear c9; rintro e w10 ⟨rfl, hs10⟩; have S910 := Lib.hid (show Seen w9 w10 from hs10); clear hs10)
        | (refine wpList_storeF rfl (.tmp 18) (.tmp 63) rfl w10.heap.size zFr zFr rfl rfl (blk_zero w10) ?_; intro w11 b11 t11
           have S911 := Lib.hid ((S910.out.alloc _).turns t11 (by have := S910.out.size; omega))
           clear b11 t11 S910))
      have L6c : w11.cell? ⟨w4.heap.size + 1, 0, none⟩ = some (.slice va vn vc) := (L6.out.seen (S69.out.trans S911.out)).cell 0
      have L9c : w11.cell? ⟨w7.heap.size + 1, 0, none⟩ = some (.slice none 0 0) := (L9.out.seen S911.out).cell 0
      have c11 := K.out.rules2 w11 (S6.out.trans (S69.out.trans S911.out))
      have SF := Lib.hid (SW.out.trans (S6.out.trans (S69.out.trans S911.out)))
      clear L6 L9 S69 S911 S1 S2 S3 S4 S6 K SW o6 o7 HF HL K3 lw
      rcases HOK.out with ⟨rfl, rfl⟩ | ⟨rfl, hm, hr⟩
      · clear HOK HMB
        by_cases h1 : x < 0
        · go_wp2_with (go_at_call 10; refine (HR.out w11 SF.out).mono ?_; clear HR; rintro _ w12 ⟨rfl, hw⟩; rw [hw]; clear hw)
          go_ret
          exact ⟨rfl, SF.out⟩
        · by_cases h2 : x > 1125899906842624
          · go_wp2_with (go_at_call 10; refine (HR.out w11 SF.out).mono ?_; clear HR; rintro _ w12 ⟨rfl, hw⟩; rw [hw]; clear hw)
            go_ret
            exact ⟨rfl, SF.out⟩
          · cases au
            · by_cases h3 : hn < 0
              · go_wp2_with (go_at_call 10; refine (HR.out w11 SF.out).mono ?_; clear HR; rintro _ w12 ⟨rfl, hw⟩; rw [hw]; clear hw)
                go_ret
                exact ⟨rfl, SF.out⟩
              · by_cases h4 : hn > 1125899906842624
                · go_wp2_with (go_at_call 10; refine (HR.out w11 SF.out).mono ?_; clear HR; rintro _ w12 ⟨rfl, hw⟩; rw [hw]; clear hw)
                  go_ret
                  exact ⟨rfl, SF.out⟩
                · cases mb
                  · go_wp2_with (go_at_call 10; refine (HR.out w11 SF.out).mono ?_; clear HR; rintro _ w12 ⟨rfl, hw⟩; rw [hw]; clear hw)
                    go_ret
                    exact ⟨rfl, SF.out⟩
                  · go_wp2_with (go_at_call 10; refine (HR.out w11 SF.out).mono ?_; clear HR; rintro _ w12 ⟨rfl, hw⟩; rw [hw]; clear hw)
                    go_ret
                    exact ⟨rfl, SF.out⟩
            · cases mb
              · go_wp2_with (go_at_call 10; refine (HR.out w11 SF.out).mono ?_; clear HR; rintro _ w12 ⟨rfl, hw⟩; rw [hw]; clear hw)
                go_ret
                exact ⟨rfl, SF.out⟩
              · go_wp2_with (go_at_call 10; refine (HR.out w11 SF.out).mono ?_; clear HR; rintro _ w12 ⟨rfl, hw⟩; rw [hw]; clear hw)
                go_ret
                exact ⟨rfl, SF.out⟩
      · rw [HMB.out] at hm
        subst hm
        clear HOK HMB
        unfold rngB at hr
        simp only [Bool.and_eq_true, decide_eq_true_eq] at hr
        obtain ⟨h1, h2, h3, h4⟩ := hr
        have h1' : ¬ x < 0 := by omega
        have h2' : ¬ x > 1125899906842624 := by omega
        cases au
        · have h3' : ¬ hn < 0 := by simp [orV] at h3; omega
          have h4' : ¬ hn > 1125899906842624 := by simp [orV] at h4; omega
          clear h1 h2 h3 h4
          go_wp2_with (go_at_call 10; refine (HR.out w11 SF.out).mono ?_; clear HR; rintro _ w12 ⟨rfl, hw⟩; rw [hw]; clear hw)
          go_ret
          exact ⟨rfl, SF.out⟩
        · clear h1 h2 h3 h4
          go_wp2_with (go_at_call 10; refine (HR.out w11 SF.out).mono ?_; clear HR; rintro _ w12 ⟨rfl, hw⟩; rw [hw]; clear hw)
          go_ret
          exact ⟨rfl, SF.out⟩
    · obtain ⟨C, hC⟩ : ∃ C, checkT l = C := ⟨_, rfl⟩
      rw [hC] at HC hc
      have hb : (C == 0) = false := by simpa using hc
      have hb2 : (C != 0) = true := by simpa using hc
      clear hC hc HS
      go_enter Try.func4, Try.ntmps4
      go_upto_region 1 with fail
      rw [← hW]
      clear hW
      go_wp2_with (first
        | (go_at_call 6; refine A0.out.mono ?_; clear A0; rintro _ w1 ⟨rfl, hs1⟩; have S1 : Hid (Seen W w1) := hs1; clear hs1)
        | (go_at_call 7; refine (HC.out w1 (SW.out.trans S1.out)).mono ?_; clear HC; rintro _ w2 ⟨rfl, hs2⟩; have S2 : Hid (Seen W w2) := S1.out.trans hs2; clear hs2)
        | (go_at_call 6; refine (awake_any14 w2).mono ?_; rintro _ w3 ⟨rfl, hs3⟩; have S3 : Hid (Seen W w3) := S2.out.trans hs3; clear hs3))
      go_ret
      exact ⟨rfl, SW.out.trans S3.out⟩
/-! ### The row's step. -/
set_option maxRecDepth 100000 in
theorem lifted (os : Os) (started : os.Started) (H : Type) (enc : TypeId × Value → H) :
    ReturnsInHanded {} Try.checked os 4 .any (Rows.flowNoneSpec.pre6 enc Try.prog Try.f4 Rows.flowNoneRow.domain false) (Rows.flowNoneSpec.post enc Try.prog Try.f4 false true false false) := by
  refine returnsInHanded_of_change (C := Try.checked) own started (by kernel_rfl) Try.func4
    (ChangeSpec.witness6 (enc := enc) (C := Try.checked) false ⟨#[], #[.slice none 0 0, .int .i64 0, .int .i64 0, .agg #[.bool false, .int .i64 0]], []⟩ 8 (by kernel_rfl) (by kernel_rfl) (by kernel_rfl) (by kernel_rfl)) ?_
  intro W base args ds gs before hval0 hW hcnd _
  have hval : ∀ (j : Nat) t v, Try.f4.params[j]? = some t → args[j]? = some v → Value.okWide Try.prog W .any base t v := hval0
  have hW' := hW
  obtain ⟨p, q, hA0, hV, rfl, hfz, hnd⟩ := hW
  have hA : DataW.TrodAll enc Try.prog W 0 (fun _ => true) true Try.f4.params.toList args.toList ds p := hA0
  rw [Try.params4] at hA hval
  obtain ⟨v0, vs0, d0, ds0, p0, q0, hargs, rfl, rfl, h0, r0⟩ := trodAll_cons hA
  obtain ⟨v1, vs1, d1, ds1, p1, q1, rfl, rfl, rfl, h1, r1⟩ := trodAll_cons r0
  obtain ⟨v2, vs2, d2, ds2, p2, q2, rfl, rfl, rfl, h2, r2⟩ := trodAll_cons r1
  obtain ⟨v3, vs3, d3, ds3, p3, q3, rfl, rfl, rfl, h3, r3⟩ := trodAll_cons r2
  obtain ⟨rfl, rfl, rfl⟩ := trodAll_nil r3
  obtain rfl : args = #[v0, v1, v2, v3] := by cases args; simp_all
  obtain ⟨rfl, rfl⟩ := trodVars_none hV
  have k0 := h0
  have lt0 : ∀ x ∈ p0, x.block < W.heap.size := by obtain ⟨m, hm⟩ := k0; exact DataW.trod_lt m _ _ _ hm
  obtain ⟨a0, len0, cap0, g0, rfl, o0⟩ := open_nodes (hval 0 22 v0 rfl rfl) h0
  have k1 := h1
  have lt1 : ∀ x ∈ p1, x.block < W.heap.size := by obtain ⟨m, hm⟩ := k1; exact DataW.trod_lt m _ _ _ hm
  obtain ⟨g1, rfl, o1⟩ := open_int3 (hval 1 3 v1 rfl rfl) h1
  have k2 := h2
  have lt2 : ∀ x ∈ p2, x.block < W.heap.size := by obtain ⟨m, hm⟩ := k2; exact DataW.trod_lt m _ _ _ hm
  obtain ⟨g2, rfl, o2⟩ := open_num (hval 2 2 v2 rfl rfl) h2
  have k3 := h3
  have lt3 : ∀ x ∈ p3, x.block < W.heap.size := by obtain ⟨m, hm⟩ := k3; exact DataW.trod_lt m _ _ _ hm
  obtain ⟨g3, rfl, o3⟩ := open_size (hval 3 24 v3 rfl rfl) h3
  clear hA0 hval0
  refine (walk a0 len0 cap0 g0 g1 g2 g3 W o0 o1 o2 o3).mono fun e W' ⟨he, bel⟩ => ?_
  subst he
  exact ⟨_, rfl, _, _, _, [], _, [], hW', trodAll_mk1 (shut_bool Try.underlying4 _), (trodAll_cons_mk (Below.trod laidOut (by kernel_rfl) (of_decide_eq_true (by kernel_rfl)) k0 bel lt0) (trodAll_cons_mk (Below.trod laidOut (by kernel_rfl) (of_decide_eq_true (by kernel_rfl)) k1 bel lt1) (trodAll_cons_mk (Below.trod laidOut (by kernel_rfl) (of_decide_eq_true (by kernel_rfl)) k2 bel lt2) (trodAll_cons_mk (Below.trod laidOut (by kernel_rfl) (of_decide_eq_true (by kernel_rfl)) k3 bel lt3) trodAll_mk0)))), rfl, bel.frame _, fun h => by cases h⟩

theorem over : Rows.flowNoneRow.holds Try.pinned (OpenSpec.ofChange Rows.flowNoneSpec) :=
  OpenClaim.holds_of_wide 4 Try.f4 rfl rfl rfl rfl rfl rfl rfl ⟨rfl, rfl, rfl, rfl, rfl⟩ rfl rfl rfl rfl rfl (by kernel_rfl) Try.func4 (by kernel_rfl)
    (of_decide_eq_true (by kernel_rfl)) (by unfold Func.isWrapper; first | (rw [if_pos (by decide +kernel)]; kernel_rfl) | (rw [if_neg (by decide +kernel)]; exact ⟨rfl, rfl⟩))
    (fun os started H enc _ => lifted os started H enc)

/-- The statement. -/
theorem proved : Rows.FlowNoneSaid := over
#print axioms proved
end Go.Proofs.Yteplmjgohnbpbaa.flowNone
