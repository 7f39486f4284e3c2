/- Proved: for every list of nodes and any container the law FlowApart returns true, and its arguments read afterwards as before; no conditions. -/
import Derived.Test.YteplmjgohnbpbaaRows
import Derived.WalkKit
import Derived.OwnWalk
import Derived.Test.YteplmjgohnbpbaaFAp
import Derived.Test.YteplmjgohnbpbaaM41
import Derived.Test.YteplmjgohnbpbaaM36
import Derived.Test.YteplmjgohnbpbaaM42
import Derived.Test.YteplmjgohnbpbaaM12
import Derived.Test.YteplmjgohnbpbaaM1
import Derived.Test.YteplmjgohnbpbaaM44
import Derived.ProofKit
import Derived.OpenShut
import Derived.ShutString
import Derived.ChangeOld
import Derived.Below
namespace Go.Proofs.Yteplmjgohnbpbaa.flowApart
open Go.ChangeShapes Go.WideShapes Go.ChangeAt Go.RowKit
set_option linter.unusedVariables false
theorem own : ownKnob Try.prog.godebug = none := by kernel_rfl
theorem laidOut : laidOutB Try.prog = true := by kernel_rfl
set_option maxRecDepth 100000
theorem run_index48o (g o k n c : Nat) (hk : k < n) (w : World) : (Instr.indexAt 48 (.slice (some ⟨g, o, none⟩) n c) (.int .i64 k)).run Try.prog w = .ok (.pointer (some ⟨g, o + k * 26, none⟩)) w := by
  simp [Instr.indexAt, asIntOf, run_underlying Try.underlying48, Try.sizeOf61, add_plain]
  omega
theorem made0 {l : List Nd} (h : FormedT l) : (plAt l (0 : Int)).made = madeB l (0 : Nat) := by
  have : inB l (0 : Int) = true := inB_nat (n := 0) h.1
  rw [(plAt_made this).1]
  rfl
/-- What Box's answer holds, whether there is one or not. -/
def frO (o : Option Bo) : Fr := match o with | some b => b.f | none => zFr
def lsO (o : Option Bo) : List Pd := match o with | some b => b.l | none => []
theorem box_both {l : List Nd} {n : Int} {c : Ct} {W W' : World} {e : Ending} {o : Option Bo} {N : Nat} {F : Fr} {ok : Bool} (ho : flowO l n c = o) (hF : frO o = F) (hk : o.isSome = ok) (hN : (lsO o).length = N) (h : FlowAns l n c W e W') :
    Seen W W' ∧ ∃ va vc ra rm rc P hi, e = .returned (.tuple #[frv F, layv (.slice va N vc) (.slice ra rm rc) P hi, .bool ok]) ∧ SL pdl 26 zPd W' va N (lsO o) := by
  obtain ⟨hs, ⟨h, rfl⟩ | ⟨b', v, a, cap, h, rfl, hg, hr⟩⟩ := h
  · rw [ho] at h
    subst h
    subst hF hk hN
    exact ⟨hs, none, 0, none, 0, 0, zPi, 0, rfl, ⟨rfl, fun h => absurd h (by decide)⟩⟩
  · rw [ho] at h
    subst h
    subst hF hk
    obtain ⟨va, vc, rfl, hsl, -⟩ := hg.slice pdl_length zPd
    have hN' : b'.l.length = N := hN
    rw [hN'] at hsl ⊢
    exact ⟨hs, va, vc, a, _, cap, _, _, rfl, hsl⟩
theorem sl_cells {w : World} {B off N : Nat} {ps : List Pd} (h0 : 0 < N) (h : SL pdl 26 zPd w (some ⟨B, off, none⟩) N ps) : ∀ i, i < N → ∀ j, j < 26 → w.cell? ⟨B, off + i * 26 + j, none⟩ = (pdl (ps.getD i zPd))[j]? := by
  obtain ⟨b, o, e, hc⟩ := h.2 h0
  cases e
  exact hc
theorem neq_b (w : World) (b : Bool) : (binOp .neq 4 (.bool b) (.bool b)).run Try.prog w = .ok (.bool false) w := by cases b <;> rfl
theorem neq_n (w : World) (n : Int) : (binOp .neq 3 (.int .i64 n) (.int .i64 n)).run Try.prog w = .ok (.bool false) w := by go_simp
theorem neq_m (w : World) (n : Int) : (binOp .neq 2 (.int .i64 n) (.int .i64 n)).run Try.prog w = .ok (.bool false) w := by go_simp
theorem neq_c (w : World) (c : Ch) : (binOp .neq 58 (chv c) (chv c)).run Try.prog w = .ok (.bool false) w := by go_simp
theorem neq_f (w : World) (f : Fr) : (binOp .neq 47 (frv f) (frv f)).run Try.prog w = .ok (.bool false) w := by
  have h25 : ∀ (a0 a1 a2 a3 : Int) (w : World), (Op.equalIn 9999 37 (.agg #[.int .i64 a0, .int .i64 a1, .int .i64 a2, .int .i64 a3]) (.agg #[.int .i64 a0, .int .i64 a1, .int .i64 a2, .int .i64 a3])).run Try.prog w = .ok true w := fun a0 a1 a2 a3 w => eq25 9996 a0 a1 a2 a3 w
  unfold frv frl
  go_simp
theorem neq_cg (w : World) (c : Ch) (s t : Operand) : (do eqGuard .neq 58 s t (chv c) (chv c); binOp .neq 58 (chv c) (chv c) : Sem Value).run Try.prog w = .ok (.bool false) w := by
  rw [Sem.run_bind, run_eqGuard_agg w .neq 58 s t _ _ Try.eqGuardType58]
  exact neq_c w c
theorem neq_fg (w : World) (f : Fr) (s t : Operand) : (do eqGuard .neq 47 s t (frv f) (frv f); binOp .neq 47 (frv f) (frv f) : Sem Value).run Try.prog w = .ok (.bool false) w := by
  unfold frv
  rw [Sem.run_bind, run_eqGuard_agg w .neq 47 s t _ _ Try.eqGuardType47]
  exact neq_f w f
theorem pd_cell {w : World} {B off N : Nat} {ps : List Pd} {k : Nat} (hk : k < N) (h : ∀ i, i < N → ∀ j, j < 26 → w.cell? ⟨B, off + i * 26 + j, none⟩ = (pdl (ps.getD i zPd))[j]?) : w.cell? ⟨B, off + k * 26, none⟩ = some (.int .i64 (ps.getD k zPd).n) := h k hk 0 (by omega)
theorem pd_frame {w : World} {B off N : Nat} {ps : List Pd} {k : Nat} (hk : k < N) (h : ∀ i, i < N → ∀ j, j < 26 → w.cell? ⟨B, off + i * 26 + j, none⟩ = (pdl (ps.getD i zPd))[j]?) : w.rangeAt B (off + k * 26 + 1) (frl (ps.getD k zPd).f) := fun j v hj => by
  have hj25 : j < 25 := by
    rcases Nat.lt_or_ge j 25 with h1 | h1
    · exact h1
    · rw [List.getElem?_eq_none (by rw [frl_length]; exact h1)] at hj; cases hj
  have e := h k hk (j + 1) (by omega)
  rw [show off + k * 26 + (j + 1) = off + k * 26 + 1 + j by omega] at e
  rw [e]
  show (Value.int .i64 _ :: frl _)[j + 1]? = some v
  rw [List.getElem?_cons_succ]
  exact hj
set_option maxHeartbeats 16000000 in
theorem walk (a : Option Addr) (n c : Nat) (l : List Nd) (x : Int) (q : Sz) (w : World) (o : NS w a n l ∧ (∀ q ∈ l, OkN q) ∧ n ≤ c ∧ (a = none → c = 0)) (hx : -9223372036854775808 ≤ x ∧ x < 9223372036854775808) (hq : okN q.n) :
    Calls Try.prog 3 #[.slice a n c, .int .i64 x, .agg #[.bool q.au, .int .i64 q.n]] w fun e w' => e = .returned (.bool true) ∧ Below w.heap.size w w' := by
  have HS := Lib.hid o.1
  clear o hx hq
  obtain ⟨au, hn⟩ := q
  obtain ⟨W, hW⟩ : ∃ W, W = w.alloc (.cells #[.bool au, .int .i64 hn] 24) := ⟨_, rfl⟩
  have k : Blk W w.heap.size [.bool au, .int .i64 hn] 24 := by rw [hW]; exact Blk.new w _ _
  have SW : Hid (Seen w W) := by rw [hW]; exact (Seen.refl w).alloc _
  have K := Lib.hid k
  clear k
  have A0 := Lib.hid (awake_any14 W)
  by_cases hbig : (n : Int) > 20
  ·
    go_enter Try.func3, Try.ntmps3
    go_upto_region 1 with fail
    rw [← hW]
    clear hW
    go_wp2_with (first
      | (go_at_call 6; refine A0.out.mono ?_; clear A0; rintro _ w1 ⟨rfl, hs1⟩; have S1 : Hid (Seen W w1) := hs1; clear hs1)
      | (go_at_call 6; refine (awake_any14 w1).mono ?_; rintro _ w2 ⟨rfl, hs2⟩; have S2 : Hid (Seen W w2) := S1.out.trans hs2; clear hs2))
    go_ret
    exact ⟨rfl, SW.out.trans S2.out⟩
  · have HN : n ≤ 20 := by omega
    have HC := Lib.hid fun w' h' => refCheck_any a n c l w' (HS.out.seen h') (by omega)
    by_cases hc : checkT l = 0
    · have hf := check_formed hc
      rw [hc] at HC
      have HO := Lib.hid fun w' h' => of_yes a n c l w' (HS.out.seen h') hc hf (by omega)
      have hll : n = l.length := by have := HS.out.1; omega
      have HF := Lib.hid hf
      have HL : Hid (l.length ≤ 65535) := by unfold Hid; omega
      have HMD := Lib.hid (made0 hf)
      have HCK := Lib.hid hc
      clear hf hc
      cases hmd : madeB l (0 : Nat) with
      | false =>
        rw [hmd] at HMD
        clear hmd hll HCK
        go_enter Try.func3, Try.ntmps3
        go_upto_region 1 with fail
        rw [← hW]
        clear hW
        go_wp2_with (first
          | (go_at_call 6; refine A0.out.mono ?_; clear A0; rintro _ w1 ⟨rfl, hs1⟩; have S1 : Hid (Seen W w1) := hs1; clear hs1)
          | (go_at_call 7; refine (HC.out w1 (SW.out.trans S1.out)).mono ?_; clear HC; rintro _ w2 ⟨rfl, hs2⟩; have S2 : Hid (Seen W w2) := S1.out.trans hs2; clear hs2)
          | (go_at_call 8; refine (HO.out w2 (SW.out.trans S2.out)).mono ?_; clear HO; rintro _ w3 ⟨B, G, H, rfl, _, hk3, hs3⟩; have S3 : Hid (Seen W w3) := S2.out.trans hs3; have K3 := Lib.hid (hk3.kv HF.out HL.out); clear hs3 hk3)
          | (go_at_call 9; refine (made_kin _ l 0 w3 K3.out).mono ?_; rw [HMD.out]; rintro _ w4 ⟨rfl, hs4⟩; have S4 : Hid (Seen W w4) := S3.out.trans hs4; have K4 := Lib.hid (K3.out.seen hs4); clear hs4))
        go_ret
        exact ⟨rfl, SW.out.trans S4.out⟩
      | true =>
        rw [hmd] at HMD
        have HFA := Lib.hid (flow_apart HF.out hmd ⟨x, ⟨au, hn⟩, false⟩)
        have FLS := Lib.hid (formed_less HF.out hmd)
        have CLS := Lib.hid (check_less HF.out hmd HCK.out)
        have HIX : Hid (∀ k, ix l k ≤ k) := fun k => by
          induction k with
          | zero => rw [ix_zero]; omega
          | succ m ih => rw [ix_step]; split <;> omega
        obtain ⟨o, ho⟩ : ∃ o, flowO l 0 ⟨x, ⟨au, hn⟩, false⟩ = o := ⟨_, rfl⟩
        obtain ⟨F, hF⟩ : ∃ F, frO o = F := ⟨_, rfl⟩
        obtain ⟨ok, hok⟩ : ∃ b, o.isSome = b := ⟨_, rfl⟩
        obtain ⟨N, hN⟩ : ∃ N, (lsO o).length = N := ⟨_, rfl⟩
        have HB1 := Lib.hid fun v w' (h' : KV w' v l) => (flowBox_any w' (by omega) h' 0 x au hn false).mono fun _ _ h => box_both ho hF hok hN h
        have ho2 : flowO (lessTo l l.length) 0 ⟨x, ⟨au, hn⟩, false⟩ = o.map (reB l) := by rw [HFA.out.1, ho]
        have hF2 : frO (o.map (reB l)) = F := by rw [← hF]; cases o <;> rfl
        have hk2 : (o.map (reB l)).isSome = ok := by rw [← hok]; cases o <;> rfl
        have hl2 : lsO (o.map (reB l)) = (lsO o).map (reP l) := by cases o <;> rfl
        have hN2 : (lsO (o.map (reB l))).length = N := by rw [hl2, List.length_map, hN]
        have HB2 := Lib.hid fun v w' (h' : KV w' v (lessTo l l.length)) => (flowBox_any w' (by rw [less_length]; have := HIX.out l.length; omega) h' 0 x au hn false).mono fun _ _ h => box_both ho2 hF2 hk2 hN2 h
        rw [hl2] at HB2
        have HKA : Hid (∀ p ∈ lsO o, ∃ m : Nat, p.n = m ∧ m < l.length ∧ keptB l m = true) := fun p hp => by
          cases o with
          | none => exact absurd hp (by unfold lsO; simp)
          | some b => exact HFA.out.2 b ho p hp
        have HSM : Hid (N ≤ 20) := by
          unfold Hid
          cases o with
          | none => rw [← hN]; exact Nat.zero_le _
          | some b =>
            have hbx : boxO l l.length (0 : Nat) ⟨x, ⟨au, hn⟩, false⟩ = some b := by
              unfold flowO at ho
              split at ho
              · exact ho
              · cases ho
            have h1 := small_box HF.out l.length 0 _ b HF.out.1 hbx
            have h2 := end_le HF.out.1
            have h3 : b.l.length = N := hN
            omega
        have hnl := HF.out.1
        obtain ⟨Bn, offn, rfl, hat⟩ := HS.out.ats (show 0 < n by omega)
        have HAT := Lib.hid hat
        have MT := Lib.hid (make_tabI n (by omega))
        have HNL := Lib.hid hll
        obtain ⟨ps, hps⟩ : ∃ ps, lsO o = ps := ⟨_, rfl⟩
        rw [hps] at HB1 HB2 HKA hN
        have HPS := Lib.hid hN
        clear hmd HFA ho hF hok hN ho2 hF2 hk2 hl2 hN2 hnl hat hll hps HCK
        clear o
        go_enter Try.func3, Try.ntmps3
        go_upto_region 1 with fail
        rw [← hW]
        clear hW
        go_upto_region 9 with (first
          | (go_at_call 6; refine A0.out.mono ?_; clear A0; rintro _ w1 ⟨rfl, hs1⟩; have S1 : Hid (Seen W w1) := hs1; clear hs1)
          | (go_at_call 7; refine (HC.out w1 (SW.out.trans S1.out)).mono ?_; clear HC; rintro _ w2 ⟨rfl, hs2⟩; have S2 : Hid (Seen W w2) := S1.out.trans hs2; clear hs2)
          | (go_at_call 8; refine (HO.out w2 (SW.out.trans S2.out)).mono ?_; clear HO; rintro _ w3 ⟨B, G, H, rfl, _, hk3, hs3⟩; have S3 : Hid (Seen W w3) := S2.out.trans hs3; have K3 := Lib.hid (hk3.kv HF.out HL.out); clear hs3 hk3)
          | (go_at_call 9; refine (made_kin _ l 0 w3 K3.out).mono ?_; rw [HMD.out]; rintro _ w4 ⟨rfl, hs4⟩; have S4 : Hid (Seen W w4) := S3.out.trans hs4; have K4 := Lib.hid (K3.out.seen hs4); clear hs4)
          | (refine wpList_makeI rfl (.tmp 52) (.tmp 52) 32 rfl (.int .i64 (n : Int)) (.int .i64 (n : Int)) rfl rfl _ _ (MT.out w4) ?_))
        obtain ⟨W8, hW8⟩ : ∃ W8, W8 = w4.alloc (.cells (tabI (List.replicate n 0)).toArray 3) := ⟨_, rfl⟩
        have HA0 : Hid (AI w4 W8 (atL l 0) (.slice none 0 0) (lessTo l 0) (.slice none 0 0) ((kl l 0).map fun (y : Nat) => (y : Int))) := by
          rw [hW8, atL_zero, ← HNL.out]
          exact AI.new w4 _
        rw [← hW8]
        clear hW8 MT HMD S1 S2 S3 K3
        go_wp2_with fail
        go_loopw [56, 9, 10] (fun x u q wr => ∃ k : Nat, x = .int .i64 k ∧ k ≤ n ∧ AI w4 wr (atL l k) u (lessTo l k) q ((kl l k).map fun (y : Nat) => (y : Int))) (fun x _ _ _ => n - (intOf x).toNat)
        case atStart => exact ⟨0, rfl, by omega, HA0.out⟩
        case round =>
          rename World => V
          obtain ⟨k, rfl, hk, hai⟩ := hrel
          clear HA0
          obtain ⟨a2, c2, e2, hns, -, -⟩ := ns_of_own hai.less rfl
          rw [less_length] at e2 hns
          subst e2
          have HA := Lib.hid hai
          have N2 := Lib.hid hns
          clear hai hns
          by_cases hlt : k < n
          ·
            have hk' : (k : Int) < (n : Int) := by omega
            have SV := Lib.hid (SW.out.trans (S4.out.trans HA.out.seen))
            have HKL : Hid (k < l.length) := by have := HNL.out; unfold Hid; omega
            have HMK : Hid (Calls Try.prog 10 #[.slice (some ⟨Bn, offn, none⟩) n c, .int .i64 (k : Int)] V fun e w' => e = .returned (.bool (madeB l k)) ∧ w' = V) := by
              have := refMade_any (some ⟨Bn, offn, none⟩) n c l k V (HS.out.seen SV.out) HF.out (by omega)
              rwa [inB_nat HKL.out, Bool.true_and] at this
            have HOT : Hid (∀ y : Nat, y < l.length → Calls Try.prog 11 #[.slice (some ⟨Bn, offn, none⟩) n c, .int .i64 (y : Int)] V fun e w' => e = .returned (.bool (outB l y)) ∧ w' = V) := fun y hy => by
              have := refOut_any (some ⟨Bn, offn, none⟩) n c l y V (HS.out.seen SV.out) HF.out (by omega)
              rwa [inB_nat hy, Bool.true_and] at this
            obtain ⟨mb, hmb⟩ : ∃ b, madeB l k = b := ⟨_, rfl⟩
            rw [hmb] at HMK
            have HMB := Lib.hid hmb
            clear hmb
            go_wp2_with (go_at_call 10; refine HMK.out.mono ?_; clear HMK; rintro _ w5 ⟨rfl, hw⟩; rw [hw]; clear hw)
            go_loopw [14, 13] (fun x g wr => ∃ j : Nat, x = .int .i64 (upN l j k) ∧ g = .bool (goneTo l k j) ∧ wr = V ∧ ∀ i, i < j → 0 < upN l i k) (fun x _ _ => (intOf x).toNat)
            case atStart => exact ⟨0, rfl, by rw [gone_zero, HMB.out], rfl, fun i hi => absurd hi (by omega)⟩
            case round =>
              obtain ⟨j, rfl, rfl, hwr, hall⟩ := hrel
              subst hwr
              rename World => V
              have HAL := Lib.hid hall
              clear hall
              have hup := HF.out.low.up (m := (k : Int)) (by omega) (by have := HKL.out; omega) j
              have hnext : Hid (upN l (j + 1) (k : Int) = par l (upN l j k)) := rfl
              have hgs := Lib.hid (gone_step l k j)
              obtain ⟨A, hA⟩ : ∃ A, upN l j (k : Int) = A := ⟨_, rfl⟩
              have hge : Hid (A ≤ 0 → goneTo l k j = !keptB l k) := fun h0 => gone_end HF.out HKL.out HAL.out (by rw [hA]; exact h0)
              rw [hA] at hup hnext hgs ⊢
              have HAA := Lib.hid hA
              clear hA
              obtain ⟨u1, u2, u3⟩ := hup
              by_cases h0 : 0 < A
              ·
                obtain ⟨y, rfl⟩ := Int.eq_ofNat_of_zero_le (Int.le_of_lt h0)
                have hy : y < l.length := by have := HKL.out; omega
                have hyn : y < n := by have := HNL.out; omega
                have hyn' : (y : Int) < (n : Int) := by omega
                have hy0 : 0 < y := by omega
                have ca := ((HAT.out y hyn).seen SV.out).par
                obtain ⟨pp, hpp⟩ : ∃ p, (nd l y).p = p := ⟨_, rfl⟩
                have hpy := (par_lt HF.out hy).2
                rw [hpp] at ca hpy
                have hn2 : Hid (upN l (j + 1) (k : Int) = pp) := by rw [hnext.out, par_nat, hpp]; exact rfl
                have HOY := Lib.hid (HOT.out y hy)
                obtain ⟨ob, hob⟩ : ∃ b, outB l (y : Int) = b := ⟨_, rfl⟩
                rw [hob] at HOY hgs
                obtain ⟨g, hg⟩ : ∃ g, goneTo l k j = g := ⟨_, rfl⟩
                rw [hg] at hgs ⊢
                clear hpp hob hg hge hnext u3 HOT HMB HA N2
                cases g
                · go_wp2_with (go_at_call 11; refine HOY.out.mono ?_; clear HOY; rintro _ w6 ⟨rfl, hw⟩; rw [hw]; clear hw)
                  go_roundw
                  case rel => exact ⟨j + 1, by rw [hn2.out], by rw [hgs.out]; rfl, by trivial, fun i hi => by
                    rcases Nat.lt_or_ge i j with h | h
                    · exact HAL.out i h
                    · obtain rfl : i = j := by omega
                      rw [HAA.out]; exact h0⟩
                  case measure => simp [intOf]; omega
                · clear HOY
                  go_wp2_with fail
                  go_roundw
                  case rel => exact ⟨j + 1, by rw [hn2.out], by rw [hgs.out]; rfl, by trivial, fun i hi => by
                    rcases Nat.lt_or_ge i j with h | h
                    · exact HAL.out i h
                    · obtain rfl : i = j := by omega
                      rw [HAA.out]; exact h0⟩
                  case measure => simp [intOf]; omega
              · have hgk := hge.out (by omega)
                rw [hgk]
                clear hgk hge hgs hnext HOT HAL HAA u3
                cases hkp : keptB l (k : Int) with
                | false =>
                  have HKF := Lib.hid hkp
                  clear hkp
                  simp only [Bool.not_false]
                  go_wp2_with fail
                  go_roundw
                  case rel =>
                    refine ⟨k + 1, by go_num, by omega, ?_⟩
                    rw [atL_skip HKF.out, less_step, kl_step, HKF.out]
                    simp only [Bool.false_eq_true, if_false, List.append_nil]
                    exact HA.out
                  case measure => simp [intOf]; omega
                | true =>
                  have HKT := Lib.hid hkp
                  clear hkp
                  simp only [Bool.not_true]
                  have HIX := Lib.hid (HIX.out k)
                  have cT : V.cell? ⟨w4.heap.size, k, none⟩ = some (.int .i64 ((atL l k).getD k 0)) := (HA.out.tab.cell k).trans (tabI_at (by rw [atL_length]; exact HKL.out))
                  obtain ⟨tk, htk⟩ : ∃ t, (atL l k).getD k 0 = t := ⟨_, rfl⟩
                  rw [htk] at cT
                  clear htk
                  have fz := HA.out.tab.free k
                  have HA1 := Lib.hid (HA.out.set k (ix l k : Int))
                  go_upto_region 19 with fail
                  obtain ⟨V1, hV1⟩ : ∃ V1, V1 = V.setCell ⟨w4.heap.size, k, none⟩ (.int .i64 (ix l k : Int)) := ⟨_, rfl⟩
                  rw [← hV1] at HA1 ⊢
                  clear hV1 cT fz HA
                  have A1 : Hid (At V1 Bn (offn + k * 49) (nd l k)) := (HAT.out k hlt).seen (SW.out.trans (S4.out.trans HA1.out.seen))
                  obtain ⟨V2, hV2⟩ : ∃ V2, V2 = V1.alloc (.cells (ndl zeroN).toArray 41) := ⟨_, rfl⟩
                  have HZ : Hid (Hn V2 V1.heap.size zeroN) := by rw [hV2]; exact hn_new V1 zeroN
                  have HVS : Hid (∀ w2, Turns V1.heap.size V2 w2 → Seen V1 w2) := by rw [hV2]; exact fun w2 h2 => (Seen.refl V1).fresh h2
                  go_upto_region 20 with (first
                    | (refine wpList_loadN rfl (.tmp 85) rfl Bn (offn + k * 49) (nd l k) rfl A1.out ?_; clear A1)
                    | (rw [zeroN_lit, ← hV2]; clear hV2; refine wpList_storeN rfl (.tmp 15) (.tmp 86) rfl V1.heap.size zeroN (nd l k) rfl rfl HZ.out ?_; intro W2 h2 t2; have R2 := Lib.hid h2; have A2 := Lib.hid (HA1.out.later (HVS.out W2 t2)); have S12 := Lib.hid (HVS.out W2 t2); clear h2 t2 HZ HVS))
                  have hTX : w4.heap.size < V1.heap.size := HA1.out.tab.lt
                  obtain ⟨X, hX⟩ : ∃ X, V1.heap.size = X := ⟨_, rfl⟩
                  rw [hX] at R2 hTX ⊢
                  have HXX := Lib.hid hX
                  clear hX
                  rcases Nat.eq_zero_or_pos k with hk0 | hk0
                  · have hk1 : ¬ (0 : Int) < (k : Int) := by omega
                    have R3 : Hid (Hn W2 X (reN l k)) := by
                      have e : reN l k = nd l k := by unfold reN; rw [if_pos hk0, hk0]
                      rw [e]; exact R2.out
                    have HK0 := Lib.hid hk0
                    clear hk0 R2 HA1 S12 HXX
                    go_wp2_with (first
                      | (refine wpList_loadN rfl (.tmp 15) rfl X 0 (reN l k) rfl R3.out.at ?_)
                      | (refine wpList_buildS1 rfl (.tmp 96) rfl (reN l k) rfl ?_)
                      | (at_builtin; refine wpList_pushG (t := 22) (e := 41) Try.underlying22 info51z rfl (by decide) ndl_length ndl_one (by decide) rfl (.tmp 95) (.tmp 97) rfl (w4.heap.size + 1) _ (lessTo l k) (reN l k) rfl rfl A2.out.less (by rw [less_length]; have := HIX.out; omega) (by have := A2.out.tab.lt; omega) ?_
                         intro g6 cap6 w6 hg6 hgr6
                         have A6 := Lib.hid (AI.pushL A2.out hg6 hgr6)
                         clear hg6 hgr6)
                      | (at_builtin; refine wpList_pushJ rfl (.tmp 99) (.tmp 101) rfl (w4.heap.size + 1) u10 ((kl l k).map fun (y : Nat) => (y : Int)) (k : Int) rfl rfl A6.out.nums (by rw [List.length_map]; have := HIX.out; unfold ix at this; omega) (by have := A6.out.tab.lt; omega) ?_
                         intro v7 w7 hr7 hgr7
                         have A7 := Lib.hid (AI.pushI A6.out hr7 hgr7)
                         clear hr7 hgr7))
                    go_roundw
                    case rel =>
                      refine ⟨k + 1, by go_num, by omega, ?_⟩
                      have := A7.out
                      rw [atL_next HKT.out, less_step, kl_step, HKT.out, if_pos rfl, if_pos rfl, List.map_append]
                      exact this
                    case measure => simp [intOf]; omega
                  · have hk1 : (0 : Int) < (k : Int) := by omega
                    obtain ⟨q1, g1, g2, g3, g4⟩ := re_par HF.out hk0 HKL.out HKT.out
                    have cp : W2.cell? ⟨X, 48, none⟩ = some (.int .i64 (q1 : Int)) := by
                      have := R2.out.at.par
                      rw [g1, Nat.zero_add] at this
                      exact this
                    have fx : W2.frozen? ⟨X, 48, none⟩ = false := Blk.free (l := ndl (nd l k)) (t := 41) R2.out 48
                    have hq1 : q1 < l.length := by have := HKL.out; omega
                    have hq1n : (q1 : Int) < (n : Int) := by omega
                    have cq : W2.cell? ⟨w4.heap.size, q1, none⟩ = some (.int .i64 (ix l q1 : Int)) := (A2.out.tab.cell q1).trans ((tabI_at (by rw [List.length_set, atL_length]; exact hq1)).trans (by rw [atL_old g2 hq1 g3]))
                    have R3 : Hid (Hn (W2.setCell ⟨X, 48, none⟩ (.int .i64 (ix l q1 : Int))) X (reN l k)) := by
                      have := R2.out.setP (ix l q1 : Int)
                      have e : reN l k = { nd l k with p := (ix l q1 : Int) } := by
                        have h := g4
                        unfold reN at h ⊢
                        rw [if_neg (by omega)] at h ⊢
                        rw [← h]
                      rw [e]
                      exact this
                    have A3 : Hid (AI w4 (W2.setCell ⟨X, 48, none⟩ (.int .i64 (ix l q1 : Int))) ((atL l k).set k (ix l k : Int)) (.slice a2 (ix l k) c2) (lessTo l k) u10 ((kl l k).map fun (y : Nat) => (y : Int))) := HA1.out.later (seen_set S12.out (Nat.le_of_eq HXX.out))
                    clear g1 g2 g3 g4 hq1 R2 A2 HA1 S12 HXX
                    go_upto_region 22 with fail
                    obtain ⟨W3, hW3⟩ : ∃ W3, W3 = W2.setCell ⟨X, 48, none⟩ (.int .i64 (ix l q1 : Int)) := ⟨_, rfl⟩
                    rw [← hW3] at R3 A3 ⊢
                    clear hW3 cp fx cq
                    go_wp2_with (first
                      | (refine wpList_loadN rfl (.tmp 15) rfl X 0 (reN l k) rfl R3.out.at ?_)
                      | (refine wpList_buildS1 rfl (.tmp 96) rfl (reN l k) rfl ?_)
                      | (at_builtin; refine wpList_pushG (t := 22) (e := 41) Try.underlying22 info51z rfl (by decide) ndl_length ndl_one (by decide) rfl (.tmp 95) (.tmp 97) rfl (w4.heap.size + 1) _ (lessTo l k) (reN l k) rfl rfl A3.out.less (by rw [less_length]; have := HIX.out; omega) (by have := A3.out.tab.lt; omega) ?_
                         intro g6 cap6 w6 hg6 hgr6
                         have A6 := Lib.hid (AI.pushL A3.out hg6 hgr6)
                         clear hg6 hgr6)
                      | (at_builtin; refine wpList_pushJ rfl (.tmp 99) (.tmp 101) rfl (w4.heap.size + 1) u10 ((kl l k).map fun (y : Nat) => (y : Int)) (k : Int) rfl rfl A6.out.nums (by rw [List.length_map]; have := HIX.out; unfold ix at this; omega) (by have := A6.out.tab.lt; omega) ?_
                         intro v7 w7 hr7 hgr7
                         have A7 := Lib.hid (AI.pushI A6.out hr7 hgr7)
                         clear hr7 hgr7))
                    go_roundw
                    case rel =>
                      refine ⟨k + 1, by go_num, by omega, ?_⟩
                      have := A7.out
                      rw [atL_next HKT.out, less_step, kl_step, HKT.out, if_pos rfl, if_pos rfl, List.map_append]
                      exact this
                    case measure => simp [intOf]; omega
          · have hk' : ¬ (k : Int) < (n : Int) := by omega
            have e0 : k = l.length := by have := HNL.out; omega
            have KV4 := Lib.hid (K4.out.seen HA.out.seen)
            have NL : Hid (NS V a2 (ix l k) (lessTo l l.length)) := by have := N2.out; rw [e0] at this; rw [e0]; exact this
            have KLX : Hid (RI V (w4.heap.size + 1) u10 ((kl l l.length).map fun (y : Nat) => (y : Int))) := by have := HA.out.nums; rw [e0] at this; exact this
            have SV := Lib.hid (S4.out.trans HA.out.seen)
            have HI := HIX.out k
            clear e0 HA N2 HS HAT
            obtain ⟨aI, cI, rfl, hzs, -⟩ := KLX.out.slice
            obtain ⟨M, hM⟩ : ∃ M, ((kl l l.length).map fun (y : Nat) => (y : Int)).length = M := ⟨_, rfl⟩
            rw [hM] at hzs ⊢
            have ZI := Lib.hid hzs
            have HMM := Lib.hid hM
            have cq4 := K.out.rules2
            clear hzs hM KLX
            have c0 := cq4 V SV.out
            go_upto_region 29 with (first
        | (go_at_call 8; refine (of_yes a2 (ix l k) c2 (lessTo l l.length) V NL.out CLS.out FLS.out (by omega)).mono ?_; rintro _ w9 ⟨B2, G2, H2, rfl, _, hk9, hs9⟩; have S9 := Lib.hid hs9; have K9 := Lib.hid (hk9.kv FLS.out (by rw [less_length]; have := HIX.out l.length; have := HL.out; omega)); have c9 := cq4 w9 (SV.out.trans hs9); clear hs9 hk9 NL c0)
        | (go_at_call 12; refine (HB1.out _ w9 (KV4.out.seen S9.out)).mono ?_; clear HB1 c9; rintro e w10 ⟨hs10, va5, vc5, ra5, rm5, rc5, P5, hi5, rfl, hsl5⟩; have S10 := Lib.hid (show Seen w9 w10 from hs10); have SL5 := Lib.hid hsl5; clear hs10 hsl5)
        | (refine wpList_storeF rfl (.tmp 17) (.tmp 116) rfl w10.heap.size zFr F rfl rfl (by simpa using (blk_zero w10).alloc (.cells #[.slice none 0 0, .slice none 0 0, .int .i64 0, .int .i64 0, .int .i64 0, .int .i64 0, .int .i64 0, .bool false, .int .i64 0] 53)) ?_; intro w11a b5a t5a)
        | (refine wpList_storeL rfl (.tmp 18) (.tmp 117) rfl (w10.heap.size + 1) zlay (.slice va5 N vc5) (.slice ra5 rm5 rc5) (oneS _ _ _) (oneS _ _ _) P5 hi5 rfl rfl rfl ((show Blk ((w10.alloc (.cells #[.int .i64 0, .int .i64 0, .int .i64 0, .int .i64 0, .int .i64 0, .int .i64 0, .int .i64 0, .int .i64 0, .int .i64 0, .int .i64 0, .int .i64 0, .int .i64 0, .int .i64 0, .int .i64 0, .int .i64 0, .int .i64 0, .bool false, .int .i64 0, .int .i64 0, .int .i64 0, .int .i64 0, .int .i64 0, .int .i64 0, .bool false, .int .i64 0] 47)).alloc (.cells #[.slice none 0 0, .slice none 0 0, .int .i64 0, .int .i64 0, .int .i64 0, .int .i64 0, .int .i64 0, .bool false, .int .i64 0] 53)) (w10.heap.size + 1) zlay 53 by simpa using blk_zlay (w10.alloc (.cells #[.int .i64 0, .int .i64 0, .int .i64 0, .int .i64 0, .int .i64 0, .int .i64 0, .int .i64 0, .int .i64 0, .int .i64 0, .int .i64 0, .int .i64 0, .int .i64 0, .int .i64 0, .int .i64 0, .int .i64 0, .int .i64 0, .bool false, .int .i64 0, .int .i64 0, .int .i64 0, .int .i64 0, .int .i64 0, .int .i64 0, .bool false, .int .i64 0] 47))).turns t5a (by omega)) ?_; intro w11 b5b t5b
           have S5c := Lib.hid (((((Seen.refl w10).alloc _).alloc _).turns t5a (by omega)).turns t5b (by omega))
           have L5 := Lib.hid b5b
           have F5 := Lib.hid (b5a.turns t5b (by omega))
           clear b5a t5a b5b t5b; have c11 := cq4 w11 (SV.out.trans (S9.out.trans (S10.out.trans S5c.out))))
        | (go_at_call 12; refine (HB2.out _ w11 (K9.out.seen (S10.out.trans S5c.out))).mono ?_; clear HB2 c11; rintro e w12 ⟨hs12, va6, vc6, ra6, rm6, rc6, P6, hi6, rfl, hsl6⟩; have S12 := Lib.hid (show Seen w11 w12 from hs12); have SL6 := Lib.hid hsl6; clear hs12 hsl6)
        | (refine wpList_storeF rfl (.tmp 20) (.tmp 124) rfl w12.heap.size zFr F rfl rfl (by simpa using (blk_zero w12).alloc (.cells #[.slice none 0 0, .slice none 0 0, .int .i64 0, .int .i64 0, .int .i64 0, .int .i64 0, .int .i64 0, .bool false, .int .i64 0] 53)) ?_; intro WBa b6a t6a)
        | (refine wpList_storeL rfl (.tmp 21) (.tmp 125) rfl (w12.heap.size + 1) zlay (.slice va6 N vc6) (.slice ra6 rm6 rc6) (oneS _ _ _) (oneS _ _ _) P6 hi6 rfl rfl rfl ((show Blk ((w12.alloc (.cells #[.int .i64 0, .int .i64 0, .int .i64 0, .int .i64 0, .int .i64 0, .int .i64 0, .int .i64 0, .int .i64 0, .int .i64 0, .int .i64 0, .int .i64 0, .int .i64 0, .int .i64 0, .int .i64 0, .int .i64 0, .int .i64 0, .bool false, .int .i64 0, .int .i64 0, .int .i64 0, .int .i64 0, .int .i64 0, .int .i64 0, .bool false, .int .i64 0] 47)).alloc (.cells #[.slice none 0 0, .slice none 0 0, .int .i64 0, .int .i64 0, .int .i64 0, .int .i64 0, .int .i64 0, .bool false, .int .i64 0] 53)) (w12.heap.size + 1) zlay 53 by simpa using blk_zlay (w12.alloc (.cells #[.int .i64 0, .int .i64 0, .int .i64 0, .int .i64 0, .int .i64 0, .int .i64 0, .int .i64 0, .int .i64 0, .int .i64 0, .int .i64 0, .int .i64 0, .int .i64 0, .int .i64 0, .int .i64 0, .int .i64 0, .int .i64 0, .bool false, .int .i64 0, .int .i64 0, .int .i64 0, .int .i64 0, .int .i64 0, .int .i64 0, .bool false, .int .i64 0] 47))).turns t6a (by omega)) ?_; intro WB b6b t6b
           have S6c := Lib.hid (((((Seen.refl w12).alloc _).alloc _).turns t6a (by omega)).turns t6b (by omega))
           have L6 := Lib.hid b6b
           have F6 := Lib.hid (b6a.turns t6b (by omega))
           clear b6a t6a b6b t6b))
            have L5 := Lib.hid (L5.out.seen (S12.out.trans S6c.out))
            have F5 := Lib.hid (F5.out.seen (S12.out.trans S6c.out))
            have SL5 := Lib.hid (SL5.out.seen pdl_length (S5c.out.trans (S12.out.trans S6c.out)))
            have SL6 := Lib.hid (SL6.out.seen pdl_length S6c.out)
            have SVB := Lib.hid (S9.out.trans (S10.out.trans (S5c.out.trans (S12.out.trans S6c.out))))
            have ZI := Lib.hid (ZI.out.seen SVB.out)
            obtain ⟨X5, hX5⟩ : ∃ X, w10.heap.size = X := ⟨_, rfl⟩
            obtain ⟨X6, hX6⟩ : ∃ X, w12.heap.size = X := ⟨_, rfl⟩
            rw [hX5] at L5 F5 ⊢
            rw [hX6] at L6 F6 ⊢
            clear hX5 hX6 S9 S10 S5c S12 S6c K9 KV4 cq4
            refine wp_region_held_drew (S := fun w' => Seen WB w') (by kernel_rfl) (Seen.refl WB).drew (fun _ => ?_)
            refine hTake 0 (some 127) (.bool ok) (by kernel_rfl) (by kernel_rfl) (by kernel_rfl) (by kernel_rfl) (by kernel_rfl) (by kernel_rfl) (fun _ _ _ h => h) (fun w' hS => by kernel_rfl) (Seen.refl WB).drew ?_
            simp only [Act.put, List.setIfInBounds_toArray, List.set_cons_zero, List.set_cons_succ]
            refine hTake 1 (some 128) (.bool ok) (by kernel_rfl) (by kernel_rfl) (by kernel_rfl) (by kernel_rfl) (by kernel_rfl) (by kernel_rfl) (fun _ _ _ h => h) (fun w' hS => by kernel_rfl) (Seen.refl WB).drew ?_
            simp only [Act.put, List.setIfInBounds_toArray, List.set_cons_zero, List.set_cons_succ]
            refine hTake 2 (some 129) (.bool false) (by kernel_rfl) (by kernel_rfl) (by kernel_rfl) (by kernel_rfl) (by kernel_rfl) (by kernel_rfl) (fun _ _ _ h => h) (fun w' hS => run_by (binOp .neq 4 (.bool ok) (.bool ok)) (by kernel_rfl) (neq_b _ ok)) (Seen.refl WB).drew ?_
            simp only [Act.put, List.setIfInBounds_toArray, List.set_cons_zero, List.set_cons_succ]
            refine hTake 3 (some 130) (.bool false) (by kernel_rfl) (by kernel_rfl) (by kernel_rfl) (by kernel_rfl) (by kernel_rfl) (by kernel_rfl) (fun _ _ _ h => h) (fun w' hS => by kernel_rfl) (Seen.refl WB).drew ?_
            simp only [Act.put, List.setIfInBounds_toArray, List.set_cons_zero, List.set_cons_succ]
            refine hTake 4 (some 131) (.pointer (some ⟨(X5 + 1), 0, none⟩)) (by kernel_rfl) (by kernel_rfl) (by kernel_rfl) (by kernel_rfl) (by kernel_rfl) (by kernel_rfl) (fun _ _ _ h => h) (fun w' hS => by kernel_rfl) (Seen.refl WB).drew ?_
            simp only [Act.put, List.setIfInBounds_toArray, List.set_cons_zero, List.set_cons_succ]
            refine hTake 5 (some 132) (.slice va5 N vc5) (by kernel_rfl) (by kernel_rfl) (by kernel_rfl) (by kernel_rfl) (by kernel_rfl) (by kernel_rfl) (fun _ _ _ h => h) (fun w' hS => run_by (Instr.loadAt 48 (.pointer (some ⟨(X5 + 1), 0, none⟩))) (by kernel_rfl) (ldc48 ((L5.out.seen hS).cell 0))) (Seen.refl WB).drew ?_
            simp only [Act.put, List.setIfInBounds_toArray, List.set_cons_zero, List.set_cons_succ]
            refine hTake 6 (some 133) (.int .i64 (N : Int)) (by kernel_rfl) (by kernel_rfl) (by kernel_rfl) (by kernel_rfl) (by kernel_rfl) (by kernel_rfl) (fun _ _ _ h => h) (fun w' hS => by kernel_rfl) (Seen.refl WB).drew ?_
            simp only [Act.put, List.setIfInBounds_toArray, List.set_cons_zero, List.set_cons_succ]
            refine hTake 7 (some 134) (.pointer (some ⟨(X6 + 1), 0, none⟩)) (by kernel_rfl) (by kernel_rfl) (by kernel_rfl) (by kernel_rfl) (by kernel_rfl) (by kernel_rfl) (fun _ _ _ h => h) (fun w' hS => by kernel_rfl) (Seen.refl WB).drew ?_
            simp only [Act.put, List.setIfInBounds_toArray, List.set_cons_zero, List.set_cons_succ]
            refine hTake 8 (some 135) (.slice va6 N vc6) (by kernel_rfl) (by kernel_rfl) (by kernel_rfl) (by kernel_rfl) (by kernel_rfl) (by kernel_rfl) (fun _ _ _ h => h) (fun w' hS => run_by (Instr.loadAt 48 (.pointer (some ⟨(X6 + 1), 0, none⟩))) (by kernel_rfl) (ldc48 ((L6.out.seen hS).cell 0))) (Seen.refl WB).drew ?_
            simp only [Act.put, List.setIfInBounds_toArray, List.set_cons_zero, List.set_cons_succ]
            refine hTake 9 (some 136) (.int .i64 (N : Int)) (by kernel_rfl) (by kernel_rfl) (by kernel_rfl) (by kernel_rfl) (by kernel_rfl) (by kernel_rfl) (fun _ _ _ h => h) (fun w' hS => by kernel_rfl) (Seen.refl WB).drew ?_
            simp only [Act.put, List.setIfInBounds_toArray, List.set_cons_zero, List.set_cons_succ]
            refine hTake 10 (some 137) (.bool false) (by kernel_rfl) (by kernel_rfl) (by kernel_rfl) (by kernel_rfl) (by kernel_rfl) (by kernel_rfl) (fun _ _ _ h => h) (fun w' hS => run_by (binOp .neq 3 (.int .i64 (N : Int)) (.int .i64 (N : Int))) (by kernel_rfl) (neq_n _ N)) (Seen.refl WB).drew ?_
            simp only [Act.put, List.setIfInBounds_toArray, List.set_cons_zero, List.set_cons_succ]
            refine hTake 11 (some 138) (.bool false) (by kernel_rfl) (by kernel_rfl) (by kernel_rfl) (by kernel_rfl) (by kernel_rfl) (by kernel_rfl) (fun _ _ _ h => h) (fun w' hS => by kernel_rfl) (Seen.refl WB).drew ?_
            simp only [Act.put, List.setIfInBounds_toArray, List.set_cons_zero, List.set_cons_succ]
            refine hTake 12 (some 139) (.bool false) (by kernel_rfl) (by kernel_rfl) (by kernel_rfl) (by kernel_rfl) (by kernel_rfl) (by kernel_rfl) (fun _ _ _ h => h) (fun w' hS => by kernel_rfl) (Seen.refl WB).drew ?_
            simp only [Act.put, List.setIfInBounds_toArray, List.set_cons_zero, List.set_cons_succ]
            refine hTake 13 (some 140) (.pointer (some ⟨X5, 17, none⟩)) (by kernel_rfl) (by kernel_rfl) (by kernel_rfl) (by kernel_rfl) (by kernel_rfl) (by kernel_rfl) (fun _ _ _ h => h) (fun w' hS => by kernel_rfl) (Seen.refl WB).drew ?_
            simp only [Act.put, List.setIfInBounds_toArray, List.set_cons_zero, List.set_cons_succ]
            refine hTake 14 (some 141) (chv F.ch) (by kernel_rfl) (by kernel_rfl) (by kernel_rfl) (by kernel_rfl) (by kernel_rfl) (by kernel_rfl) (fun _ _ _ h => h) (fun w' hS => run_by (Instr.loadAt 45 (.pointer (some ⟨X5, 17, none⟩))) (by kernel_rfl) (lda45 (vs := chl F.ch) ((F5.out.seen hS).mid 17 8) rfl)) (Seen.refl WB).drew ?_
            simp only [Act.put, List.setIfInBounds_toArray, List.set_cons_zero, List.set_cons_succ]
            refine hTake 16 (some 143) (.pointer (some ⟨X6, 17, none⟩)) (by kernel_rfl) (by kernel_rfl) (by kernel_rfl) (by kernel_rfl) (by kernel_rfl) (by kernel_rfl) (fun _ _ _ h => h) (fun w' hS => by kernel_rfl) (Seen.refl WB).drew ?_
            simp only [Act.put, List.setIfInBounds_toArray, List.set_cons_zero, List.set_cons_succ]
            refine hTake 17 (some 144) (chv F.ch) (by kernel_rfl) (by kernel_rfl) (by kernel_rfl) (by kernel_rfl) (by kernel_rfl) (by kernel_rfl) (fun _ _ _ h => h) (fun w' hS => run_by (Instr.loadAt 45 (.pointer (some ⟨X6, 17, none⟩))) (by kernel_rfl) (lda45 (vs := chl F.ch) ((F6.out.seen hS).mid 17 8) rfl)) (Seen.refl WB).drew ?_
            simp only [Act.put, List.setIfInBounds_toArray, List.set_cons_zero, List.set_cons_succ]
            refine hCall 15 (some 142) 13 #[chv F.ch] (by kernel_rfl) (by kernel_rfl) (by kernel_rfl) (by kernel_rfl) (by kernel_rfl) ?_
            refine (chOf_any F.ch _).mono ?_
            rintro e wd1 ⟨rfl, hb⟩
            have acc1 : Seen WB wd1 := Seen.next (Seen.refl WB).drew hb
            clear hb
            refine ⟨_, rfl, acc1, ?_⟩
            simp only [Act.put, List.setIfInBounds_toArray, List.set_cons_zero, List.set_cons_succ]
            refine hCall 18 (some 145) 13 #[chv F.ch] (by kernel_rfl) (by kernel_rfl) (by kernel_rfl) (by kernel_rfl) (by kernel_rfl) ?_
            refine (chOf_any F.ch _).mono ?_
            rintro e wd2 ⟨rfl, hb⟩
            have acc2 : Seen WB wd2 := Seen.next acc1 hb
            clear hb
            refine ⟨_, rfl, acc2, ?_⟩
            simp only [Act.put, List.setIfInBounds_toArray, List.set_cons_zero, List.set_cons_succ]
            refine hTake 19 (some 146) (.bool false) (by kernel_rfl) (by kernel_rfl) (by kernel_rfl) (by kernel_rfl) (by kernel_rfl) (by kernel_rfl) (fun _ _ _ h => h) (fun w' hS => run_by (do eqGuard .neq 58 (Operand.tmp 142) (Operand.tmp 145) (chv F.ch) (chv F.ch); binOp .neq 58 (chv F.ch) (chv F.ch)) (by kernel_rfl) (neq_cg _ F.ch (Operand.tmp 142) (Operand.tmp 145))) acc2 ?_
            simp only [Act.put, List.setIfInBounds_toArray, List.set_cons_zero, List.set_cons_succ]
            refine hTake 20 (some 147) (.bool false) (by kernel_rfl) (by kernel_rfl) (by kernel_rfl) (by kernel_rfl) (by kernel_rfl) (by kernel_rfl) (fun _ _ _ h => h) (fun w' hS => by kernel_rfl) acc2 ?_
            simp only [Act.put, List.setIfInBounds_toArray, List.set_cons_zero, List.set_cons_succ]
            refine hTake 21 (some 148) (.bool false) (by kernel_rfl) (by kernel_rfl) (by kernel_rfl) (by kernel_rfl) (by kernel_rfl) (by kernel_rfl) (fun _ _ _ h => h) (fun w' hS => by kernel_rfl) acc2 ?_
            simp only [Act.put, List.setIfInBounds_toArray, List.set_cons_zero, List.set_cons_succ]
            refine hTake 22 (some 149) (.pointer (some ⟨X5, 3, none⟩)) (by kernel_rfl) (by kernel_rfl) (by kernel_rfl) (by kernel_rfl) (by kernel_rfl) (by kernel_rfl) (fun _ _ _ h => h) (fun w' hS => by kernel_rfl) acc2 ?_
            simp only [Act.put, List.setIfInBounds_toArray, List.set_cons_zero, List.set_cons_succ]
            refine hTake 23 (some 150) (.int .i64 F.h) (by kernel_rfl) (by kernel_rfl) (by kernel_rfl) (by kernel_rfl) (by kernel_rfl) (by kernel_rfl) (fun _ _ _ h => h) (fun w' hS => run_by (Instr.loadAt 2 (.pointer (some ⟨X5, 3, none⟩))) (by kernel_rfl) (ldc2 ((F5.out.seen hS).cell 3))) acc2 ?_
            simp only [Act.put, List.setIfInBounds_toArray, List.set_cons_zero, List.set_cons_succ]
            refine hTake 24 (some 151) (.pointer (some ⟨X6, 3, none⟩)) (by kernel_rfl) (by kernel_rfl) (by kernel_rfl) (by kernel_rfl) (by kernel_rfl) (by kernel_rfl) (fun _ _ _ h => h) (fun w' hS => by kernel_rfl) acc2 ?_
            simp only [Act.put, List.setIfInBounds_toArray, List.set_cons_zero, List.set_cons_succ]
            refine hTake 25 (some 152) (.int .i64 F.h) (by kernel_rfl) (by kernel_rfl) (by kernel_rfl) (by kernel_rfl) (by kernel_rfl) (by kernel_rfl) (fun _ _ _ h => h) (fun w' hS => run_by (Instr.loadAt 2 (.pointer (some ⟨X6, 3, none⟩))) (by kernel_rfl) (ldc2 ((F6.out.seen hS).cell 3))) acc2 ?_
            simp only [Act.put, List.setIfInBounds_toArray, List.set_cons_zero, List.set_cons_succ]
            refine hTake 26 (some 153) (.bool false) (by kernel_rfl) (by kernel_rfl) (by kernel_rfl) (by kernel_rfl) (by kernel_rfl) (by kernel_rfl) (fun _ _ _ h => h) (fun w' hS => run_by (binOp .neq 2 (.int .i64 F.h) (.int .i64 F.h)) (by kernel_rfl) (neq_m _ F.h)) acc2 ?_
            simp only [Act.put, List.setIfInBounds_toArray, List.set_cons_zero, List.set_cons_succ]
            refine hTake 27 (some 154) (.bool false) (by kernel_rfl) (by kernel_rfl) (by kernel_rfl) (by kernel_rfl) (by kernel_rfl) (by kernel_rfl) (fun _ _ _ h => h) (fun w' hS => by kernel_rfl) acc2 ?_
            simp only [Act.put, List.setIfInBounds_toArray, List.set_cons_zero, List.set_cons_succ]
            refine wpAnyH_done (by kernel_rfl) ?_ _
            have SB := Lib.hid (show Seen WB _ from acc2)
            have cL5 : wd2.cell? ⟨X5 + 1, 0, none⟩ = some (.slice va5 N vc5) := (L5.out.seen SB.out).cell 0
            go_wp2_with fail
            go_loopw [158] (fun x wr => ∃ k : Nat, x = .int .i64 k ∧ k ≤ N ∧ Seen WB wr) (fun x _ => N - (intOf x).toNat)
            case atStart => exact ⟨0, rfl, by omega, SB.out⟩
            case round =>
              clear SB
              obtain ⟨k, rfl, hk, hsr⟩ := hrel
              have SR := Lib.hid hsr
              clear hsr
              have hsm := HSM.out
              have LR5 : wr.cell? ⟨X5 + 1, 0, none⟩ = some (.slice va5 N vc5) := (L5.out.seen SR.out).cell 0
              by_cases hlt : k < N
              ·
                have hk' : (k : Int) < (N : Int) := by omega
                have hN0 : 0 < N := by omega
                have hmem : ps.getD k zPd ∈ ps := by
                  rw [List.getD_eq_getElem?_getD, List.getElem?_eq_getElem (show k < ps.length by rw [HPS.out]; exact hlt)]
                  exact List.getElem_mem _
                obtain ⟨m1, e1, e2, e3⟩ := HKA.out _ hmem
                obtain ⟨B5, o5, rfl, -⟩ := SL5.out.2 hN0
                obtain ⟨B6, o6, rfl, -⟩ := SL6.out.2 hN0
                have hi1 : ix l m1 < M := by
                  rw [← HMM.out, List.length_map]
                  exact ix_lt e3 e2
                obtain ⟨BI, oI, rfl, hcI⟩ := ZI.out.cells (show 0 < M by omega)
                obtain ⟨f1, hf1⟩ : ∃ f, (ps.getD k zPd).f = f := ⟨_, rfl⟩
                have hre : (ps.map (reP l)).getD k zPd = ⟨(ix l m1 : Int), f1⟩ := by
                  rw [List.getD_eq_getElem?_getD, List.getElem?_map, ← hf1]
                  have h9 := e1
                  rw [List.getD_eq_getElem?_getD] at h9 ⊢
                  rw [List.getElem?_eq_getElem (show k < ps.length by rw [HPS.out]; exact hlt)] at h9 ⊢
                  show reP l _ = _
                  unfold reP reI
                  have h9' : (ps[k]'(by rw [HPS.out]; exact hlt)).n = (m1 : Int) := h9
                  rw [h9', Int.toNat_natCast]
                  rfl
                have n5 := fun w' (h' : Seen WB w') => (pd_cell hlt (sl_cells hN0 (SL5.out.seen pdl_length h'))).trans (by rw [e1])
                have n6 := fun w' (h' : Seen WB w') => (pd_cell hlt (sl_cells hN0 (SL6.out.seen pdl_length h'))).trans (by rw [hre])
                have r5 := fun w' (h' : Seen WB w') => pd_frame hlt (sl_cells hN0 (SL5.out.seen pdl_length h'))
                have r6 := fun w' (h' : Seen WB w') => pd_frame hlt (sl_cells hN0 (SL6.out.seen pdl_length h'))
                rw [hf1] at r5
                rw [hre] at r6
                obtain ⟨i1, hi⟩ : ∃ i, ix l m1 = i := ⟨_, rfl⟩
                have nI : ∀ w', Seen WB w' → w'.cell? ⟨BI, oI + i1, none⟩ = some (.int .i64 (m1 : Int)) := fun w' h' => by
                  obtain ⟨b', off', eq', hc'⟩ := (ZI.out.seen h').cells (show 0 < M by omega)
                  cases eq'
                  rw [← hi, hc' _ hi1]
                  have := kl_is e3 e2
                  unfold bat
                  rw [List.getD_eq_getElem?_getD, this]
                  rfl
                rw [hi] at n6 hi1
                clear hmem e1 e2 e3 hf1 hre hi hcI LR5
                have sd : Seen WB wr.drew := SR.out.trans (Seen.refl wr).drew
                go_upto_region 34 with fail
                refine wp_region_held_drew (S := fun w' => Seen WB w') (by kernel_rfl) sd (fun _ => ?_)
                refine hTake 0 (some 161) (.pointer (some ⟨(X5 + 1), 0, none⟩)) (by kernel_rfl) (by kernel_rfl) (by kernel_rfl) (by kernel_rfl) (by kernel_rfl) (by kernel_rfl) (fun _ _ _ h => h) (fun w' hS => by kernel_rfl) sd ?_
                simp only [Act.put, List.setIfInBounds_toArray, List.set_cons_zero, List.set_cons_succ]
                refine hTake 1 (some 162) (.slice (some ⟨B5, o5, none⟩) N vc5) (by kernel_rfl) (by kernel_rfl) (by kernel_rfl) (by kernel_rfl) (by kernel_rfl) (by kernel_rfl) (fun _ _ _ h => h) (fun w' hS => run_by (Instr.loadAt 48 (.pointer (some ⟨(X5 + 1), 0, none⟩))) (by kernel_rfl) (ldc48 ((L5.out.seen hS).cell 0))) sd ?_
                simp only [Act.put, List.setIfInBounds_toArray, List.set_cons_zero, List.set_cons_succ]
                refine hTake 2 (some 163) (.int .i64 (k : Int)) (by kernel_rfl) (by kernel_rfl) (by kernel_rfl) (by kernel_rfl) (by kernel_rfl) (by kernel_rfl) (fun _ _ _ h => h) (fun w' hS => by kernel_rfl) sd ?_
                simp only [Act.put, List.setIfInBounds_toArray, List.set_cons_zero, List.set_cons_succ]
                refine hTake 3 (some 164) (.pointer (some ⟨B5, o5 + k * 26, none⟩)) (by kernel_rfl) (by kernel_rfl) (by kernel_rfl) (by kernel_rfl) (by kernel_rfl) (by kernel_rfl) (fun _ _ _ h => h) (fun w' hS => run_by (Instr.indexAt 48 (.slice (some ⟨B5, o5, none⟩) N vc5) (.int .i64 (k : Int))) (by kernel_rfl) (run_index48o B5 o5 k N vc5 hlt _)) sd ?_
                simp only [Act.put, List.setIfInBounds_toArray, List.set_cons_zero, List.set_cons_succ]
                refine hTake 4 (some 165) (.pointer (some ⟨B5, o5 + k * 26, none⟩)) (by kernel_rfl) (by kernel_rfl) (by kernel_rfl) (by kernel_rfl) (by kernel_rfl) (by kernel_rfl) (fun _ _ _ h => h) (fun w' hS => by kernel_rfl) sd ?_
                simp only [Act.put, List.setIfInBounds_toArray, List.set_cons_zero, List.set_cons_succ]
                refine hTake 5 (some 166) (.int .i64 (m1 : Int)) (by kernel_rfl) (by kernel_rfl) (by kernel_rfl) (by kernel_rfl) (by kernel_rfl) (by kernel_rfl) (fun _ _ _ h => h) (fun w' hS => run_by (Instr.loadAt 3 (.pointer (some ⟨B5, o5 + k * 26, none⟩))) (by kernel_rfl) (ldc3 ((n5 _ hS)))) sd ?_
                simp only [Act.put, List.setIfInBounds_toArray, List.set_cons_zero, List.set_cons_succ]
                refine hTake 6 (some 167) (.slice (some ⟨BI, oI, none⟩) M cI) (by kernel_rfl) (by kernel_rfl) (by kernel_rfl) (by kernel_rfl) (by kernel_rfl) (by kernel_rfl) (fun _ _ _ h => h) (fun w' hS => by kernel_rfl) sd ?_
                simp only [Act.put, List.setIfInBounds_toArray, List.set_cons_zero, List.set_cons_succ]
                refine hTake 7 (some 168) (.pointer (some ⟨(X6 + 1), 0, none⟩)) (by kernel_rfl) (by kernel_rfl) (by kernel_rfl) (by kernel_rfl) (by kernel_rfl) (by kernel_rfl) (fun _ _ _ h => h) (fun w' hS => by kernel_rfl) sd ?_
                simp only [Act.put, List.setIfInBounds_toArray, List.set_cons_zero, List.set_cons_succ]
                refine hTake 8 (some 169) (.slice (some ⟨B6, o6, none⟩) N vc6) (by kernel_rfl) (by kernel_rfl) (by kernel_rfl) (by kernel_rfl) (by kernel_rfl) (by kernel_rfl) (fun _ _ _ h => h) (fun w' hS => run_by (Instr.loadAt 48 (.pointer (some ⟨(X6 + 1), 0, none⟩))) (by kernel_rfl) (ldc48 ((L6.out.seen hS).cell 0))) sd ?_
                simp only [Act.put, List.setIfInBounds_toArray, List.set_cons_zero, List.set_cons_succ]
                refine hTake 9 (some 170) (.int .i64 (k : Int)) (by kernel_rfl) (by kernel_rfl) (by kernel_rfl) (by kernel_rfl) (by kernel_rfl) (by kernel_rfl) (fun _ _ _ h => h) (fun w' hS => by kernel_rfl) sd ?_
                simp only [Act.put, List.setIfInBounds_toArray, List.set_cons_zero, List.set_cons_succ]
                refine hTake 10 (some 171) (.pointer (some ⟨B6, o6 + k * 26, none⟩)) (by kernel_rfl) (by kernel_rfl) (by kernel_rfl) (by kernel_rfl) (by kernel_rfl) (by kernel_rfl) (fun _ _ _ h => h) (fun w' hS => run_by (Instr.indexAt 48 (.slice (some ⟨B6, o6, none⟩) N vc6) (.int .i64 (k : Int))) (by kernel_rfl) (run_index48o B6 o6 k N vc6 hlt _)) sd ?_
                simp only [Act.put, List.setIfInBounds_toArray, List.set_cons_zero, List.set_cons_succ]
                refine hTake 11 (some 172) (.pointer (some ⟨B6, o6 + k * 26, none⟩)) (by kernel_rfl) (by kernel_rfl) (by kernel_rfl) (by kernel_rfl) (by kernel_rfl) (by kernel_rfl) (fun _ _ _ h => h) (fun w' hS => by kernel_rfl) sd ?_
                simp only [Act.put, List.setIfInBounds_toArray, List.set_cons_zero, List.set_cons_succ]
                refine hTake 12 (some 173) (.int .i64 (i1 : Int)) (by kernel_rfl) (by kernel_rfl) (by kernel_rfl) (by kernel_rfl) (by kernel_rfl) (by kernel_rfl) (fun _ _ _ h => h) (fun w' hS => run_by (Instr.loadAt 3 (.pointer (some ⟨B6, o6 + k * 26, none⟩))) (by kernel_rfl) (ldc3 ((n6 _ hS)))) sd ?_
                simp only [Act.put, List.setIfInBounds_toArray, List.set_cons_zero, List.set_cons_succ]
                refine hTake 13 (some 174) (.pointer (some ⟨BI, oI + i1, none⟩)) (by kernel_rfl) (by kernel_rfl) (by kernel_rfl) (by kernel_rfl) (by kernel_rfl) (by kernel_rfl) (fun _ _ _ h => h) (fun w' hS => run_by (Instr.indexAt 32 (.slice (some ⟨BI, oI, none⟩) M cI) (.int .i64 (i1 : Int))) (by kernel_rfl) (run_index32 BI oI i1 M cI hi1 _)) sd ?_
                simp only [Act.put, List.setIfInBounds_toArray, List.set_cons_zero, List.set_cons_succ]
                refine hTake 14 (some 175) (.int .i64 (m1 : Int)) (by kernel_rfl) (by kernel_rfl) (by kernel_rfl) (by kernel_rfl) (by kernel_rfl) (by kernel_rfl) (fun _ _ _ h => h) (fun w' hS => run_by (Instr.loadAt 3 (.pointer (some ⟨BI, oI + i1, none⟩))) (by kernel_rfl) (ldc3 (nI _ hS))) sd ?_
                simp only [Act.put, List.setIfInBounds_toArray, List.set_cons_zero, List.set_cons_succ]
                refine hTake 15 (some 176) (.bool false) (by kernel_rfl) (by kernel_rfl) (by kernel_rfl) (by kernel_rfl) (by kernel_rfl) (by kernel_rfl) (fun _ _ _ h => h) (fun w' hS => run_by (binOp .neq 3 (.int .i64 (m1 : Int)) (.int .i64 (m1 : Int))) (by kernel_rfl) (neq_n _ (m1 : Int))) sd ?_
                simp only [Act.put, List.setIfInBounds_toArray, List.set_cons_zero, List.set_cons_succ]
                refine hTake 16 (some 177) (.bool false) (by kernel_rfl) (by kernel_rfl) (by kernel_rfl) (by kernel_rfl) (by kernel_rfl) (by kernel_rfl) (fun _ _ _ h => h) (fun w' hS => by kernel_rfl) sd ?_
                simp only [Act.put, List.setIfInBounds_toArray, List.set_cons_zero, List.set_cons_succ]
                refine hTake 17 (some 178) (.pointer (some ⟨(X5 + 1), 0, none⟩)) (by kernel_rfl) (by kernel_rfl) (by kernel_rfl) (by kernel_rfl) (by kernel_rfl) (by kernel_rfl) (fun _ _ _ h => h) (fun w' hS => by kernel_rfl) sd ?_
                simp only [Act.put, List.setIfInBounds_toArray, List.set_cons_zero, List.set_cons_succ]
                refine hTake 18 (some 179) (.slice (some ⟨B5, o5, none⟩) N vc5) (by kernel_rfl) (by kernel_rfl) (by kernel_rfl) (by kernel_rfl) (by kernel_rfl) (by kernel_rfl) (fun _ _ _ h => h) (fun w' hS => run_by (Instr.loadAt 48 (.pointer (some ⟨(X5 + 1), 0, none⟩))) (by kernel_rfl) (ldc48 ((L5.out.seen hS).cell 0))) sd ?_
                simp only [Act.put, List.setIfInBounds_toArray, List.set_cons_zero, List.set_cons_succ]
                refine hTake 19 (some 180) (.int .i64 (k : Int)) (by kernel_rfl) (by kernel_rfl) (by kernel_rfl) (by kernel_rfl) (by kernel_rfl) (by kernel_rfl) (fun _ _ _ h => h) (fun w' hS => by kernel_rfl) sd ?_
                simp only [Act.put, List.setIfInBounds_toArray, List.set_cons_zero, List.set_cons_succ]
                refine hTake 20 (some 181) (.pointer (some ⟨B5, o5 + k * 26, none⟩)) (by kernel_rfl) (by kernel_rfl) (by kernel_rfl) (by kernel_rfl) (by kernel_rfl) (by kernel_rfl) (fun _ _ _ h => h) (fun w' hS => run_by (Instr.indexAt 48 (.slice (some ⟨B5, o5, none⟩) N vc5) (.int .i64 (k : Int))) (by kernel_rfl) (run_index48o B5 o5 k N vc5 hlt _)) sd ?_
                simp only [Act.put, List.setIfInBounds_toArray, List.set_cons_zero, List.set_cons_succ]
                refine hTake 21 (some 182) (.pointer (some ⟨B5, o5 + k * 26 + 1, none⟩)) (by kernel_rfl) (by kernel_rfl) (by kernel_rfl) (by kernel_rfl) (by kernel_rfl) (by kernel_rfl) (fun _ _ _ h => h) (fun w' hS => by kernel_rfl) sd ?_
                simp only [Act.put, List.setIfInBounds_toArray, List.set_cons_zero, List.set_cons_succ]
                refine hTake 22 (some 183) (frv f1) (by kernel_rfl) (by kernel_rfl) (by kernel_rfl) (by kernel_rfl) (by kernel_rfl) (by kernel_rfl) (fun _ _ _ h => h) (fun w' hS => run_by (Instr.loadAt 47 (.pointer (some ⟨B5, o5 + k * 26 + 1, none⟩))) (by kernel_rfl) (lda47 (vs := frl f1) (r5 _ hS) rfl)) sd ?_
                simp only [Act.put, List.setIfInBounds_toArray, List.set_cons_zero, List.set_cons_succ]
                refine hTake 23 (some 184) (.pointer (some ⟨(X6 + 1), 0, none⟩)) (by kernel_rfl) (by kernel_rfl) (by kernel_rfl) (by kernel_rfl) (by kernel_rfl) (by kernel_rfl) (fun _ _ _ h => h) (fun w' hS => by kernel_rfl) sd ?_
                simp only [Act.put, List.setIfInBounds_toArray, List.set_cons_zero, List.set_cons_succ]
                refine hTake 24 (some 185) (.slice (some ⟨B6, o6, none⟩) N vc6) (by kernel_rfl) (by kernel_rfl) (by kernel_rfl) (by kernel_rfl) (by kernel_rfl) (by kernel_rfl) (fun _ _ _ h => h) (fun w' hS => run_by (Instr.loadAt 48 (.pointer (some ⟨(X6 + 1), 0, none⟩))) (by kernel_rfl) (ldc48 ((L6.out.seen hS).cell 0))) sd ?_
                simp only [Act.put, List.setIfInBounds_toArray, List.set_cons_zero, List.set_cons_succ]
                refine hTake 25 (some 186) (.int .i64 (k : Int)) (by kernel_rfl) (by kernel_rfl) (by kernel_rfl) (by kernel_rfl) (by kernel_rfl) (by kernel_rfl) (fun _ _ _ h => h) (fun w' hS => by kernel_rfl) sd ?_
                simp only [Act.put, List.setIfInBounds_toArray, List.set_cons_zero, List.set_cons_succ]
                refine hTake 26 (some 187) (.pointer (some ⟨B6, o6 + k * 26, none⟩)) (by kernel_rfl) (by kernel_rfl) (by kernel_rfl) (by kernel_rfl) (by kernel_rfl) (by kernel_rfl) (fun _ _ _ h => h) (fun w' hS => run_by (Instr.indexAt 48 (.slice (some ⟨B6, o6, none⟩) N vc6) (.int .i64 (k : Int))) (by kernel_rfl) (run_index48o B6 o6 k N vc6 hlt _)) sd ?_
                simp only [Act.put, List.setIfInBounds_toArray, List.set_cons_zero, List.set_cons_succ]
                refine hTake 27 (some 188) (.pointer (some ⟨B6, o6 + k * 26 + 1, none⟩)) (by kernel_rfl) (by kernel_rfl) (by kernel_rfl) (by kernel_rfl) (by kernel_rfl) (by kernel_rfl) (fun _ _ _ h => h) (fun w' hS => by kernel_rfl) sd ?_
                simp only [Act.put, List.setIfInBounds_toArray, List.set_cons_zero, List.set_cons_succ]
                refine hTake 28 (some 189) (frv f1) (by kernel_rfl) (by kernel_rfl) (by kernel_rfl) (by kernel_rfl) (by kernel_rfl) (by kernel_rfl) (fun _ _ _ h => h) (fun w' hS => run_by (Instr.loadAt 47 (.pointer (some ⟨B6, o6 + k * 26 + 1, none⟩))) (by kernel_rfl) (lda47 (vs := frl f1) (r6 _ hS) rfl)) sd ?_
                simp only [Act.put, List.setIfInBounds_toArray, List.set_cons_zero, List.set_cons_succ]
                refine hTake 29 (some 190) (.bool false) (by kernel_rfl) (by kernel_rfl) (by kernel_rfl) (by kernel_rfl) (by kernel_rfl) (by kernel_rfl) (fun _ _ _ h => h) (fun w' hS => run_by (do eqGuard .neq 47 (Operand.tmp 183) (Operand.tmp 189) (frv f1) (frv f1); binOp .neq 47 (frv f1) (frv f1)) (by kernel_rfl) (neq_fg _ f1 (Operand.tmp 183) (Operand.tmp 189))) sd ?_
                simp only [Act.put, List.setIfInBounds_toArray, List.set_cons_zero, List.set_cons_succ]
                refine hTake 30 (some 191) (.bool false) (by kernel_rfl) (by kernel_rfl) (by kernel_rfl) (by kernel_rfl) (by kernel_rfl) (by kernel_rfl) (fun _ _ _ h => h) (fun w' hS => by kernel_rfl) sd ?_
                simp only [Act.put, List.setIfInBounds_toArray, List.set_cons_zero, List.set_cons_succ]
                refine wpAnyH_done (by kernel_rfl) ?_ _
                go_wp2_with fail
                go_roundw
                case rel => exact ⟨k + 1, by go_num, by omega, sd⟩
                case measure => simp [intOf]; omega
              · have hk' : ¬ (k : Int) < (N : Int) := by omega
                go_wp2_with fail
                go_ret
                exact ⟨rfl, SW.out.trans (SV.out.trans (SVB.out.trans SR.out))⟩
    · obtain ⟨C, hC⟩ : ∃ C, checkT l = C := ⟨_, rfl⟩
      rw [hC] at HC hc
      have hb : (C == 0) = false := by simpa using hc
      have hb2 : (C != 0) = true := by simpa using hc
      clear hC hc HS
      go_enter Try.func3, Try.ntmps3
      go_upto_region 1 with fail
      rw [← hW]
      clear hW
      go_wp2_with (first
        | (go_at_call 6; refine A0.out.mono ?_; clear A0; rintro _ w1 ⟨rfl, hs1⟩; have S1 : Hid (Seen W w1) := hs1; clear hs1)
        | (go_at_call 7; refine (HC.out w1 (SW.out.trans S1.out)).mono ?_; clear HC; rintro _ w2 ⟨rfl, hs2⟩; have S2 : Hid (Seen W w2) := S1.out.trans hs2; clear hs2)
        | (go_at_call 6; refine (awake_any14 w2).mono ?_; rintro _ w3 ⟨rfl, hs3⟩; have S3 : Hid (Seen W w3) := S2.out.trans hs3; clear hs3))
      go_ret
      exact ⟨rfl, SW.out.trans S3.out⟩
/-! ### The row's step. -/
set_option maxRecDepth 100000 in
theorem lifted (os : Os) (started : os.Started) (H : Type) (enc : TypeId × Value → H) :
    ReturnsInHanded {} Try.checked os 3 .any (Rows.flowApartSpec.pre6 enc Try.prog Try.f3 Rows.flowApartRow.domain false) (Rows.flowApartSpec.post enc Try.prog Try.f3 false true false false) := by
  refine returnsInHanded_of_change (C := Try.checked) own started (by kernel_rfl) Try.func3
    (ChangeSpec.witness6 (enc := enc) (C := Try.checked) false ⟨#[], #[.slice none 0 0, .int .i64 0, .agg #[.bool false, .int .i64 0]], []⟩ 8 (by kernel_rfl) (by kernel_rfl) (by kernel_rfl) (by kernel_rfl)) ?_
  intro W base args ds gs before hval0 hW hcnd _
  have hval : ∀ (j : Nat) t v, Try.f3.params[j]? = some t → args[j]? = some v → Value.okWide Try.prog W .any base t v := hval0
  have hW' := hW
  obtain ⟨p, q, hA0, hV, rfl, hfz, hnd⟩ := hW
  have hA : DataW.TrodAll enc Try.prog W 0 (fun _ => true) true Try.f3.params.toList args.toList ds p := hA0
  rw [Try.params3] at hA hval
  obtain ⟨v0, vs0, d0, ds0, p0, q0, hargs, rfl, rfl, h0, r0⟩ := trodAll_cons hA
  obtain ⟨v1, vs1, d1, ds1, p1, q1, rfl, rfl, rfl, h1, r1⟩ := trodAll_cons r0
  obtain ⟨v2, vs2, d2, ds2, p2, q2, rfl, rfl, rfl, h2, r2⟩ := trodAll_cons r1
  obtain ⟨rfl, rfl, rfl⟩ := trodAll_nil r2
  obtain rfl : args = #[v0, v1, v2] := by cases args; simp_all
  obtain ⟨rfl, rfl⟩ := trodVars_none hV
  have k0 := h0
  have lt0 : ∀ x ∈ p0, x.block < W.heap.size := by obtain ⟨m, hm⟩ := k0; exact DataW.trod_lt m _ _ _ hm
  obtain ⟨a0, len0, cap0, g0, rfl, o0⟩ := open_nodes (hval 0 22 v0 rfl rfl) h0
  have k1 := h1
  have lt1 : ∀ x ∈ p1, x.block < W.heap.size := by obtain ⟨m, hm⟩ := k1; exact DataW.trod_lt m _ _ _ hm
  obtain ⟨g1, rfl, o1⟩ := open_num (hval 1 2 v1 rfl rfl) h1
  have k2 := h2
  have lt2 : ∀ x ∈ p2, x.block < W.heap.size := by obtain ⟨m, hm⟩ := k2; exact DataW.trod_lt m _ _ _ hm
  obtain ⟨g2, rfl, o2⟩ := open_size (hval 2 24 v2 rfl rfl) h2
  clear hA0 hval0
  refine (walk a0 len0 cap0 g0 g1 g2 W o0 o1 o2).mono fun e W' ⟨he, bel⟩ => ?_
  subst he
  exact ⟨_, rfl, _, _, _, [], _, [], hW', trodAll_mk1 (shut_bool Try.underlying4 _), (trodAll_cons_mk (Below.trod laidOut (by kernel_rfl) (of_decide_eq_true (by kernel_rfl)) k0 bel lt0) (trodAll_cons_mk (Below.trod laidOut (by kernel_rfl) (of_decide_eq_true (by kernel_rfl)) k1 bel lt1) (trodAll_cons_mk (Below.trod laidOut (by kernel_rfl) (of_decide_eq_true (by kernel_rfl)) k2 bel lt2) trodAll_mk0))), rfl, bel.frame _, fun h => by cases h⟩

theorem over : Rows.flowApartRow.holds Try.pinned (OpenSpec.ofChange Rows.flowApartSpec) :=
  OpenClaim.holds_of_wide 3 Try.f3 rfl rfl rfl rfl rfl rfl rfl ⟨rfl, rfl, rfl, rfl, rfl⟩ rfl rfl rfl rfl rfl (by kernel_rfl) Try.func3 (by kernel_rfl)
    (of_decide_eq_true (by kernel_rfl)) (by unfold Func.isWrapper; first | (rw [if_pos (by decide +kernel)]; kernel_rfl) | (rw [if_neg (by decide +kernel)]; exact ⟨rfl, rfl⟩))
    (fun os started H enc _ => lifted os started H enc)

/-- The statement. -/
theorem proved : Rows.FlowApartSaid := over
#print axioms proved
end Go.Proofs.Yteplmjgohnbpbaa.flowApart
