/- Proved: for every list of nodes, any node, any container the law FlowLays returns true, and its arguments read afterwards as before; no conditions. -/
import Derived.Test.YtngeaigkafamiaaGreatRows
import Derived.WalkKit
import Derived.Test.YtngeaigkafamiaaGreatM34
import Derived.Test.YtngeaigkafamiaaGreatM38
import Derived.Test.YtngeaigkafamiaaGreatM30
import Derived.Test.YtngeaigkafamiaaGreatM6
import Derived.Test.YtngeaigkafamiaaGreatM33
import Derived.Test.YtngeaigkafamiaaGreatM0
import Derived.ProofKit
import Derived.OpenShut
import Derived.ShutString
import Derived.ChangeOld
import Derived.Below
namespace Go.Proofs.YtngeaigkafamiaaGreat.flowLays
open Go.ChangeShapes Go.WideShapes Go.ChangeAt Go.RowKit
set_option linter.unusedVariables false
theorem own : ownKnob Tryz.prog.godebug = none := by kernel_rfl
theorem laidOut : laidOutB Tryz.prog = true := by kernel_rfl
set_option maxRecDepth 100000
theorem zz43 : (Tryz.prog.info? 43).map (·.size) = some 9 := by kernel_rfl
theorem zz24 : (Tryz.prog.info? 24).map (·.size) = some 2 := by kernel_rfl
theorem rda43q {w : World} {X o : Nat} {vs : List Value} (h : w.rangeAt X o vs) (hl : vs.length = 9) : (Instr.loadAt 43 (.pointer (some ⟨X, o, none⟩))).run Tryz.prog w = .ok (.agg vs.toArray) w :=
  run_loadAt_mid w X o 43 vs _ h Tryz.underlying43 rfl (by rw [hl]; exact zz43)
theorem rda24q {w : World} {X o : Nat} {vs : List Value} (h : w.rangeAt X o vs) (hl : vs.length = 2) : (Instr.loadAt 24 (.pointer (some ⟨X, o, none⟩))).run Tryz.prog w = .ok (.agg vs.toArray) w :=
  run_loadAt_mid w X o 24 vs _ h Tryz.underlying24 rfl (by rw [hl]; exact zz24)
section
variable {H : Type} {enc : TypeId × Value → H} {w : World} {base : Nat} {spare : Nat → Bool} {held : Bool} {r : Reach} {b0 : Nat} {v : Value} {d : DataW H} {p : List MemPlace}
theorem open_int3 (hv : Value.okWide Tryz.prog w r b0 3 v) (h : DataW.Trod enc Tryz.prog w base spare held 3 v d p) : ∃ n : Int, v = .int .i64 n ∧ -9223372036854775808 ≤ n ∧ n < 9223372036854775808 := by
  obtain ⟨n, rfl, rfl, rfl, wn⟩ := open_int Tryz.underlying3 hv h
  exact ⟨n, rfl, wf_i64 wn⟩
end
theorem box_pile {l : List Nd} (k : Nat) {n : Int} {c : Ct} {b : Bo} (h : boxO l k n c = some b) : b.p.y.length ≤ l.length := by
  cases k with
  | zero => simp [boxO] at h
  | succ k =>
    unfold boxO at h
    split at h
    · split at h
      · cases h
      · rename_i a ha
        split at h
        · simp at h
          subst h
          obtain ⟨_, _, _, hy⟩ := cont_ok (fun q b' hb => box_ch k hb) ha
          show a.p.y.length ≤ _
          rw [hy]
          exact flowV_length l n
        · cases h
    · cases h
def oF (o : Option Bo) : Fr := match o with | some b => b.f | none => zFr
def oL (o : Option Bo) : List Pd := match o with | some b => b.l | none => []
def oP (o : Option Bo) : Pi := match o with | some b => b.p | none => zPi
def oH (o : Option Bo) : Int := match o with | some b => b.hi | none => 0
theorem flow_small {l : List Nd} (hf : FormedT l) {n : Int} {c : Ct} {o : Option Bo} (ho : flowO l n c = o) : (oL o).length ≤ l.length ∧ (oP o).y.length ≤ l.length := by
  cases o with
  | none => exact ⟨by simp [oL], by simp [oP, zPi]⟩
  | some b =>
    unfold flowO at ho
    split at ho
    · rename_i h
      rw [Bool.and_eq_true] at h
      obtain ⟨m, hm, rfl⟩ := made_nat h.1
      have h1 := small_box hf l.length m c b hm ho
      have h2 := end_le (l := l) (a := m) hm
      exact ⟨by show b.l.length ≤ _; omega, box_pile _ ho⟩
    · cases ho
theorem flow_form {l : List Nd} {n : Int} {c : Ct} {W W' : World} {e : Ending} {o : Option Bo} {F : Fr} {ps : List Pd} {P : Pi} {hi : Int} {ok : Bool} {N m : Nat} (ho : flowO l n c = o) (h1 : oF o = F) (h2 : oL o = ps) (h3 : oP o = P) (h4 : oH o = hi) (h5 : o.isSome = ok) (h6 : ps.length = N) (h7 : P.y.length = m) (h : FlowAns l n c W e W') :
    Seen W W' ∧ ∃ va vc ra rc, e = .returned (.tuple #[frv F, layv (.slice va N vc) (.slice ra m rc) P hi, .bool ok]) ∧ SL pdl 26 zPd W' va N ps ∧ ZI W' ra m P.y := by
  subst h1 h2 h3 h4 h5 h6 h7
  obtain ⟨hs, ⟨h, rfl⟩ | ⟨b, v, a, cap, h, rfl, hg, hr⟩⟩ := h
  · rw [ho] at h
    subst h
    exact ⟨hs, none, 0, none, 0, rfl, ⟨rfl, fun h => absurd h (by decide)⟩, ⟨rfl, fun h => absurd h (by decide)⟩⟩
  · rw [ho] at h
    subst h
    obtain ⟨va, vc, rfl, hsl, -⟩ := hg.slice pdl_length zPd
    obtain ⟨ra, rc, e2, hzi, -⟩ := hr.slice
    simp only [Value.slice.injEq] at e2
    obtain ⟨rfl, -, rfl⟩ := e2
    exact ⟨hs, va, vc, _, _, rfl, hsl, hzi⟩
theorem ref_form {l : List Nd} {n : Int} {c : Ct} {W W' : World} {e : Ending} {o : Option Bo} {F : Fr} {ps : List Pd} {P : Pi} {hi : Int} {ok : Bool} {N m : Nat} (ho : flowO l n c = o) (h1 : oF o = F) (h2 : oL o = ps) (h3 : oP o = P) (h4 : oH o = hi) (h5 : o.isSome = ok) (h6 : ps.length = N) (h7 : P.y.length = m) (h : RefBoxAns l n c W e W') :
    Seen W W' ∧ ∃ va vc ra rc, e = .returned (.tuple #[frv F, layv (.slice va N vc) (.slice ra m rc) P hi, .bool ok]) ∧ SL pdl 26 zPd W' va N ps ∧ ZI W' ra m P.y := by
  subst h1 h2 h3 h4 h5 h6 h7
  obtain ⟨hs, ⟨h, rfl⟩ | ⟨b, v, a, cap, h, rfl, hg, hr⟩⟩ := h
  · rw [ho] at h
    subst h
    exact ⟨hs, none, 0, none, 0, rfl, ⟨rfl, fun h => absurd h (by decide)⟩, ⟨rfl, fun h => absurd h (by decide)⟩⟩
  · rw [ho] at h
    subst h
    obtain ⟨va, vc, rfl, hsl, -⟩ := hg.slice pdl_length zPd
    obtain ⟨ra, rc, e2, hzi, -⟩ := hr.slice
    simp only [Value.slice.injEq] at e2
    obtain ⟨rfl, -, rfl⟩ := e2
    exact ⟨hs, va, vc, _, _, rfl, hsl, hzi⟩
set_option maxHeartbeats 8000000 in
theorem walk (a : Option Addr) (n c : Nat) (l : List Nd) (i x : Int) (q : Sz) (rtl : Bool) (w : World) (o : NS w a n l ∧ (∀ q ∈ l, OkN q) ∧ n ≤ c ∧ (a = none → c = 0)) (hi : -9223372036854775808 ≤ i ∧ i < 9223372036854775808) (hx : -9223372036854775808 ≤ x ∧ x < 9223372036854775808) (hq : okN q.n) (_ : True) :
    Calls Tryz.prog 3 #[.slice a n c, .int .i64 i, .int .i64 x, .agg #[.bool q.au, .int .i64 q.n], .bool rtl] w fun e w' => e = .returned (.bool true) ∧ Below w.heap.size w w' := by
  have HS := Lib.hid o.1
  clear o hi hx hq
  obtain ⟨au, hn⟩ := q
  obtain ⟨W, hW⟩ : ∃ W, W = w.alloc (.cells #[.bool au, .int .i64 hn] 24) := ⟨_, rfl⟩
  have k : Blk W w.heap.size [.bool au, .int .i64 hn] 24 := by rw [hW]; exact Blk.new w _ _
  have SW : Hid (Seen w W) := by rw [hW]; exact (Seen.refl w).alloc _
  have lw := k.lt
  have K := Lib.hid k
  clear k
  have A0 := Lib.hid (awake_any14 W)
  by_cases hbig : (n : Int) > 25
  · go_enter Tryz.func3, Tryz.ntmps3
    go_upto_region 1 with fail
    rw [← hW]
    clear hW
    go_wp2_with (first
      | (go_at_call 4; refine A0.out.mono ?_; clear A0; rintro _ w1 ⟨rfl, hs1⟩; have S1 : Hid (Seen W w1) := hs1; clear hs1)
      | (go_at_call 4; refine (awake_any14 w1).mono ?_; rintro _ w2 ⟨rfl, hs2⟩; have S2 : Hid (Seen W w2) := S1.out.trans hs2; clear hs2))
    go_ret
    exact ⟨rfl, SW.out.trans S2.out⟩
  · have HN : n ≤ 25 := by omega
    have HC := Lib.hid fun w' h' => refCheck_any a n c l w' (HS.out.seen h') (by omega)
    by_cases hc : checkT l = 0
    · have hf := check_formed hc
      rw [hc] at HC
      have HO := Lib.hid fun w' h' => of_yes a n c l w' (HS.out.seen h') hc hf (by omega)
      have hll : n = l.length := by have := HS.out.1; omega
      have HB := Lib.hid fun v w' (h' : KV w' v l) => flowBox_any w' (by omega) h' i x au hn rtl
      have HRB : Hid (∀ w', Seen w w' → Calls Tryz.prog 8 #[.slice a n c, .int .i64 i, .int .i64 x, .agg #[.bool au, .int .i64 hn], .bool rtl] w' (RefBoxAns l i ⟨x, ⟨au, hn⟩, rtl⟩ w')) := fun w' h' => rbox_any hf (by omega) w' (HS.out.seen h') i x ⟨au, hn⟩ rtl
      have HF := Lib.hid hf
      have HL : Hid (l.length ≤ 65535) := by unfold Hid; omega
      obtain ⟨oo, hoo⟩ : ∃ y, flowO l i ⟨x, ⟨au, hn⟩, rtl⟩ = y := ⟨_, rfl⟩
      obtain ⟨sm1, sm2⟩ := flow_small hf hoo
      obtain ⟨F, hF⟩ : ∃ y, oF oo = y := ⟨_, rfl⟩
      obtain ⟨ps, hps⟩ : ∃ y, oL oo = y := ⟨_, rfl⟩
      obtain ⟨P, hP⟩ : ∃ y, oP oo = y := ⟨_, rfl⟩
      obtain ⟨hi, hhi⟩ : ∃ y, oH oo = y := ⟨_, rfl⟩
      obtain ⟨ok, hok⟩ : ∃ y, oo.isSome = y := ⟨_, rfl⟩
      rw [hps] at sm1
      rw [hP] at sm2
      obtain ⟨Nn, hNn⟩ : ∃ y, ps.length = y := ⟨_, rfl⟩
      obtain ⟨m, hm⟩ : ∃ y, P.y.length = y := ⟨_, rfl⟩
      rw [hNn] at sm1
      rw [hm] at sm2
      have hNb : Nn ≤ 100000 := by omega
      have hmb : m ≤ 1000000 := by omega
      have HOO : Hid (flowO l i ⟨x, ⟨au, hn⟩, rtl⟩ = oo ∧ oF oo = F ∧ oL oo = ps ∧ oP oo = P ∧ oH oo = hi ∧ oo.isSome = ok ∧ ps.length = Nn ∧ P.y.length = m) := ⟨hoo, hF, hps, hP, hhi, hok, hNn, hm⟩
      clear HS hf hc hll hoo sm1 sm2 hF hps hP hhi hok hNn hm
      go_enter Tryz.func3, Tryz.ntmps3
      go_upto_region 1 with fail
      rw [← hW]
      clear hW
      go_upto_region 6 with (first
        | (go_at_call 4; refine A0.out.mono ?_; clear A0; rintro _ w1 ⟨rfl, hs1⟩; have S1 : Hid (Seen W w1) := hs1; clear hs1)
        | (go_at_call 5; refine (HC.out w1 (SW.out.trans S1.out)).mono ?_; clear HC; rintro _ w2 ⟨rfl, hs2⟩; have S2 : Hid (Seen W w2) := S1.out.trans hs2; clear hs2)
        | (go_at_call 6; refine (HO.out w2 (SW.out.trans S2.out)).mono ?_; clear HO; rintro _ w3 ⟨B, G, H, rfl, _, hk3, hs3⟩; have S3 : Hid (Seen W w3) := S2.out.trans hs3; have K3 := Lib.hid (hk3.kv HF.out HL.out); clear hs3 hk3))
      refine wp_region_lit ?_
      refine ZR (some 40) (.pointer (some ⟨B, 0, none⟩)) w3 ?_
      simp only [Z1,Z2,Z3,Z4]
      refine ZR (some 41) (.int .i64 i) w3 ?_
      simp only [Z1,Z2,Z3,Z4]
      refine ZR (some 42) (.int .i64 x) w3 ?_
      simp only [Z1,Z2,Z3,Z4]
      refine ZX (some 43) (.agg #[.bool au, .int .i64 hn]) w3 (run_by (Instr.loadAt 24 (.pointer (some ⟨w.heap.size, 0, none⟩))) (by kernel_rfl) (rda24q (vs := [.bool au, .int .i64 hn]) ((K.out.seen S3.out).mid 0 2) rfl)) ?_
      simp only [Z1,Z2,Z3,Z4]
      refine ZR (some 44) (.bool rtl) w3 ?_
      simp only [Z1,Z2,Z3,Z4]
      refine pCall (some 45) 7 #[.pointer (some ⟨B, 0, none⟩), .int .i64 i, .int .i64 x, .agg #[.bool au, .int .i64 hn], .bool rtl] rfl (by kernel_rfl) (by kernel_rfl) ?_
      refine (HB.out _ w3 K3.out).mono ?_
      rintro e w4 h4
      obtain ⟨hs4, va6, vc6, ra6, rc6, rfl, hsl6, hzi6⟩ := flow_form HOO.out.1 HOO.out.2.1 HOO.out.2.2.1 HOO.out.2.2.2.1 HOO.out.2.2.2.2.1 HOO.out.2.2.2.2.2.1 HOO.out.2.2.2.2.2.2.1 HOO.out.2.2.2.2.2.2.2 h4
      have HS34 : Hid (Seen w3 w4) := hs4
      have HS6 := Lib.hid hsl6
      have HZ6 := Lib.hid hzi6
      clear h4 hs4 hsl6 hzi6
      refine ⟨_, rfl, ?_⟩
      simp only [Z1,Z2,Z3,Z4]
      refine ZR (some 39) (.tuple #[frv F, layv (.slice va6 Nn vc6) (.slice ra6 m rc6) P hi, .bool ok]) w4 ?_
      simp only [Z1,Z2,Z3,Z4]
      refine ZR (some 46) (frv F) w4 ?_
      simp only [Z1,Z2,Z3,Z4]
      refine ZR (some 47) (layv (.slice va6 Nn vc6) (.slice ra6 m rc6) P hi) w4 ?_
      simp only [Z1,Z2,Z3,Z4]
      refine ZR (some 48) (.bool ok) w4 ?_
      simp only [Z1,Z2,Z3,Z4]
      refine ZR (some 13) (.pointer (some ⟨w4.heap.size, 0, none⟩)) ((w4.alloc (.cells (frl zFr).toArray 37))) ?_
      simp only [Z1,Z2,Z3,Z4]
      refine ZR (some 14) (.pointer (some ⟨(w4.alloc (.cells (frl zFr).toArray 37)).heap.size, 0, none⟩)) (((w4.alloc (.cells (frl zFr).toArray 37)).alloc (.cells (layl (.slice none 0 0) (.slice none 0 0) zPi 0).toArray 43))) ?_
      simp only [Z1,Z2,Z3,Z4]
      refine pStoreC 37 w4.heap.size 0 (frl F) (cs := frl zFr) (cs' := frl F) (t := 37) rfl (by kernel_rfl) (by kernel_rfl) zz37 (frl_one _) ((Blk.new w4 (frl zFr) 37).alloc _) (Nat.le_refl _) (sets_all _ _ rfl) ?_
      intro v6 b6 t6
      simp only [Act.put]
      have l6 : w4.heap.size < (w4.alloc (.cells (frl zFr).toArray 37)).heap.size := (Blk.new w4 (frl zFr) 37).lt
      refine pStoreC 43 (w4.alloc (.cells (frl zFr).toArray 37)).heap.size 0 (layl (.slice va6 Nn vc6) (.slice ra6 m rc6) P hi) (cs := (layl (.slice none 0 0) (.slice none 0 0) zPi 0)) (cs' := (layl (.slice va6 Nn vc6) (.slice ra6 m rc6) P hi)) (t := 43) rfl (by kernel_rfl) (by kernel_rfl) zz43 (layl_one (oneSl _ _ _) (oneSl _ _ _) _ _) ((Blk.new (w4.alloc (.cells (frl zFr).toArray 37)) (layl (.slice none 0 0) (.slice none 0 0) zPi 0) 43).turns t6 (by omega)) (Nat.le_refl _) (sets_all _ _ rfl) ?_
      intro W6 d6 e6
      have F6 := Lib.hid (b6.turns e6 (by omega))
      have L6 := Lib.hid (show Blk W6 (w4.alloc (.cells (frl zFr).toArray 37)).heap.size (layl (.slice va6 Nn vc6) (.slice ra6 m rc6) P hi) 43 from d6)
      have Q6 := Lib.hid (((((Seen.refl w4).alloc (.cells (frl zFr).toArray 37)).alloc (.cells (layl (.slice none 0 0) (.slice none 0 0) zPi 0).toArray 43)).turns t6 (Nat.le_refl _)).turns e6 (by omega))
      clear b6 t6 d6 e6
      simp only [Act.put]
      refine ZR (some 15) (.bool ok) W6 ?_
      simp only [Z1,Z2,Z3,Z4]
      refine wpList_nil ?_
      have S36 : Hid (Seen w3 W6) := HS34.out.trans Q6.out
      have S06 := Lib.hid (SW.out.trans (S3.out.trans S36.out))
      go_upto_region 7 with fail
      refine wp_region_lit ?_
      refine ZR (some 50) (.slice a n c) W6 ?_
      simp only [Z1,Z2,Z3,Z4]
      refine ZR (some 51) (.int .i64 i) W6 ?_
      simp only [Z1,Z2,Z3,Z4]
      refine ZR (some 52) (.int .i64 x) W6 ?_
      simp only [Z1,Z2,Z3,Z4]
      refine ZX (some 53) (.agg #[.bool au, .int .i64 hn]) W6 (run_by (Instr.loadAt 24 (.pointer (some ⟨w.heap.size, 0, none⟩))) (by kernel_rfl) (rda24q (vs := [.bool au, .int .i64 hn]) ((K.out.seen (S3.out.trans S36.out)).mid 0 2) rfl)) ?_
      simp only [Z1,Z2,Z3,Z4]
      refine ZR (some 54) (.bool rtl) W6 ?_
      simp only [Z1,Z2,Z3,Z4]
      refine pCall (some 55) 8 #[.slice a n c, .int .i64 i, .int .i64 x, .agg #[.bool au, .int .i64 hn], .bool rtl] rfl (by kernel_rfl) (by kernel_rfl) ?_
      refine (HRB.out W6 S06.out).mono ?_
      rintro e w7 h7
      obtain ⟨hs7, va9, vc9, ra9, rc9, rfl, hsl9, hzi9⟩ := ref_form HOO.out.1 HOO.out.2.1 HOO.out.2.2.1 HOO.out.2.2.2.1 HOO.out.2.2.2.2.1 HOO.out.2.2.2.2.2.1 HOO.out.2.2.2.2.2.2.1 HOO.out.2.2.2.2.2.2.2 h7
      have S7 : Hid (Seen W6 w7) := hs7
      have HS9 := Lib.hid hsl9
      have HZ9 := Lib.hid hzi9
      clear h7 hs7 hsl9 hzi9
      refine ⟨_, rfl, ?_⟩
      simp only [Z1,Z2,Z3,Z4]
      refine ZR (some 49) (.tuple #[frv F, layv (.slice va9 Nn vc9) (.slice ra9 m rc9) P hi, .bool ok]) w7 ?_
      simp only [Z1,Z2,Z3,Z4]
      refine ZR (some 56) (frv F) w7 ?_
      simp only [Z1,Z2,Z3,Z4]
      refine ZR (some 57) (layv (.slice va9 Nn vc9) (.slice ra9 m rc9) P hi) w7 ?_
      simp only [Z1,Z2,Z3,Z4]
      refine ZR (some 58) (.bool ok) w7 ?_
      simp only [Z1,Z2,Z3,Z4]
      refine ZR (some 16) (.pointer (some ⟨w7.heap.size, 0, none⟩)) ((w7.alloc (.cells (frl zFr).toArray 50))) ?_
      simp only [Z1,Z2,Z3,Z4]
      refine ZR (some 17) (.pointer (some ⟨(w7.alloc (.cells (frl zFr).toArray 50)).heap.size, 0, none⟩)) (((w7.alloc (.cells (frl zFr).toArray 50)).alloc (.cells (layl (.slice none 0 0) (.slice none 0 0) zPi 0).toArray 55))) ?_
      simp only [Z1,Z2,Z3,Z4]
      refine pStoreC 50 w7.heap.size 0 (frl F) (cs := frl zFr) (cs' := frl F) (t := 50) rfl (by kernel_rfl) (by kernel_rfl) zz50 (frl_one _) ((Blk.new w7 (frl zFr) 50).alloc _) (Nat.le_refl _) (sets_all _ _ rfl) ?_
      intro v9 b9 t9
      simp only [Act.put]
      have l9 : w7.heap.size < (w7.alloc (.cells (frl zFr).toArray 50)).heap.size := (Blk.new w7 (frl zFr) 50).lt
      refine pStoreC 55 (w7.alloc (.cells (frl zFr).toArray 50)).heap.size 0 (layl (.slice va9 Nn vc9) (.slice ra9 m rc9) P hi) (cs := (layl (.slice none 0 0) (.slice none 0 0) zPi 0)) (cs' := (layl (.slice va9 Nn vc9) (.slice ra9 m rc9) P hi)) (t := 55) rfl (by kernel_rfl) (by kernel_rfl) zz55 (layl_one (oneSl _ _ _) (oneSl _ _ _) _ _) ((Blk.new (w7.alloc (.cells (frl zFr).toArray 50)) (layl (.slice none 0 0) (.slice none 0 0) zPi 0) 55).turns t9 (by omega)) (Nat.le_refl _) (sets_all _ _ rfl) ?_
      intro W9 d9 e9
      have F9 := Lib.hid (b9.turns e9 (by omega))
      have L9 := Lib.hid (show Blk W9 (w7.alloc (.cells (frl zFr).toArray 50)).heap.size (layl (.slice va9 Nn vc9) (.slice ra9 m rc9) P hi) 55 from d9)
      have Q9 := Lib.hid (((((Seen.refl w7).alloc (.cells (frl zFr).toArray 50)).alloc (.cells (layl (.slice none 0 0) (.slice none 0 0) zPi 0).toArray 55)).turns t9 (Nat.le_refl _)).turns e9 (by omega))
      clear b9 t9 d9 e9
      simp only [Act.put]
      refine ZR (some 18) (.bool ok) W9 ?_
      simp only [Z1,Z2,Z3,Z4]
      refine wpList_nil ?_
      have S79 : Hid (Seen W6 W9) := S7.out.trans Q9.out
      go_upto_region 8 with fail
      refine wp_region_lit ?_
      refine ZR (some 59) (.bool ok) W9 ?_
      simp only [Z1,Z2,Z3,Z4]
      refine ZR (some 60) (.bool ok) W9 ?_
      simp only [Z1,Z2,Z3,Z4]
      refine ZX (some 61) (.bool true) W9 (run_by (binOp .eql 4 (.bool ok) (.bool ok)) (by kernel_rfl) (eq4_self _ _)) ?_
      simp only [Z1,Z2,Z3,Z4]
      refine ZR (some 62) (.bool true) W9 ?_
      simp only [Z1,Z2,Z3,Z4]
      refine ZX (some 63) (frv F) W9 (run_by (Instr.loadAt 37 (.pointer (some ⟨w4.heap.size, 0, none⟩))) (by kernel_rfl) (rda37q (vs := frl F) (Blk.range (F6.out.seen S79.out)) rfl)) ?_
      simp only [Z1,Z2,Z3,Z4]
      refine ZX (some 64) (frv F) W9 (run_by (Instr.loadAt 50 (.pointer (some ⟨w7.heap.size, 0, none⟩))) (by kernel_rfl) (rda50 (vs := frl F) (Blk.range F9.out) rfl)) ?_
      simp only [Z1,Z2,Z3,Z4]
      refine pCall (some 65) 9 #[frv F, frv F] rfl (by kernel_rfl) (by kernel_rfl) ?_
      refine (frIs_any F W9).mono ?_
      rintro e w10 ⟨rfl, hb⟩
      have S10 : Hid (Seen W9 w10) := hb
      clear hb
      refine ⟨_, rfl, ?_⟩
      simp only [Z1,Z2,Z3,Z4]
      refine ZR (some 66) (.bool true) w10 ?_
      simp only [Z1,Z2,Z3,Z4]
      refine ZR (some 67) (.bool true) w10 ?_
      simp only [Z1,Z2,Z3,Z4]
      refine ZX (some 68) (layv (.slice va6 Nn vc6) (.slice ra6 m rc6) P hi) w10 (run_by (Instr.loadAt 43 (.pointer (some ⟨(w4.alloc (.cells (frl zFr).toArray 37)).heap.size, 0, none⟩))) (by kernel_rfl) (rda43q (vs := (layl (.slice va6 Nn vc6) (.slice ra6 m rc6) P hi)) (Blk.range (L6.out.seen (S79.out.trans S10.out))) rfl)) ?_
      simp only [Z1,Z2,Z3,Z4]
      refine ZX (some 69) (layv (.slice va9 Nn vc9) (.slice ra9 m rc9) P hi) w10 (run_by (Instr.loadAt 55 (.pointer (some ⟨(w7.alloc (.cells (frl zFr).toArray 50)).heap.size, 0, none⟩))) (by kernel_rfl) (rda55 (vs := (layl (.slice va9 Nn vc9) (.slice ra9 m rc9) P hi)) (Blk.range (L9.out.seen S10.out)) rfl)) ?_
      simp only [Z1,Z2,Z3,Z4]
      refine pCall (some 70) 10 #[layv (.slice va6 Nn vc6) (.slice ra6 m rc6) P hi, layv (.slice va9 Nn vc9) (.slice ra9 m rc9) P hi] rfl (by kernel_rfl) (by kernel_rfl) ?_
      refine (layIs_any va6 va9 ra6 ra9 Nn vc6 vc9 m rc6 rc9 P hi ps w10 (SL.seen pdl_length HS6.out (Q6.out.trans (S79.out.trans S10.out))) (SL.seen pdl_length HS9.out (Q9.out.trans S10.out)) (ZS_seen HZ6.out (Q6.out.trans (S79.out.trans S10.out))) (ZS_seen HZ9.out (Q9.out.trans S10.out)) hNb hmb).mono ?_
      rintro e w11 ⟨rfl, hb⟩
      have S11 : Hid (Seen w10 w11) := hb
      clear hb
      refine ⟨_, rfl, ?_⟩
      simp only [Z1,Z2,Z3,Z4]
      refine ZR (some 71) (.bool true) w11 ?_
      simp only [Z1,Z2,Z3,Z4]
      refine ZR (some 10) (.bool true) w11 ?_
      simp only [Z1,Z2,Z3,Z4]
      refine wpList_nil ?_
      go_wp2_with fail
      go_ret
      exact ⟨rfl, S06.out.trans (S79.out.trans (S10.out.trans S11.out))⟩
    · obtain ⟨C, hC⟩ : ∃ C, checkT l = C := ⟨_, rfl⟩
      rw [hC] at HC hc
      have hb : (C == 0) = false := by simpa using hc
      have hb2 : (C != 0) = true := by simpa using hc
      clear hC hc HS
      go_enter Tryz.func3, Tryz.ntmps3
      go_upto_region 1 with fail
      rw [← hW]
      clear hW
      go_wp2_with (first
        | (go_at_call 4; refine A0.out.mono ?_; clear A0; rintro _ w1 ⟨rfl, hs1⟩; have S1 : Hid (Seen W w1) := hs1; clear hs1)
        | (go_at_call 5; refine (HC.out w1 (SW.out.trans S1.out)).mono ?_; clear HC; rintro _ w2 ⟨rfl, hs2⟩; have S2 : Hid (Seen W w2) := S1.out.trans hs2; clear hs2)
        | (go_at_call 4; refine (awake_any14 w2).mono ?_; rintro _ w3 ⟨rfl, hs3⟩; have S3 : Hid (Seen W w3) := S2.out.trans hs3; clear hs3))
      go_ret
      exact ⟨rfl, SW.out.trans S3.out⟩
set_option maxRecDepth 100000 in
theorem lifted (os : Os) (started : os.Started) (H : Type) (enc : TypeId × Value → H) :
    ReturnsInHanded {} Tryz.checked os 3 .any (Rows.flowLaysSpec.pre6 enc Tryz.prog Tryz.f3 Rows.flowLaysRow.domain false) (Rows.flowLaysSpec.post enc Tryz.prog Tryz.f3 false true false false) := by
  refine returnsInHanded_of_change (C := Tryz.checked) own started (by kernel_rfl) Tryz.func3
    (ChangeSpec.witness6 (enc := enc) (C := Tryz.checked) false ⟨#[], #[.slice none 0 0, .int .i64 0, .int .i64 0, .agg #[.bool false, .int .i64 0], .bool false], []⟩ 8 (by kernel_rfl) (by kernel_rfl) (by kernel_rfl) (by kernel_rfl)) ?_
  intro W base args ds gs before hval0 hW hcnd _
  have hval : ∀ (j : Nat) t v, Tryz.f3.params[j]? = some t → args[j]? = some v → Value.okWide Tryz.prog W .any base t v := hval0
  have hW' := hW
  obtain ⟨p, q, hA0, hV, rfl, hfz, hnd⟩ := hW
  have hA : DataW.TrodAll enc Tryz.prog W 0 (fun _ => true) true Tryz.f3.params.toList args.toList ds p := hA0
  rw [Tryz.params3] at hA hval
  obtain ⟨v0, vs0, d0, ds0, p0, q0, hargs, rfl, rfl, h0, r0⟩ := trodAll_cons hA
  obtain ⟨v1, vs1, d1, ds1, p1, q1, rfl, rfl, rfl, h1, r1⟩ := trodAll_cons r0
  obtain ⟨v2, vs2, d2, ds2, p2, q2, rfl, rfl, rfl, h2, r2⟩ := trodAll_cons r1
  obtain ⟨v3, vs3, d3, ds3, p3, q3, rfl, rfl, rfl, h3, r3⟩ := trodAll_cons r2
  obtain ⟨v4, vs4, d4, ds4, p4, q4, rfl, rfl, rfl, h4, r4⟩ := trodAll_cons r3
  obtain ⟨rfl, rfl, rfl⟩ := trodAll_nil r4
  obtain rfl : args = #[v0, v1, v2, v3, v4] := by cases args; simp_all
  obtain ⟨rfl, rfl⟩ := trodVars_none hV
  have k0 := h0
  have lt0 : ∀ x ∈ p0, x.block < W.heap.size := by obtain ⟨m, hm⟩ := k0; exact DataW.trod_lt m _ _ _ hm
  obtain ⟨a0, len0, cap0, g0, rfl, o0⟩ := open_nodes (hval 0 22 v0 rfl rfl) h0
  have k1 := h1
  have lt1 : ∀ x ∈ p1, x.block < W.heap.size := by obtain ⟨m, hm⟩ := k1; exact DataW.trod_lt m _ _ _ hm
  obtain ⟨g1, rfl, o1⟩ := open_int3 (hval 1 3 v1 rfl rfl) h1
  have k2 := h2
  have lt2 : ∀ x ∈ p2, x.block < W.heap.size := by obtain ⟨m, hm⟩ := k2; exact DataW.trod_lt m _ _ _ hm
  obtain ⟨g2, rfl, o2⟩ := open_num (hval 2 2 v2 rfl rfl) h2
  have k3 := h3
  have lt3 : ∀ x ∈ p3, x.block < W.heap.size := by obtain ⟨m, hm⟩ := k3; exact DataW.trod_lt m _ _ _ hm
  obtain ⟨g3, rfl, o3⟩ := open_size (hval 3 24 v3 rfl rfl) h3
  have k4 := h4
  have lt4 : ∀ x ∈ p4, x.block < W.heap.size := by obtain ⟨m, hm⟩ := k4; exact DataW.trod_lt m _ _ _ hm
  obtain ⟨g4, rfl, o4⟩ := open_boo (hval 4 4 v4 rfl rfl) h4
  clear hA0 hval0
  refine (walk a0 len0 cap0 g0 g1 g2 g3 g4 W o0 o1 o2 o3 o4).mono fun e W' ⟨he, bel⟩ => ?_
  subst he
  exact ⟨_, rfl, _, _, _, [], _, [], hW', trodAll_mk1 (shut_bool Tryz.underlying4 _), (trodAll_cons_mk (Below.trod laidOut (by kernel_rfl) (of_decide_eq_true (by kernel_rfl)) k0 bel lt0) (trodAll_cons_mk (Below.trod laidOut (by kernel_rfl) (of_decide_eq_true (by kernel_rfl)) k1 bel lt1) (trodAll_cons_mk (Below.trod laidOut (by kernel_rfl) (of_decide_eq_true (by kernel_rfl)) k2 bel lt2) (trodAll_cons_mk (Below.trod laidOut (by kernel_rfl) (of_decide_eq_true (by kernel_rfl)) k3 bel lt3) (trodAll_cons_mk (Below.trod laidOut (by kernel_rfl) (of_decide_eq_true (by kernel_rfl)) k4 bel lt4) trodAll_mk0))))), rfl, bel.frame _, fun h => by cases h⟩
theorem over : Rows.flowLaysRow.holds Tryz.pinned (OpenSpec.ofChange Rows.flowLaysSpec) :=
  OpenClaim.holds_of_wide 3 Tryz.f3 rfl rfl rfl rfl rfl rfl rfl ⟨rfl, rfl, rfl, rfl, rfl⟩ rfl rfl rfl rfl rfl (by kernel_rfl) Tryz.func3 (by kernel_rfl)
    (of_decide_eq_true (by kernel_rfl)) (by unfold Func.isWrapper; first | (rw [if_pos (by decide +kernel)]; kernel_rfl) | (rw [if_neg (by decide +kernel)]; exact ⟨rfl, rfl⟩))
    (fun os started H enc _ => lifted os started H enc)
theorem proved : Rows.FlowLaysSaid := over
#print axioms proved
end Go.Proofs.YtngeaigkafamiaaGreat.flowLays

