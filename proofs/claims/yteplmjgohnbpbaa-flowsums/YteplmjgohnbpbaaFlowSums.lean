/- Proved: for every list of nodes, any node, any container the law FlowSums returns true, and its arguments read afterwards as before; no conditions. -/
import Derived.Test.YteplmjgohnbpbaaRows
import Derived.WalkKit
import Derived.OwnWalk
import Derived.Test.YteplmjgohnbpbaaFSm
import Derived.Test.YteplmjgohnbpbaaM41
import Derived.Test.YteplmjgohnbpbaaM36
import Derived.Test.YteplmjgohnbpbaaM42
import Derived.Test.YteplmjgohnbpbaaM12
import Derived.Test.YteplmjgohnbpbaaM1
import Derived.ProofKit
import Derived.OpenShut
import Derived.ShutString
import Derived.ChangeOld
import Derived.Below
namespace Go.Proofs.Yteplmjgohnbpbaa.flowSums
open Go.ChangeShapes Go.WideShapes Go.ChangeAt Go.RowKit
set_option linter.unusedVariables false
theorem own : ownKnob Try.prog.godebug = none := by kernel_rfl
theorem laidOut : laidOutB Try.prog = true := by kernel_rfl
set_option maxRecDepth 100000
section
variable {H : Type} {enc : TypeId × Value → H} {w : World} {base : Nat} {spare : Nat → Bool} {held : Bool} {r : Reach} {b0 : Nat} {v : Value} {d : DataW H} {p : List MemPlace}
theorem open_int3 (hv : Value.okWide Try.prog w r b0 3 v) (h : DataW.Trod enc Try.prog w base spare held 3 v d p) : ∃ n : Int, v = .int .i64 n ∧ -9223372036854775808 ≤ n ∧ n < 9223372036854775808 := by
  obtain ⟨n, rfl, rfl, rfl, wn⟩ := open_int Try.underlying3 hv h
  exact ⟨n, rfl, wf_i64 wn⟩
theorem open_bool4 (hv : Value.okWide Try.prog w r b0 4 v) (h : DataW.Trod enc Try.prog w base spare held 4 v d p) : ∃ b : Bool, v = .bool b := by
  obtain ⟨b, rfl, _, _⟩ := Go.RowKit.open_bool Try.underlying4 hv h
  exact ⟨b, rfl⟩
end
/-- The table of widths as it lies. -/
def tabl (t : List Int) : List Value := t.flatMap fun x => [Value.int .i64 x]
theorem tabl_map (t : List Int) : tabl t = t.map (Value.int .i64) := by
  unfold tabl
  induction t with
  | nil => rfl
  | cons a r ih => rw [List.flatMap_cons, ih]; rfl
theorem tabl_set (t : List Int) (m : Nat) (x : Int) : (tabl t).set m (.int .i64 x) = tabl (t.set m x) := by rw [tabl_map, tabl_map, List.map_set]
theorem tabl_at {t : List Int} {j : Nat} (h : j < t.length) : (tabl t)[j]? = some (.int .i64 (t.getD j 0)) := by
  rw [tabl_map, List.getElem?_map, List.getD_eq_getElem?_getD, List.getElem?_eq_getElem h]
  rfl
theorem info2w : (Try.prog.info? 2).map (fun i => (i.zero, i.size, i.bytes)) = some (some (.int .i64 0), 1, 8) := by kernel_rfl
theorem make_tab (n : Nat) (hn : n ≤ 65535) (w : World) : (Instr.makeSlice 49 (.int .i64 (n : Int)) (.int .i64 (n : Int))).run Try.prog w = .ok (.slice (some ⟨w.heap.size, 0, none⟩) n n) (w.alloc (.cells (tabl (List.replicate n 0)).toArray 2)) := by
  obtain ⟨i0, hi, hz0, hz1, hz2⟩ := info_parts info2w
  have := run_make (P := Try.prog) w 49 2 i0 _ Try.underlying49 hi hz0 .i64 .i64 n n (by omega) (Int.le_refl _) (by rw [hz2]; omega) (by omega)
  rw [this, hz1, Int.toNat_natCast]
  have e : madeCells (Value.int .i64 0).cells (n * 1) = ((List.replicate n (0 : Int)).flatMap fun x => [Value.int .i64 x]).toArray := made_flat (enc := fun x : Int => [Value.int .i64 x]) (fun _ => rfl) Nat.one_pos 0 n
  rw [e]
  rfl
theorem wpList_makeR {ops : Array Oper} {rest : List Oper} {op : Oper} {a : Act} {w : World} {Q : Exit → Act → World → Prop} (hg : op.guard = none) (l c : Operand) (t : TypeId) (hop : op.op = .makeSlice t l c) (x y : Value) (hl : a.eval l = x) (hc : a.eval c = y) (v : Value) (w' : World)
    (hrun : (Instr.makeSlice t x y).run Try.prog w = .ok v w') (hK : wpList Try.prog ops Q rest (a.put op.dst v) w') : wpList Try.prog ops Q (op :: rest) a w := by
  refine wpList_plain hg fun K hK' => ?_
  unfold Oper.wp
  simp [execOp, hop, hl, hc, hrun, Result.andThen]
  exact hK' _ _ hK
/-- A box and its number, loaded and stored whole. -/
theorem wpList_loadP {ops : Array Oper} {rest : List Oper} {op : Oper} {a : Act} {w : World} {Q : Exit → Act → World → Prop} (hgd : op.guard = none) (x : Operand) (ho : op.op = .load 61 x) (X o : Nat) (f : Pd)
    (hx : a.eval x = .pointer (some ⟨X, o, none⟩)) (hr : w.rangeAt X o (pdl f)) (h : wpList Try.prog ops Q rest (a.put op.dst (.agg (pdl f).toArray)) w) : wpList Try.prog ops Q (op :: rest) a w :=
  wpList_load_mid hgd 61 x ho X o hx (pdl f) _ hr Try.underlying61 rfl infoP h
theorem wpList_storeP {ops : Array Oper} {rest : List Oper} {op : Oper} {a : Act} {w : World} {Q : Exit → Act → World → Prop} (hgd : op.guard = none) (x y : Operand) (ho : op.op = .store 61 x y) (X : Nat) (f' f : Pd)
    (hx : a.eval x = .pointer (some ⟨X, 0, none⟩)) (hy : a.eval y = .agg (pdl f).toArray) (hb : Blk w X (pdl f') 61)
    (h : ∀ w', Blk w' X (pdl f) 61 → Turns X w w' → wpList Try.prog ops Q rest (a.put op.dst undef) w') : wpList Try.prog ops Q (op :: rest) a w :=
  wpList_storeC hgd 61 x y ho X 0 (pdl f) hx hy infoP (pdl_one f) hb (Nat.le_refl _) (sets_all _ _ rfl) h
theorem pd_range {w : World} {B off N : Nat} {ps : List Pd} {k : Nat} (hk : k < N) (h : ∀ i, i < N → ∀ j, j < 26 → w.cell? ⟨B, off + i * 26 + j, none⟩ = (pdl (ps.getD i zPd))[j]?) : w.rangeAt B (off + k * 26) (pdl (ps.getD k zPd)) := fun j v hj => by
  have hj26 : j < 26 := by
    rcases Nat.lt_or_ge j 26 with h1 | h1
    · exact h1
    · rw [List.getElem?_eq_none (by rw [pdl_length]; exact h1)] at hj; cases hj
  rw [h k hk j hj26]
  exact hj
theorem Blk.rulesF {w : World} {X : Nat} {f : Fr} (h : Blk w X (frl f) 47) : w.cell? ⟨X, 2, none⟩ = some (.int .i64 f.w) ∧ w.cell? ⟨X, 5, none⟩ = some (.int .i64 f.mg.b) ∧ w.cell? ⟨X, 7, none⟩ = some (.int .i64 f.mg.d) ∧ w.cell? ⟨X, 9, none⟩ = some (.int .i64 f.pd.b) ∧ w.cell? ⟨X, 11, none⟩ = some (.int .i64 f.pd.d) ∧ w.cell? ⟨X, 13, none⟩ = some (.int .i64 f.bd.b) ∧ w.cell? ⟨X, 15, none⟩ = some (.int .i64 f.bd.d) :=
  ⟨h.cell 2, h.cell 5, h.cell 7, h.cell 9, h.cell 11, h.cell 13, h.cell 15⟩
theorem Blk.rulesPd {w : World} {X : Nat} {p : Pd} (h : Blk w X (pdl p) 61) : w.cell? ⟨X, 0, none⟩ = some (.int .i64 p.n) ∧ w.cell? ⟨X, 1, none⟩ = some (.int .i64 p.f.x) ∧ w.cell? ⟨X, 3, none⟩ = some (.int .i64 p.f.w) ∧ w.cell? ⟨X, 6, none⟩ = some (.int .i64 p.f.mg.b) ∧ w.cell? ⟨X, 8, none⟩ = some (.int .i64 p.f.mg.d) ∧ w.cell? ⟨X, 10, none⟩ = some (.int .i64 p.f.pd.b) ∧ w.cell? ⟨X, 12, none⟩ = some (.int .i64 p.f.pd.d) ∧ w.cell? ⟨X, 14, none⟩ = some (.int .i64 p.f.bd.b) ∧ w.cell? ⟨X, 16, none⟩ = some (.int .i64 p.f.bd.d) :=
  ⟨h.cell 0, h.cell 1, h.cell 3, h.cell 6, h.cell 8, h.cell 10, h.cell 12, h.cell 14, h.cell 16⟩
theorem blk_zpd (w : World) : Blk (w.alloc (.cells #[.int .i64 0, .int .i64 0, .int .i64 0, .int .i64 0, .int .i64 0, .int .i64 0, .int .i64 0, .int .i64 0, .int .i64 0, .int .i64 0, .int .i64 0, .int .i64 0, .int .i64 0, .int .i64 0, .int .i64 0, .int .i64 0, .int .i64 0, .bool false, .int .i64 0, .int .i64 0, .int .i64 0, .int .i64 0, .int .i64 0, .int .i64 0, .bool false, .int .i64 0] 61)) w.heap.size (pdl zPd) 61 := Blk.new w (pdl zPd) 61
/-- The sum as it is added up. -/
theorem sum_steps {f : Fr} (h : Seven f) : ∃ s1 s2 s3 s4 s5, IntKind.i64.wrap (f.mg.d + f.bd.d) = s1 ∧ IntKind.i64.wrap (s1 + f.pd.d) = s2 ∧ IntKind.i64.wrap (s2 + f.w) = s3 ∧ IntKind.i64.wrap (s3 + f.pd.b) = s4 ∧ IntKind.i64.wrap (s4 + f.bd.b) = s5 ∧ IntKind.i64.wrap (s5 + f.mg.b) = sumW f := by
  obtain ⟨⟨a1, a2⟩, ⟨b1, b2⟩, ⟨c1, c2⟩, ⟨d1, d2⟩, ⟨e1, e2⟩, ⟨f1, f2⟩, ⟨g1, g2⟩⟩ := h
  unfold sumW
  exact ⟨_, _, _, _, _, IntWalk.i64_in _ (by omega), IntWalk.i64_in _ (by omega), IntWalk.i64_in _ (by omega), IntWalk.i64_in _ (by omega), IntWalk.i64_in _ (by omega), IntWalk.i64_in _ (by omega)⟩
theorem box_some {l : List Nd} {n : Int} {c : Ct} {W W' : World} {e : Ending} {b : Bo} {N : Nat} (hb : flowO l n c = some b) (hN : b.l.length = N) (h : FlowAns l n c W e W') :
    Seen W W' ∧ ∃ va vc ra rc, e = .returned (.tuple #[frv b.f, layv (.slice va N vc) (.slice ra b.p.y.length rc) b.p b.hi, .bool true]) ∧ SL pdl 26 zPd W' va N b.l := by
  obtain ⟨hs, ⟨h, rfl⟩ | ⟨b', v, a, cap, h, rfl, hg, hr⟩⟩ := h
  · rw [hb] at h; cases h
  · rw [hb] at h
    obtain rfl := Option.some.inj h
    obtain ⟨va, vc, rfl, hsl, -⟩ := hg.slice pdl_length zPd
    rw [hN] at hsl ⊢
    exact ⟨hs, va, vc, a, cap, rfl, hsl⟩
set_option maxHeartbeats 8000000 in
theorem walk (a : Option Addr) (n c : Nat) (l : List Nd) (i x : Int) (q : Sz) (rtl : Bool) (w : World) (o : NS w a n l ∧ (∀ q ∈ l, OkN q) ∧ n ≤ c ∧ (a = none → c = 0)) (hi : -9223372036854775808 ≤ i ∧ i < 9223372036854775808) (hx : -9223372036854775808 ≤ x ∧ x < 9223372036854775808) (hq : okN q.n) :
    Calls Try.prog 5 #[.slice a n c, .int .i64 i, .int .i64 x, .agg #[.bool q.au, .int .i64 q.n], .bool rtl] w fun e w' => e = .returned (.bool true) ∧ Below w.heap.size w w' := by
  have HS := Lib.hid o.1
  clear o hi hx hq
  obtain ⟨au, hn⟩ := q
  obtain ⟨W, hW⟩ : ∃ W, W = w.alloc (.cells #[.bool au, .int .i64 hn] 24) := ⟨_, rfl⟩
  have k : Blk W w.heap.size [.bool au, .int .i64 hn] 24 := by rw [hW]; exact Blk.new w _ _
  have SW : Hid (Seen w W) := by rw [hW]; exact (Seen.refl w).alloc _
  have lw := k.lt
  have K := Lib.hid k
  clear k
  have A0 := Lib.hid (awake_any14 W)
  by_cases hbig : (n : Int) > 25
  ·
    go_enter Try.func5, Try.ntmps5
    go_upto_region 1 with fail
    rw [← hW]
    clear hW
    go_wp2_with (first
      | (go_at_call 6; refine A0.out.mono ?_; clear A0; rintro _ w1 ⟨rfl, hs1⟩; have S1 : Hid (Seen W w1) := hs1; clear hs1)
      | (go_at_call 6; refine (awake_any14 w1).mono ?_; rintro _ w2 ⟨rfl, hs2⟩; have S2 : Hid (Seen W w2) := S1.out.trans hs2; clear hs2))
    go_ret
    exact ⟨rfl, SW.out.trans S2.out⟩
  · have HN : n ≤ 25 := by omega
    have HC := Lib.hid fun w' h' => refCheck_any a n c l w' (HS.out.seen h') (by omega)
    by_cases hc : checkT l = 0
    · have hf := check_formed hc
      rw [hc] at HC
      have HO := Lib.hid fun w' h' => of_yes a n c l w' (HS.out.seen h') hc hf (by omega)
      have hll : n = l.length := by have := HS.out.1; omega
      have HB := Lib.hid fun v w' (h' : KV w' v l) => flowBox_any w' (by omega) h' i x au hn rtl
      have HF := Lib.hid hf
      have HL : Hid (l.length ≤ 65535) := by unfold Hid; omega
      clear hf hc
      cases hfo : flowO l i ⟨x, ⟨au, hn⟩, rtl⟩ with
      | none =>
        have HFO := Lib.hid hfo
        clear hfo hll
        go_enter Try.func5, Try.ntmps5
        go_upto_region 1 with fail
        rw [← hW]
        clear hW
        go_upto_region 5 with (first
          | (go_at_call 6; refine A0.out.mono ?_; clear A0; rintro _ w1 ⟨rfl, hs1⟩; have S1 : Hid (Seen W w1) := hs1; clear hs1)
          | (go_at_call 7; refine (HC.out w1 (SW.out.trans S1.out)).mono ?_; clear HC; rintro _ w2 ⟨rfl, hs2⟩; have S2 : Hid (Seen W w2) := S1.out.trans hs2; clear hs2)
          | (go_at_call 8; refine (HO.out w2 (SW.out.trans S2.out)).mono ?_; clear HO; rintro _ w3 ⟨B, G, H, rfl, _, hk3, hs3⟩; have S3 : Hid (Seen W w3) := S2.out.trans hs3; have K3 := Lib.hid (hk3.kv HF.out HL.out); clear hs3 hk3; have c3 := K.out.rules2 w3 S3.out)
          | (go_at_call 12; refine (HB.out _ w3 K3.out).mono ?_; clear HB c3; rintro e w4 ⟨hs4, ⟨_, rfl⟩ | ⟨b, v, ra, rc, hb, _⟩⟩
             all_goals first
               | (exfalso; rw [HFO.out] at hb; cases hb)
               | (have S4 := Lib.hid (S3.out.trans hs4); clear hs4))
          | (refine wpList_storeF rfl (.tmp 13) (.tmp 45) rfl w4.heap.size zFr zFr rfl rfl (by simpa using (blk_zero w4).alloc (.cells #[.slice none 0 0, .slice none 0 0, .int .i64 0, .int .i64 0, .int .i64 0, .int .i64 0, .int .i64 0, .bool false, .int .i64 0] 53)) ?_; intro w5 b5 t5)
          | (refine wpList_storeL rfl (.tmp 14) (.tmp 46) rfl (w4.heap.size + 1) zlay (.slice none 0 0) (.slice none 0 0) rfl rfl zPi 0 rfl rfl rfl ((show Blk ((w4.alloc (.cells #[.int .i64 0, .int .i64 0, .int .i64 0, .int .i64 0, .int .i64 0, .int .i64 0, .int .i64 0, .int .i64 0, .int .i64 0, .int .i64 0, .int .i64 0, .int .i64 0, .int .i64 0, .int .i64 0, .int .i64 0, .int .i64 0, .bool false, .int .i64 0, .int .i64 0, .int .i64 0, .int .i64 0, .int .i64 0, .int .i64 0, .bool false, .int .i64 0] 47)).alloc (.cells #[.slice none 0 0, .slice none 0 0, .int .i64 0, .int .i64 0, .int .i64 0, .int .i64 0, .int .i64 0, .bool false, .int .i64 0] 53)) (w4.heap.size + 1) zlay 53 by simpa using blk_zlay (w4.alloc (.cells #[.int .i64 0, .int .i64 0, .int .i64 0, .int .i64 0, .int .i64 0, .int .i64 0, .int .i64 0, .int .i64 0, .int .i64 0, .int .i64 0, .int .i64 0, .int .i64 0, .int .i64 0, .int .i64 0, .int .i64 0, .int .i64 0, .bool false, .int .i64 0, .int .i64 0, .int .i64 0, .int .i64 0, .int .i64 0, .int .i64 0, .bool false, .int .i64 0] 47))).turns t5 (by omega)) ?_; intro w6 b6 t6
             have S6 := Lib.hid ((((S4.out.alloc _).alloc _).turns t5 (by have := S4.out.size; omega)).turns t6 (by have := S4.out.size; omega))
             have L6 := Lib.hid b6
             have F6 := Lib.hid (b5.turns t6 (by omega))
             have S46 := Lib.hid (((((Seen.refl w4).alloc _).alloc _).turns t5 (by omega)).turns t6 (by omega))
             have o6 : w4.heap.size + 1 < w6.heap.size := b6.lt
             clear b5 t5 b6 t6))
        have L6c : w6.cell? ⟨w4.heap.size + 1, 0, none⟩ = some (.slice none 0 0) := L6.out.cell 0
        clear L6 F6
        go_wp2_with fail
        go_ret
        exact ⟨rfl, SW.out.trans S6.out⟩
      | some b =>
        have hmade : (plAt l i).made = true := by
          unfold flowO at hfo
          split at hfo
          · rename_i h'
            simp only [Bool.and_eq_true] at h'
            exact h'.1
          · cases hfo
        obtain ⟨m, hm, hz⟩ := made_nat hmade
        subst hz
        obtain ⟨hwd, hall⟩ := flow_sums HF.out hm hfo
        have HFO := Lib.hid hfo
        have HALL := Lib.hid hall
        have HWD := Lib.hid hwd
        have hmn : m < n := by omega
        have hmn' : (m : Int) < (n : Int) := by omega
        have MT := Lib.hid (make_tab n (by omega))
        have HNL := Lib.hid hll
        have hsm : b.l.length ≤ 25 := by
          have hbx : boxO l l.length (m : Int) ⟨x, ⟨au, hn⟩, rtl⟩ = some b := by
            unfold flowO at hfo
            split at hfo
            · exact hfo
            · cases hfo
          have := small_box HF.out l.length m _ b hm hbx
          have := end_le hm
          omega
        obtain ⟨N, hN⟩ : ∃ N, b.l.length = N := ⟨_, rfl⟩
        rw [hN] at hsm
        have HN6 := Lib.hid hN
        have HBX := Lib.hid fun v w' (h' : KV w' v l) => (flowBox_any w' (by omega) h' (m : Int) x au hn rtl).mono fun _ _ h => box_some hfo hN h
        clear hfo hmade hall hwd hN HB hll
        go_enter Try.func5, Try.ntmps5
        go_upto_region 1 with fail
        rw [← hW]
        clear hW
        go_upto_region 8 with (first
          | (go_at_call 6; refine A0.out.mono ?_; clear A0; rintro _ w1 ⟨rfl, hs1⟩; have S1 : Hid (Seen W w1) := hs1; clear hs1)
          | (go_at_call 7; refine (HC.out w1 (SW.out.trans S1.out)).mono ?_; clear HC; rintro _ w2 ⟨rfl, hs2⟩; have S2 : Hid (Seen W w2) := S1.out.trans hs2; clear hs2)
          | (go_at_call 8; refine (HO.out w2 (SW.out.trans S2.out)).mono ?_; clear HO; rintro _ w3 ⟨B, G, H, rfl, _, hk3, hs3⟩; have S3 : Hid (Seen W w3) := S2.out.trans hs3; have K3 := Lib.hid (hk3.kv HF.out HL.out); clear hs3 hk3; have c3 := K.out.rules2 w3 S3.out)
          | (go_at_call 12; refine (HBX.out _ w3 K3.out).mono ?_; clear HBX c3; rintro e w4 ⟨hs4, va, vc, ra, rc, rfl, hsl⟩
             have SL6 := Lib.hid hsl
             have S4 := Lib.hid (S3.out.trans hs4)
             clear hs4 hsl)
          | (refine wpList_storeF rfl (.tmp 13) (.tmp 45) rfl w4.heap.size zFr b.f rfl rfl (by simpa using (blk_zero w4).alloc (.cells #[.slice none 0 0, .slice none 0 0, .int .i64 0, .int .i64 0, .int .i64 0, .int .i64 0, .int .i64 0, .bool false, .int .i64 0] 53)) ?_; intro w5 b5 t5)
          | (refine wpList_storeL rfl (.tmp 14) (.tmp 46) rfl (w4.heap.size + 1) zlay (.slice va N vc) (.slice ra b.p.y.length rc) (oneS _ _ _) (oneS _ _ _) b.p b.hi rfl rfl rfl ((show Blk ((w4.alloc (.cells #[.int .i64 0, .int .i64 0, .int .i64 0, .int .i64 0, .int .i64 0, .int .i64 0, .int .i64 0, .int .i64 0, .int .i64 0, .int .i64 0, .int .i64 0, .int .i64 0, .int .i64 0, .int .i64 0, .int .i64 0, .int .i64 0, .bool false, .int .i64 0, .int .i64 0, .int .i64 0, .int .i64 0, .int .i64 0, .int .i64 0, .bool false, .int .i64 0] 47)).alloc (.cells #[.slice none 0 0, .slice none 0 0, .int .i64 0, .int .i64 0, .int .i64 0, .int .i64 0, .int .i64 0, .bool false, .int .i64 0] 53)) (w4.heap.size + 1) zlay 53 by simpa using blk_zlay (w4.alloc (.cells #[.int .i64 0, .int .i64 0, .int .i64 0, .int .i64 0, .int .i64 0, .int .i64 0, .int .i64 0, .int .i64 0, .int .i64 0, .int .i64 0, .int .i64 0, .int .i64 0, .int .i64 0, .int .i64 0, .int .i64 0, .int .i64 0, .bool false, .int .i64 0, .int .i64 0, .int .i64 0, .int .i64 0, .int .i64 0, .int .i64 0, .bool false, .int .i64 0] 47))).turns t5 (by omega)) ?_; intro w6 b6 t6
             have S6 := Lib.hid ((((S4.out.alloc _).alloc _).turns t5 (by have := S4.out.size; omega)).turns t6 (by have := S4.out.size; omega))
             have L6 := Lib.hid b6
             have F6 := Lib.hid (b5.turns t6 (by omega))
             have S46 := Lib.hid (((((Seen.refl w4).alloc _).alloc _).turns t5 (by omega)).turns t6 (by omega))
             have o6 : w4.heap.size + 1 < w6.heap.size := b6.lt
             clear b5 t5 b6 t6)
          | (refine wpList_makeR rfl (.tmp 63) (.tmp 63) 49 rfl (.int .i64 (n : Int)) (.int .i64 (n : Int)) rfl rfl _ _ (MT.out w6) ?_))
        obtain ⟨W7, hW7⟩ : ∃ W7, W7 = w6.alloc (.cells (tabl (List.replicate n 0)).toArray 2) := ⟨_, rfl⟩
        have S67 : Hid (Seen w6 W7) := by rw [hW7]; exact (Seen.refl w6).alloc _
        have T7 : Hid (Blk W7 w6.heap.size (tabl (List.replicate n 0)) 2) := by rw [hW7]; exact Blk.new w6 _ 2
        rw [← hW7]
        clear hW7
        have cF : W7.cell? ⟨w4.heap.size, 2, none⟩ = some (.int .i64 b.f.w) := (F6.out.seen S67.out).cell 2
        have cT : W7.cell? ⟨w6.heap.size, m, none⟩ = some (.int .i64 ((List.replicate n 0).getD m 0)) := (T7.out.cell m).trans (tabl_at (by simpa using hmn))
        obtain ⟨tm, htm⟩ : ∃ y, (List.replicate n (0 : Int)).getD m 0 = y := ⟨_, rfl⟩
        rw [htm] at cT
        clear htm
        have fz := T7.out.free m
        have T8 : Hid (Blk (W7.setCell ⟨w6.heap.size, m, none⟩ (.int .i64 b.f.w)) w6.heap.size (tabl (tabs ((List.replicate l.length 0).set m b.f.w) (b.l.take 0))) 2) := by
          have := T7.out.set m (.int .i64 b.f.w)
          rw [tabl_set, HNL.out] at this
          exact this
        have S8 : Hid (Seen w6 (W7.setCell ⟨w6.heap.size, m, none⟩ (.int .i64 b.f.w))) := Below.setCell S67.out (Nat.le_refl _) _
        go_upto_region 9 with fail
        obtain ⟨W8, hW8⟩ : ∃ W8, W8 = W7.setCell ⟨w6.heap.size, m, none⟩ (.int .i64 b.f.w) := ⟨_, rfl⟩
        rw [← hW8] at T8 S8 ⊢
        have L8 : W8.cell? ⟨w4.heap.size + 1, 0, none⟩ = some (.slice va N vc) := (L6.out.seen S8.out).cell 0
        clear hW8 cF cT fz S67 T7 hmn' MT K K3 S1 S2 S3 HF HL lw
        go_wp2_with fail
        go_loopw [73] (fun x wr => ∃ k : Nat, x = .int .i64 k ∧ k ≤ N ∧ Seen w6 wr ∧ Blk wr w6.heap.size (tabl (tabs ((List.replicate l.length 0).set m b.f.w) (b.l.take k))) 2) (fun x _ => N - (intOf x).toNat)
        case atStart => exact ⟨0, rfl, by omega, S8.out, T8.out⟩
        case round =>
          obtain ⟨k, rfl, hk, hsr, hbr⟩ := hrel
          have SR := Lib.hid hsr
          have TR := Lib.hid hbr
          clear hsr hbr
          have LR : wr.cell? ⟨w4.heap.size + 1, 0, none⟩ = some (.slice va N vc) := (L6.out.seen SR.out).cell 0
          by_cases hlt : k < N
          · have hk' : (k : Int) < (N : Int) := by omega
            obtain ⟨m1, q1, e1, hm1, e2, hq1, hsum, hxx, hsv⟩ := allP_at HALL.out (show k < b.l.length by rw [HN6.out]; exact hlt)
            have hts := tabs_snoc (t := (List.replicate l.length 0).set m b.f.w) (ps := b.l) (i := k) (by rw [HN6.out]; exact hlt)
            have htl : (tabs ((List.replicate l.length 0).set m b.f.w) (b.l.take k)).length = l.length := by rw [tabs_len]; simp
            obtain ⟨VB, voff, rfl, vcell⟩ := (SL6.out.seen pdl_length (S46.out.trans SR.out)).2 (show 0 < N by omega)
            have RG := Lib.hid (pd_range hlt vcell)
            clear vcell
            obtain ⟨p, hp⟩ : ∃ p, b.l.getD k zPd = p := ⟨_, rfl⟩
            obtain ⟨t, ht⟩ : ∃ t, tabs ((List.replicate l.length 0).set m b.f.w) (b.l.take k) = t := ⟨_, rfl⟩
            rw [hp] at e1 hsum hxx hsv hts RG
            rw [ht] at hsum hts htl TR
            clear hp ht
            obtain ⟨tq, htq⟩ : ∃ x, t.getD q1 0 = x := ⟨_, rfl⟩
            obtain ⟨s1, s2, s3, s4, s5, g1, g2, g3, g4, g5, g6⟩ := sum_steps hsv
            rw [hsum, htq] at g6
            have HTQ := Lib.hid htq
            have HTS := Lib.hid hts
            have HTL := Lib.hid htl
            have HE1 := Lib.hid e1
            have E2 := Lib.hid e2
            have hll := HNL.out
            obtain ⟨Bn, offn, rfl, hat⟩ := (HS.out.seen (SW.out.trans (S6.out.trans SR.out))).ats (show 0 < n by omega)
            have HAT := Lib.hid (hat m1 (by omega))
            clear hat hsum htq hts htl hsv e2 e1
            have hm1' : (m1 : Int) < (n : Int) := by omega
            have hq1' : (q1 : Int) < (n : Int) := by omega
            clear hll
            go_upto_region 13 with (first
              | (refine wpList_loadP rfl (.tmp 79) rfl VB (voff + k * 26) p rfl RG.out ?_; clear RG)
              | (refine wpList_storeP rfl (.tmp 18) (.tmp 80) rfl wr.heap.size zPd p rfl rfl (blk_zpd wr) ?_; intro W2 b2 t2))
            have SR2 := Lib.hid ((Seen.refl wr).fresh t2)
            have hT : w6.heap.size < wr.heap.size := TR.out.lt
            have TB2 := Lib.hid (TR.out.seen SR2.out)
            obtain ⟨X, hX⟩ : ∃ X, wr.heap.size = X := ⟨_, rfl⟩
            rw [hX] at b2 hT ⊢
            clear hX t2
            obtain ⟨x0, x1, x3, x6, x8, x10, x12, x14, x16⟩ := Blk.rulesPd b2
            rw [HE1.out] at x0
            rw [hxx] at x1
            have ct : W2.cell? ⟨w6.heap.size, q1, none⟩ = some (.int .i64 tq) := (TB2.out.cell q1).trans ((tabl_at (by rw [HTL.out]; exact hq1)).trans (by rw [HTQ.out]))
            have cp : W2.cell? ⟨Bn, offn + m1 * 49 + 48, none⟩ = some (.int .i64 (q1 : Int)) := (((HAT.out.seen SR2.out).par).trans (by rw [E2.out]))
            have cm : W2.cell? ⟨w6.heap.size, m1, none⟩ = some (.int .i64 (t.getD m1 0)) := (TB2.out.cell m1).trans (tabl_at (by rw [HTL.out]; exact hm1))
            obtain ⟨tm, htm⟩ : ∃ x, t.getD m1 0 = x := ⟨_, rfl⟩
            rw [htm] at cm
            clear htm
            have fz := TB2.out.free m1
            have TN : Hid (Blk (W2.setCell ⟨w6.heap.size, m1, none⟩ (.int .i64 p.f.w)) w6.heap.size (tabl (tabs ((List.replicate l.length 0).set m b.f.w) (b.l.take (k + 1)))) 2) := by
              have := TB2.out.set m1 (.int .i64 p.f.w)
              rw [tabl_set] at this
              unfold Hid
              rw [HTS.out, HE1.out, Int.toNat_natCast]
              exact this
            have SN : Hid (Seen w6 (W2.setCell ⟨w6.heap.size, m1, none⟩ (.int .i64 p.f.w))) := Below.setCell (SR.out.trans SR2.out) (Nat.le_refl _) _
            clear LR b2 TB2 HTQ HTS HTL HE1 E2 HAT SR2 hxx TR HALL
            go_wp2_with fail
            go_roundw
            case rel => exact ⟨k + 1, by go_num, by omega, SN.out, TN.out⟩
            case measure => simp [intOf]; omega
          · have hk' : ¬ (k : Int) < (N : Int) := by omega
            obtain ⟨y2, y5, y7, y9, y11, y13, y15⟩ := Blk.rulesF (F6.out.seen SR.out)
            obtain ⟨s1, s2, s3, s4, s5, g1, g2, g3, g4, g5, g6⟩ := sum_steps HWD.out.seven
            rw [HWD.out.sum] at g6
            simp only at g6
            clear HALL TR HWD
            go_wp2_with fail
            go_ret
            exact ⟨rfl, SW.out.trans (S6.out.trans SR.out)⟩
    ·
      obtain ⟨C, hC⟩ : ∃ C, checkT l = C := ⟨_, rfl⟩
      rw [hC] at HC hc
      have hb : (C == 0) = false := by simpa using hc
      have hb2 : (C != 0) = true := by simpa using hc
      clear hC hc HS
      go_enter Try.func5, Try.ntmps5
      go_upto_region 1 with fail
      rw [← hW]
      clear hW
      go_wp2_with (first
        | (go_at_call 6; refine A0.out.mono ?_; clear A0; rintro _ w1 ⟨rfl, hs1⟩; have S1 : Hid (Seen W w1) := hs1; clear hs1)
        | (go_at_call 7; refine (HC.out w1 (SW.out.trans S1.out)).mono ?_; clear HC; rintro _ w2 ⟨rfl, hs2⟩; have S2 : Hid (Seen W w2) := S1.out.trans hs2; clear hs2)
        | (go_at_call 6; refine (awake_any14 w2).mono ?_; rintro _ w3 ⟨rfl, hs3⟩; have S3 : Hid (Seen W w3) := S2.out.trans hs3; clear hs3))
      go_ret
      exact ⟨rfl, SW.out.trans S3.out⟩
/-! ### The row's step. -/
set_option maxRecDepth 100000 in
theorem lifted (os : Os) (started : os.Started) (H : Type) (enc : TypeId × Value → H) :
    ReturnsInHanded {} Try.checked os 5 .any (Rows.flowSumsSpec.pre6 enc Try.prog Try.f5 Rows.flowSumsRow.domain false) (Rows.flowSumsSpec.post enc Try.prog Try.f5 false true false false) := by
  refine returnsInHanded_of_change (C := Try.checked) own started (by kernel_rfl) Try.func5
    (ChangeSpec.witness6 (enc := enc) (C := Try.checked) false ⟨#[], #[.slice none 0 0, .int .i64 0, .int .i64 0, .agg #[.bool false, .int .i64 0], .bool false], []⟩ 8 (by kernel_rfl) (by kernel_rfl) (by kernel_rfl) (by kernel_rfl)) ?_
  intro W base args ds gs before hval0 hW hcnd _
  have hval : ∀ (j : Nat) t v, Try.f5.params[j]? = some t → args[j]? = some v → Value.okWide Try.prog W .any base t v := hval0
  have hW' := hW
  obtain ⟨p, q, hA0, hV, rfl, hfz, hnd⟩ := hW
  have hA : DataW.TrodAll enc Try.prog W 0 (fun _ => true) true Try.f5.params.toList args.toList ds p := hA0
  rw [Try.params5] at hA hval
  obtain ⟨v0, vs0, d0, ds0, p0, q0, hargs, rfl, rfl, h0, r0⟩ := trodAll_cons hA
  obtain ⟨v1, vs1, d1, ds1, p1, q1, rfl, rfl, rfl, h1, r1⟩ := trodAll_cons r0
  obtain ⟨v2, vs2, d2, ds2, p2, q2, rfl, rfl, rfl, h2, r2⟩ := trodAll_cons r1
  obtain ⟨v3, vs3, d3, ds3, p3, q3, rfl, rfl, rfl, h3, r3⟩ := trodAll_cons r2
  obtain ⟨v4, vs4, d4, ds4, p4, q4, rfl, rfl, rfl, h4, r4⟩ := trodAll_cons r3
  obtain ⟨rfl, rfl, rfl⟩ := trodAll_nil r4
  obtain rfl : args = #[v0, v1, v2, v3, v4] := by cases args; simp_all
  obtain ⟨rfl, rfl⟩ := trodVars_none hV
  have k0 := h0
  have lt0 : ∀ x ∈ p0, x.block < W.heap.size := by obtain ⟨m, hm⟩ := k0; exact DataW.trod_lt m _ _ _ hm
  obtain ⟨a0, len0, cap0, g0, rfl, o0⟩ := open_nodes (hval 0 22 v0 rfl rfl) h0
  have k1 := h1
  have lt1 : ∀ x ∈ p1, x.block < W.heap.size := by obtain ⟨m, hm⟩ := k1; exact DataW.trod_lt m _ _ _ hm
  obtain ⟨g1, rfl, o1⟩ := open_int3 (hval 1 3 v1 rfl rfl) h1
  have k2 := h2
  have lt2 : ∀ x ∈ p2, x.block < W.heap.size := by obtain ⟨m, hm⟩ := k2; exact DataW.trod_lt m _ _ _ hm
  obtain ⟨g2, rfl, o2⟩ := open_num (hval 2 2 v2 rfl rfl) h2
  have k3 := h3
  have lt3 : ∀ x ∈ p3, x.block < W.heap.size := by obtain ⟨m, hm⟩ := k3; exact DataW.trod_lt m _ _ _ hm
  obtain ⟨g3, rfl, o3⟩ := open_size (hval 3 24 v3 rfl rfl) h3
  have k4 := h4
  have lt4 : ∀ x ∈ p4, x.block < W.heap.size := by obtain ⟨m, hm⟩ := k4; exact DataW.trod_lt m _ _ _ hm
  obtain ⟨g4, rfl⟩ := open_bool4 (hval 4 4 v4 rfl rfl) h4
  clear hA0 hval0
  refine (walk a0 len0 cap0 g0 g1 g2 g3 g4 W o0 o1 o2 o3).mono fun e W' ⟨he, bel⟩ => ?_
  subst he
  exact ⟨_, rfl, _, _, _, [], _, [], hW', trodAll_mk1 (shut_bool Try.underlying4 _), (trodAll_cons_mk (Below.trod laidOut (by kernel_rfl) (of_decide_eq_true (by kernel_rfl)) k0 bel lt0) (trodAll_cons_mk (Below.trod laidOut (by kernel_rfl) (of_decide_eq_true (by kernel_rfl)) k1 bel lt1) (trodAll_cons_mk (Below.trod laidOut (by kernel_rfl) (of_decide_eq_true (by kernel_rfl)) k2 bel lt2) (trodAll_cons_mk (Below.trod laidOut (by kernel_rfl) (of_decide_eq_true (by kernel_rfl)) k3 bel lt3) (trodAll_cons_mk (Below.trod laidOut (by kernel_rfl) (of_decide_eq_true (by kernel_rfl)) k4 bel lt4) trodAll_mk0))))), rfl, bel.frame _, fun h => by cases h⟩

theorem over : Rows.flowSumsRow.holds Try.pinned (OpenSpec.ofChange Rows.flowSumsSpec) :=
  OpenClaim.holds_of_wide 5 Try.f5 rfl rfl rfl rfl rfl rfl rfl ⟨rfl, rfl, rfl, rfl, rfl⟩ rfl rfl rfl rfl rfl (by kernel_rfl) Try.func5 (by kernel_rfl)
    (of_decide_eq_true (by kernel_rfl)) (by unfold Func.isWrapper; first | (rw [if_pos (by decide +kernel)]; kernel_rfl) | (rw [if_neg (by decide +kernel)]; exact ⟨rfl, rfl⟩))
    (fun os started H enc _ => lifted os started H enc)

/-- The statement. -/
theorem proved : Rows.FlowSumsSaid := over
#print axioms proved
end Go.Proofs.Yteplmjgohnbpbaa.flowSums
