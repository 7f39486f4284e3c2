/- Proved: for every list of nodes and any uint16 the law PreferWider returns true, and its arguments read afterwards as before; no conditions. -/
import Derived.Test.YtlnnaegmcopiiaaRows
import Derived.WalkKit
import Derived.Test.YtlnnaegmcopiiaaM27
import Derived.Test.YtlnnaegmcopiiaaM28
import Derived.Test.YtlnnaegmcopiiaaM18
import Derived.Test.YtlnnaegmcopiiaaM20
import Derived.Test.YtlnnaegmcopiiaaM22
import Derived.Test.YtlnnaegmcopiiaaM26
import Derived.ProofKit
import Derived.OpenShut
import Derived.ShutString
import Derived.ChangeOld
import Derived.Below
namespace Go.Proofs.Ytlnnaegmcopiiaa.preferWider
open Go.ChangeShapes Go.WideShapes Go.ChangeAt Go.RowKit
set_option linter.unusedVariables false

theorem own : ownKnob Try.prog.godebug = none := by kernel_rfl
theorem laidOut : laidOutB Try.prog = true := by kernel_rfl


section
variable {H : Type} {enc : TypeId × Value → H} {w : World} {base : Nat} {spare : Nat → Bool} {held : Bool} {r : Reach} {b0 : Nat} {v : Value} {d : DataW H} {p : List MemPlace}
theorem wf_u16 {n : Int} (h : (Lit.int .u16 n).wf = true) : 0 ≤ n ∧ n < 65536 := by
  simp [Lit.wf, IntKind.min, IntKind.max, IntKind.signed, IntKind.bits] at h; omega
theorem open_u16 (hv : Value.okWide Try.prog w r b0 33 v) (h : DataW.Trod enc Try.prog w base spare held 33 v d p) : ∃ n : Int, v = .int .u16 n ∧ 0 ≤ n ∧ n < 65536 := by
  obtain ⟨n, rfl, rfl, rfl, wn⟩ := open_int Try.underlying33 hv h
  exact ⟨n, rfl, wf_u16 wn⟩
end
theorem ldaS {w : World} {X : Nat} {s : Sty} (h : Hs w X s) (hf : Full s) : (Instr.loadAt 39 (.pointer (some ⟨X, 0, none⟩))).run Try.prog w = .ok (sv s) w := by
  have hr := h.range 0 48
  rw [List.drop_zero, List.take_of_length_le (by rw [hf.len]; omega)] at hr
  exact run_loadAt_mid w X 0 39 (stl s) _ hr Try.underlying39 rfl (by rw [hf.len]; exact info27)
theorem run_append_op {o : Oper} {a : Act} {w w' : World} {v u v' : Value} {t : TypeId} (s x : Operand) (ho : o.op = .call { callee := .builtin .append, args := #[s, x], argTypes := #[t, t] }) (hs : a.eval s = v) (hx : a.eval x = u)
    (hr : (Builtin.append_ #[t, t] o.type #[v, u]).run Try.prog w = .ok v' w') : (execOp a.eval o).run Try.prog w = .ok (.value v') w' := by
  unfold execOp
  simp only [ho, resolve, invoke, builtin, Sem.run_bind, Sem.run_pure, Result.andThen_ok, List.map_toArray, List.map_cons, List.map_nil, hs, hx, hr]
set_option maxRecDepth 100000 in
set_option maxHeartbeats 8000000 in
theorem walk (a : Option Addr) (n c : Nat) (l : List Nd) (g : Int) (w : World) (o : NS w a n l ∧ (∀ q ∈ l, OkN q) ∧ n ≤ c ∧ (a = none → c = 0)) (hm : 0 ≤ g ∧ g < 65536) :
    Calls Try.prog 4 #[.slice a n c, .int .u16 g] w fun e w' => e = .returned (.bool true) ∧ Below w.heap.size w w' := by
  have HS := Lib.hid o.1
  have HL : Hid (l.length = n) := o.1.1
  have HAC := Lib.hid o.2.2.2
  have A0 := Lib.hid (awake_any15 w)
  clear o
  by_cases hbig : (n : Int) > 20
  · go_enter Try.func4, Try.ntmps4
    go_wp2_with (first
      | (go_at_call 5; refine A0.out.mono ?_; clear A0; rintro _ w1 ⟨rfl, hs1⟩; have S1 : Hid (Seen w w1) := hs1; clear hs1)
      | (go_at_call 5; refine (awake_any15 w1).mono ?_; rintro _ w2 ⟨rfl, hs2⟩; have S2 : Hid (Seen w w2) := S1.out.trans hs2; clear hs2))
    go_ret
    exact ⟨rfl, S2.out⟩
  · have HC := Lib.hid fun w' h' => refCheck_any a n c l w' (HS.out.seen h') (by omega)
    by_cases hc : checkT l = 0
    · have hf : FormedT l := check_formed hc
      rw [hc] at HC
      have HO := Lib.hid fun w' h' => of_yes a n c l w' (HS.out.seen h') hc hf (by omega)
      have hcm : checkT (l ++ [wideN g 0]) = 0 := wider_check hc (by have := HL.out; omega) hm.1 (by omega)
      have hfm : FormedT (l ++ [wideN g 0]) := check_formed hcm
      have HOM := Lib.hid fun w' (a' : Option Addr) (c' : Nat) (h' : NS w' a' (n + 1) (l ++ [wideN g 0])) => of_yes a' (n + 1) c' _ w' h' hcm hfm (by omega)
      have HB := Lib.hid fun v w' (h' : KV w' v l) => content_any 0 w' h'
      have HM := Lib.hid fun v w' (h' : KV w' v (l ++ [wideN g 0])) => content_any 0 w' h'
      have HKV := Lib.hid fun w' B G H (h' : KK w' B G H l (endN l)) => h'.kv hf (by have := HL.out; omega)
      have HKM := Lib.hid fun w' B G H (h' : KK w' B G H (l ++ [wideN g 0]) (endN (l ++ [wideN g 0]))) => h'.kv hfm (by rw [List.length_append]; have := HL.out; simp; omega)
      have HSR : Hid (∀ w', Seen w w' → SrcC w' (.slice a n c) n 49 (flatN l)) := fun w' h' => src_sl ndl_length (by decide) (HS.out.seen h') HAC.out
      obtain ⟨hw1, hw2⟩ := wider hf hm.1 (show g ≤ 65535 by omega)
      obtain ⟨p, hp⟩ : ∃ q, prefO l 0 = q := ⟨_, rfl⟩
      obtain ⟨q, hq⟩ : ∃ q, prefO (l ++ [wideN g 0]) 0 = q := ⟨_, rfl⟩
      rw [hp] at HB hw1 hw2
      rw [hq] at HM hw1 hw2
      clear hp hq hc hf hcm hfm HS HAC
      cases p with
      | none =>
        obtain rfl : q = none := by cases q with
          | none => rfl
          | some y => cases hw1
        clear hw1 hw2
        have HB : Hid (∀ v w', KV w' v l → Calls Try.prog 8 #[v, .int .i64 0] w' fun e w'' => e = .returned (.tuple #[.int .i64 0, .bool false]) ∧ Seen w' w'') := HB
        have HM : Hid (∀ v w', KV w' v (l ++ [wideN g 0]) → Calls Try.prog 8 #[v, .int .i64 0] w' fun e w'' => e = .returned (.tuple #[.int .i64 0, .bool false]) ∧ Seen w' w'') := HM
        go_enter Try.func4, Try.ntmps4
        go_upto_region 6 with (first
          | (go_at_call 5; refine A0.out.mono ?_; clear A0; rintro _ w1 ⟨rfl, hs1⟩; have S1 : Hid (Seen w w1) := hs1; clear hs1)
          | (go_at_call 6; refine (HC.out w1 S1.out).mono ?_; clear HC; rintro _ w2 ⟨rfl, hs2⟩; have S2 : Hid (Seen w w2) := S1.out.trans hs2; clear hs2)
          | (go_at_call 10; refine (plain_any w2).mono ?_; rintro _ w3 ⟨rfl, hs3⟩; have S3 : Hid (Seen w w3) := S2.out.trans hs3; clear hs3)
          | (rw [zero_lit]; refine wpList_storeS rfl (.tmp 5) (.tmp 27) rfl w3.heap.size zeroS (plainK 4) rfl rfl (plain_full (Nat.le_refl 4)) zero_full (hs_new w3 zeroS) ?_
             intro w4 b4 t4
             have S4 := Lib.hid (S3.out.trans (Seen.fresh (Seen.refl w3) t4))
             have K4 := Lib.hid b4
             clear b4 t4)
          | (refine wpList_storeW rfl (.tmp 31) (.tmp 30) rfl w3.heap.size g rfl rfl K4.out ?_
             intro w5 b5 t5
             have SA5 := Lib.hid (Seen.turns S4.out t5 S3.out.size)
             have KB5 := Lib.hid b5
             clear b5 t5)
          | (go_at_call 7; refine (HO.out w5 SA5.out).mono ?_; clear HO; rintro _ W5 ⟨B, G, H, rfl, _, hk5, hs5⟩; have S5 : Hid (Seen w W5) := SA5.out.trans hs5; have K6 := Lib.hid (HKV.out _ _ _ _ hk5); have K5 := Lib.hid (Hs.seen KB5.out hs5); clear hs5 hk5))
        obtain ⟨X5, hX5⟩ : ∃ q, w3.heap.size = q := ⟨_, rfl⟩
        rw [hX5] at K5 ⊢
        clear hX5 KB5 K4 S1 S2 S3 S4 SA5
        have HSRC : Hid (∀ w', Seen W5 w' → SrcC w' (.slice a n c) n 49 (flatN l)) := fun w' h' => HSR.out w' (S5.out.trans h')
        have acc0 : Seen W5 W5.drew := (Seen.refl W5).drew
        obtain ⟨i0, hi, hz0, hz1, hz2⟩ := info_parts info51z
        have FL7 : Hid (0 = 0) := rfl
        clear HKV HSR
        refine wp_region_held_drew (S := fun w' => Seen W5 w') (by kernel_rfl) acc0 (fun _ => ?_)
        refine hTake 1 (some 39) (.slice a n c) (by kernel_rfl) (by kernel_rfl) (by kernel_rfl) (by kernel_rfl) (by kernel_rfl) (by kernel_rfl) (fun _ _ _ h => h) (fun w' hS => by kernel_rfl) acc0 ?_
        simp only [Act.put, List.setIfInBounds_toArray, List.set_cons_zero, List.set_cons_succ]
        refine hTake 3 (some 41) (sv (wideS g)) (by kernel_rfl) (by kernel_rfl) (by kernel_rfl) (by kernel_rfl) (by kernel_rfl) (by kernel_rfl) (fun _ _ _ h => h) (fun w' hS => run_by (Instr.loadAt 39 (.pointer (some ⟨X5, 0, none⟩))) (by kernel_rfl) (ldaS (K5.out.seen hS) (wide_full g))) acc0 ?_
        simp only [Act.put, List.setIfInBounds_toArray, List.set_cons_zero, List.set_cons_succ]
        refine hTake 4 (some 42) (.agg (ndl (wideN g 0)).toArray) (by kernel_rfl) (by kernel_rfl) (by kernel_rfl) (by kernel_rfl) (by kernel_rfl) (by kernel_rfl) (fun _ _ _ h => h) (fun w' hS => by kernel_rfl) acc0 ?_
        simp only [Act.put, List.setIfInBounds_toArray, List.set_cons_zero, List.set_cons_succ]
        refine wpAnyH_ready (rs := [0, 5]) (by kernel_rfl) (by simp) ?_
        refine aRun 0 (some 38) (.slice (some ⟨W5.drew.heap.size, 0, none⟩) 0 0) (by kernel_rfl) (by kernel_rfl) (by kernel_rfl) (by kernel_rfl) (show Seen W5 (W5.drew.alloc (.cells #[] 42)) from Seen.alloc acc0 _) ?_ ?_
        · have acc1 := (show Seen W5 (W5.drew.alloc (.cells #[] 42)) from Seen.alloc acc0 _)
          have row1 : World.ownsRow (W5.drew.alloc (.cells #[] 42)) W5.heap.size 42 49 (.slice (some ⟨W5.drew.heap.size, 0, none⟩) 0 0) 0 [] := World.ownsRow_made W5.drew #[] 0 (Below.size acc0) (Nat.zero_le _) rfl
          simp only [Act.put, List.setIfInBounds_toArray, List.set_cons_zero, List.set_cons_succ]
          refine wpAnyH_ready (rs := [2, 5]) (by kernel_rfl) (by simp) ?_
          obtain ⟨va2, wp2, hr2, ho2, hg2, _⟩ := run_append_src (P := Try.prog) (W5.drew.alloc (.cells #[] 42)) 22 22 42 i0 (.agg (ndl zeroN).toArray) 49 384 Try.underlying22 hi hz0 hz1 hz2 rfl (by decide) W5.heap.size (.slice (some ⟨W5.drew.heap.size, 0, none⟩) 0 0) 0 [] row1 (.slice a n c) n (flatN l) (HSRC.out (W5.drew.alloc (.cells #[] 42)) acc1) (flatN_one l) (by unfold maxLen; omega) (by omega) (by have := Below.size acc1; omega)
          have acc2 : Seen W5 wp2 := Below.grown acc1 hg2 (Below.size acc1) (fun j hj => (World.ownsRow.lt row1 j hj).1)
          refine aRun 2 (some 40) (va2) (by kernel_rfl) (by kernel_rfl) (by kernel_rfl) (run_append_op (.tmp 38) (.tmp 39) (by kernel_rfl) rfl rfl hr2) acc2 ?_ ?_
          · simp only [Act.put, List.setIfInBounds_toArray, List.set_cons_zero, List.set_cons_succ]
            refine hRun 5 (some 43) (.slice (some ⟨wp2.heap.size, 0, none⟩) 1 1) (by kernel_rfl) (by kernel_rfl) (by kernel_rfl) (by kernel_rfl) (by kernel_rfl) (show Seen W5 (wp2.alloc (.cells (ndl (wideN g 0)).toArray 42)) from Seen.alloc acc2 _) ?_
            have acc3 := (show Seen W5 (wp2.alloc (.cells (ndl (wideN g 0)).toArray 42)) from Seen.alloc acc2 _)
            have one3 : World.ownsRow (wp2.alloc (.cells (ndl (wideN g 0)).toArray 42)) W5.heap.size 42 49 (.slice (some ⟨wp2.heap.size, 0, none⟩) 1 1) 1 (flatN [wideN g 0]) := new_rowN wp2 (wideN g 0) W5.heap.size (Below.size acc2)
            have row3 := World.ownsRow.alloc ho2 (.cells (ndl (wideN g 0)).toArray 42)
            simp only [Act.put, List.setIfInBounds_toArray, List.set_cons_zero, List.set_cons_succ]
            obtain ⟨va4, wp4, hr4, ho4, hg4, _⟩ := run_append_rows (P := Try.prog) (wp2.alloc (.cells (ndl (wideN g 0)).toArray 42)) 22 22 42 i0 (.agg (ndl zeroN).toArray) 49 384 Try.underlying22 hi hz0 hz1 hz2 rfl (by decide) W5.heap.size W5.heap.size (va2) (0 + n) ([] ++ flatN l) row3 (.slice (some ⟨wp2.heap.size, 0, none⟩) 1 1) 1 (flatN [wideN g 0]) one3 (flatN_one [wideN g 0]) (by unfold maxLen; omega) (by omega) (by have := Below.size acc3; omega)
            have acc4 : Seen W5 wp4 := Below.grown acc3 hg4 (Below.size acc3) (fun j hj => (World.ownsRow.lt row3 j hj).1)
            obtain ⟨a7, c7, rfl, hns, _, hn7⟩ := ns_of_own (show World.ownsRow wp4 W5.heap.size 42 49 va4 (n + 1) (flatN (l ++ [wideN g 0])) by rw [flatN_append]; simpa using ho4) (by rw [List.length_append, HL.out]; rfl)
            refine hRun 6 (some 44) (.slice a7 (n + 1) c7) (by kernel_rfl) (by kernel_rfl) (by kernel_rfl) (by kernel_rfl) (run_append_op (.tmp 40) (.tmp 43) (by kernel_rfl) rfl rfl hr4) acc4 ?_
            simp only [Act.put, List.setIfInBounds_toArray, List.set_cons_zero, List.set_cons_succ]
            refine hCall 7 (some 45) 7 #[.slice a7 (n + 1) c7] (by kernel_rfl) (by kernel_rfl) (by kernel_rfl) (by kernel_rfl) (by kernel_rfl) ?_
            refine (HOM.out wp4 a7 c7 hns).mono ?_
            rintro _ W7 ⟨B7, G7, H7, rfl, _, hk7, hs7⟩
            have acc7 : Seen W5 W7 := Seen.next acc4 hs7
            have K7 := Lib.hid (HKM.out _ _ _ _ hk7)
            clear hk7 hs7
            refine ⟨_, rfl, acc7, ?_⟩
            simp only [Act.put, List.setIfInBounds_toArray, List.set_cons_zero, List.set_cons_succ]
            refine hTake 8 (some 37) (.tuple #[.pointer (some ⟨B7, 0, none⟩), .int .i64 0]) (by kernel_rfl) (by kernel_rfl) (by kernel_rfl) (by kernel_rfl) (by kernel_rfl) (by kernel_rfl) (fun _ _ _ h => h) (fun w' hS => by kernel_rfl) acc7 ?_
            simp only [Act.put, List.setIfInBounds_toArray, List.set_cons_zero, List.set_cons_succ]
            refine hTake 9 (some 46) (.pointer (some ⟨B7, 0, none⟩)) (by kernel_rfl) (by kernel_rfl) (by kernel_rfl) (by kernel_rfl) (by kernel_rfl) (by kernel_rfl) (fun _ _ _ h => h) (fun w' hS => by kernel_rfl) acc7 ?_
            simp only [Act.put, List.setIfInBounds_toArray, List.set_cons_zero, List.set_cons_succ]
            refine hTake 10 (some 47) (.int .i64 0) (by kernel_rfl) (by kernel_rfl) (by kernel_rfl) (by kernel_rfl) (by kernel_rfl) (by kernel_rfl) (fun _ _ _ h => h) (fun w' hS => by kernel_rfl) acc7 ?_
            simp only [Act.put, List.setIfInBounds_toArray, List.set_cons_zero, List.set_cons_succ]
            refine hTake 11 (some 8) (.pointer (some ⟨B7, 0, none⟩)) (by kernel_rfl) (by kernel_rfl) (by kernel_rfl) (by kernel_rfl) (by kernel_rfl) (by kernel_rfl) (fun _ _ _ h => h) (fun w' hS => by kernel_rfl) acc7 ?_
            simp only [Act.put, List.setIfInBounds_toArray, List.set_cons_zero, List.set_cons_succ]
            refine hTake 12 (some 9) (.int .i64 0) (by kernel_rfl) (by kernel_rfl) (by kernel_rfl) (by kernel_rfl) (by kernel_rfl) (by kernel_rfl) (fun _ _ _ h => h) (fun w' hS => by kernel_rfl) acc7 ?_
            simp only [Act.put, List.setIfInBounds_toArray, List.set_cons_zero, List.set_cons_succ]
            refine wpAnyH_done (by kernel_rfl) ?_ _
            have z1 := Lib.hid acc7
            have KK1 := Lib.hid (K6.out.seen z1.out)
            go_wp2_with (first
              | (go_at_call 8; have gg := FL7.out; clear gg; refine (HB.out _ W7 KK1.out).mono ?_; clear HB FL7; rintro _ w8 ⟨rfl, hs8⟩; have S8 := Lib.hid (z1.out.trans hs8); have K8 := Lib.hid (K7.out.seen hs8); clear hs8)
              | (go_at_call 8; refine (HM.out _ w8 K8.out).mono ?_; clear HM; rintro _ w9 ⟨rfl, hs9⟩; have S9 := Lib.hid (S8.out.trans hs9); clear hs9))
            go_ret
            exact ⟨rfl, S5.out.trans S9.out⟩
          refine aRun 5 (some 43) (.slice (some ⟨(W5.drew.alloc (.cells #[] 42)).heap.size, 0, none⟩) 1 1) (by kernel_rfl) (by kernel_rfl) (by kernel_rfl) (by kernel_rfl) (show Seen W5 ((W5.drew.alloc (.cells #[] 42)).alloc (.cells (ndl (wideN g 0)).toArray 42)) from Seen.alloc acc1 _) ?_ ?_
          · have acc2 := (show Seen W5 ((W5.drew.alloc (.cells #[] 42)).alloc (.cells (ndl (wideN g 0)).toArray 42)) from Seen.alloc acc1 _)
            have one2 : World.ownsRow ((W5.drew.alloc (.cells #[] 42)).alloc (.cells (ndl (wideN g 0)).toArray 42)) W5.heap.size 42 49 (.slice (some ⟨(W5.drew.alloc (.cells #[] 42)).heap.size, 0, none⟩) 1 1) 1 (flatN [wideN g 0]) := new_rowN (W5.drew.alloc (.cells #[] 42)) (wideN g 0) W5.heap.size (Below.size acc1)
            have row2 := World.ownsRow.alloc row1 (.cells (ndl (wideN g 0)).toArray 42)
            simp only [Act.put, List.setIfInBounds_toArray, List.set_cons_zero, List.set_cons_succ]
            obtain ⟨va3, wp3, hr3, ho3, hg3, _⟩ := run_append_src (P := Try.prog) ((W5.drew.alloc (.cells #[] 42)).alloc (.cells (ndl (wideN g 0)).toArray 42)) 22 22 42 i0 (.agg (ndl zeroN).toArray) 49 384 Try.underlying22 hi hz0 hz1 hz2 rfl (by decide) W5.heap.size (.slice (some ⟨W5.drew.heap.size, 0, none⟩) 0 0) 0 [] row2 (.slice a n c) n (flatN l) (HSRC.out ((W5.drew.alloc (.cells #[] 42)).alloc (.cells (ndl (wideN g 0)).toArray 42)) acc2) (flatN_one l) (by unfold maxLen; omega) (by omega) (by have := Below.size acc2; omega)
            have acc3 : Seen W5 wp3 := Below.grown acc2 hg3 (Below.size acc2) (fun j hj => (World.ownsRow.lt row2 j hj).1)
            have one3 : World.ownsRow wp3 W5.heap.size 42 49 (.slice (some ⟨(W5.drew.alloc (.cells #[] 42)).heap.size, 0, none⟩) 1 1) 1 (flatN [wideN g 0]) := ownsRow_keeps one2 (fun gg hg' => hg3.block gg (World.ownsRow.lt one2 gg hg').2 (by intro e; simp [Value.ownBlock] at hg' e; omega))
            refine hRun 2 (some 40) (va3) (by kernel_rfl) (by kernel_rfl) (by kernel_rfl) (by kernel_rfl) (run_append_op (.tmp 38) (.tmp 39) (by kernel_rfl) rfl rfl hr3) acc3 ?_
            simp only [Act.put, List.setIfInBounds_toArray, List.set_cons_zero, List.set_cons_succ]
            obtain ⟨va4, wp4, hr4, ho4, hg4, _⟩ := run_append_rows (P := Try.prog) wp3 22 22 42 i0 (.agg (ndl zeroN).toArray) 49 384 Try.underlying22 hi hz0 hz1 hz2 rfl (by decide) W5.heap.size W5.heap.size (va3) (0 + n) ([] ++ flatN l) ho3 (.slice (some ⟨(W5.drew.alloc (.cells #[] 42)).heap.size, 0, none⟩) 1 1) 1 (flatN [wideN g 0]) one3 (flatN_one [wideN g 0]) (by unfold maxLen; omega) (by omega) (by have := Below.size acc3; omega)
            have acc4 : Seen W5 wp4 := Below.grown acc3 hg4 (Below.size acc3) (fun j hj => (World.ownsRow.lt ho3 j hj).1)
            obtain ⟨a7, c7, rfl, hns, _, hn7⟩ := ns_of_own (show World.ownsRow wp4 W5.heap.size 42 49 va4 (n + 1) (flatN (l ++ [wideN g 0])) by rw [flatN_append]; simpa using ho4) (by rw [List.length_append, HL.out]; rfl)
            refine hRun 6 (some 44) (.slice a7 (n + 1) c7) (by kernel_rfl) (by kernel_rfl) (by kernel_rfl) (by kernel_rfl) (run_append_op (.tmp 40) (.tmp 43) (by kernel_rfl) rfl rfl hr4) acc4 ?_
            simp only [Act.put, List.setIfInBounds_toArray, List.set_cons_zero, List.set_cons_succ]
            refine hCall 7 (some 45) 7 #[.slice a7 (n + 1) c7] (by kernel_rfl) (by kernel_rfl) (by kernel_rfl) (by kernel_rfl) (by kernel_rfl) ?_
            refine (HOM.out wp4 a7 c7 hns).mono ?_
            rintro _ W7 ⟨B7, G7, H7, rfl, _, hk7, hs7⟩
            have acc7 : Seen W5 W7 := Seen.next acc4 hs7
            have K7 := Lib.hid (HKM.out _ _ _ _ hk7)
            clear hk7 hs7
            refine ⟨_, rfl, acc7, ?_⟩
            simp only [Act.put, List.setIfInBounds_toArray, List.set_cons_zero, List.set_cons_succ]
            refine hTake 8 (some 37) (.tuple #[.pointer (some ⟨B7, 0, none⟩), .int .i64 0]) (by kernel_rfl) (by kernel_rfl) (by kernel_rfl) (by kernel_rfl) (by kernel_rfl) (by kernel_rfl) (fun _ _ _ h => h) (fun w' hS => by kernel_rfl) acc7 ?_
            simp only [Act.put, List.setIfInBounds_toArray, List.set_cons_zero, List.set_cons_succ]
            refine hTake 9 (some 46) (.pointer (some ⟨B7, 0, none⟩)) (by kernel_rfl) (by kernel_rfl) (by kernel_rfl) (by kernel_rfl) (by kernel_rfl) (by kernel_rfl) (fun _ _ _ h => h) (fun w' hS => by kernel_rfl) acc7 ?_
            simp only [Act.put, List.setIfInBounds_toArray, List.set_cons_zero, List.set_cons_succ]
            refine hTake 10 (some 47) (.int .i64 0) (by kernel_rfl) (by kernel_rfl) (by kernel_rfl) (by kernel_rfl) (by kernel_rfl) (by kernel_rfl) (fun _ _ _ h => h) (fun w' hS => by kernel_rfl) acc7 ?_
            simp only [Act.put, List.setIfInBounds_toArray, List.set_cons_zero, List.set_cons_succ]
            refine hTake 11 (some 8) (.pointer (some ⟨B7, 0, none⟩)) (by kernel_rfl) (by kernel_rfl) (by kernel_rfl) (by kernel_rfl) (by kernel_rfl) (by kernel_rfl) (fun _ _ _ h => h) (fun w' hS => by kernel_rfl) acc7 ?_
            simp only [Act.put, List.setIfInBounds_toArray, List.set_cons_zero, List.set_cons_succ]
            refine hTake 12 (some 9) (.int .i64 0) (by kernel_rfl) (by kernel_rfl) (by kernel_rfl) (by kernel_rfl) (by kernel_rfl) (by kernel_rfl) (fun _ _ _ h => h) (fun w' hS => by kernel_rfl) acc7 ?_
            simp only [Act.put, List.setIfInBounds_toArray, List.set_cons_zero, List.set_cons_succ]
            refine wpAnyH_done (by kernel_rfl) ?_ _
            have z1 := Lib.hid acc7
            have KK1 := Lib.hid (K6.out.seen z1.out)
            go_wp2_with (first
              | (go_at_call 8; have gg := FL7.out; clear gg; refine (HB.out _ W7 KK1.out).mono ?_; clear HB FL7; rintro _ w8 ⟨rfl, hs8⟩; have S8 := Lib.hid (z1.out.trans hs8); have K8 := Lib.hid (K7.out.seen hs8); clear hs8)
              | (go_at_call 8; refine (HM.out _ w8 K8.out).mono ?_; clear HM; rintro _ w9 ⟨rfl, hs9⟩; have S9 := Lib.hid (S8.out.trans hs9); clear hs9))
            go_ret
            exact ⟨rfl, S5.out.trans S9.out⟩
          exact AllReadyH.nil
        refine aRun 5 (some 43) (.slice (some ⟨W5.drew.heap.size, 0, none⟩) 1 1) (by kernel_rfl) (by kernel_rfl) (by kernel_rfl) (by kernel_rfl) (show Seen W5 (W5.drew.alloc (.cells (ndl (wideN g 0)).toArray 42)) from Seen.alloc acc0 _) ?_ ?_
        · have acc1 := (show Seen W5 (W5.drew.alloc (.cells (ndl (wideN g 0)).toArray 42)) from Seen.alloc acc0 _)
          have one1 : World.ownsRow (W5.drew.alloc (.cells (ndl (wideN g 0)).toArray 42)) W5.heap.size 42 49 (.slice (some ⟨W5.drew.heap.size, 0, none⟩) 1 1) 1 (flatN [wideN g 0]) := new_rowN W5.drew (wideN g 0) W5.heap.size (Below.size acc0)
          simp only [Act.put, List.setIfInBounds_toArray, List.set_cons_zero, List.set_cons_succ]
          refine hRun 0 (some 38) (.slice (some ⟨(W5.drew.alloc (.cells (ndl (wideN g 0)).toArray 42)).heap.size, 0, none⟩) 0 0) (by kernel_rfl) (by kernel_rfl) (by kernel_rfl) (by kernel_rfl) (by kernel_rfl) (show Seen W5 ((W5.drew.alloc (.cells (ndl (wideN g 0)).toArray 42)).alloc (.cells #[] 42)) from Seen.alloc acc1 _) ?_
          have acc2 := (show Seen W5 ((W5.drew.alloc (.cells (ndl (wideN g 0)).toArray 42)).alloc (.cells #[] 42)) from Seen.alloc acc1 _)
          have row2 : World.ownsRow ((W5.drew.alloc (.cells (ndl (wideN g 0)).toArray 42)).alloc (.cells #[] 42)) W5.heap.size 42 49 (.slice (some ⟨(W5.drew.alloc (.cells (ndl (wideN g 0)).toArray 42)).heap.size, 0, none⟩) 0 0) 0 [] := World.ownsRow_made (W5.drew.alloc (.cells (ndl (wideN g 0)).toArray 42)) #[] 0 (Below.size acc1) (Nat.zero_le _) rfl
          have one2 := World.ownsRow.alloc one1 (.cells #[] 42)
          simp only [Act.put, List.setIfInBounds_toArray, List.set_cons_zero, List.set_cons_succ]
          obtain ⟨va3, wp3, hr3, ho3, hg3, _⟩ := run_append_src (P := Try.prog) ((W5.drew.alloc (.cells (ndl (wideN g 0)).toArray 42)).alloc (.cells #[] 42)) 22 22 42 i0 (.agg (ndl zeroN).toArray) 49 384 Try.underlying22 hi hz0 hz1 hz2 rfl (by decide) W5.heap.size (.slice (some ⟨(W5.drew.alloc (.cells (ndl (wideN g 0)).toArray 42)).heap.size, 0, none⟩) 0 0) 0 [] row2 (.slice a n c) n (flatN l) (HSRC.out ((W5.drew.alloc (.cells (ndl (wideN g 0)).toArray 42)).alloc (.cells #[] 42)) acc2) (flatN_one l) (by unfold maxLen; omega) (by omega) (by have := Below.size acc2; omega)
          have acc3 : Seen W5 wp3 := Below.grown acc2 hg3 (Below.size acc2) (fun j hj => (World.ownsRow.lt row2 j hj).1)
          have one3 : World.ownsRow wp3 W5.heap.size 42 49 (.slice (some ⟨W5.drew.heap.size, 0, none⟩) 1 1) 1 (flatN [wideN g 0]) := ownsRow_keeps one2 (fun gg hg' => hg3.block gg (World.ownsRow.lt one2 gg hg').2 (by intro e; simp [Value.ownBlock] at hg' e; omega))
          refine hRun 2 (some 40) (va3) (by kernel_rfl) (by kernel_rfl) (by kernel_rfl) (by kernel_rfl) (run_append_op (.tmp 38) (.tmp 39) (by kernel_rfl) rfl rfl hr3) acc3 ?_
          simp only [Act.put, List.setIfInBounds_toArray, List.set_cons_zero, List.set_cons_succ]
          obtain ⟨va4, wp4, hr4, ho4, hg4, _⟩ := run_append_rows (P := Try.prog) wp3 22 22 42 i0 (.agg (ndl zeroN).toArray) 49 384 Try.underlying22 hi hz0 hz1 hz2 rfl (by decide) W5.heap.size W5.heap.size (va3) (0 + n) ([] ++ flatN l) ho3 (.slice (some ⟨W5.drew.heap.size, 0, none⟩) 1 1) 1 (flatN [wideN g 0]) one3 (flatN_one [wideN g 0]) (by unfold maxLen; omega) (by omega) (by have := Below.size acc3; omega)
          have acc4 : Seen W5 wp4 := Below.grown acc3 hg4 (Below.size acc3) (fun j hj => (World.ownsRow.lt ho3 j hj).1)
          obtain ⟨a7, c7, rfl, hns, _, hn7⟩ := ns_of_own (show World.ownsRow wp4 W5.heap.size 42 49 va4 (n + 1) (flatN (l ++ [wideN g 0])) by rw [flatN_append]; simpa using ho4) (by rw [List.length_append, HL.out]; rfl)
          refine hRun 6 (some 44) (.slice a7 (n + 1) c7) (by kernel_rfl) (by kernel_rfl) (by kernel_rfl) (by kernel_rfl) (run_append_op (.tmp 40) (.tmp 43) (by kernel_rfl) rfl rfl hr4) acc4 ?_
          simp only [Act.put, List.setIfInBounds_toArray, List.set_cons_zero, List.set_cons_succ]
          refine hCall 7 (some 45) 7 #[.slice a7 (n + 1) c7] (by kernel_rfl) (by kernel_rfl) (by kernel_rfl) (by kernel_rfl) (by kernel_rfl) ?_
          refine (HOM.out wp4 a7 c7 hns).mono ?_
          rintro _ W7 ⟨B7, G7, H7, rfl, _, hk7, hs7⟩
          have acc7 : Seen W5 W7 := Seen.next acc4 hs7
          have K7 := Lib.hid (HKM.out _ _ _ _ hk7)
          clear hk7 hs7
          refine ⟨_, rfl, acc7, ?_⟩
          simp only [Act.put, List.setIfInBounds_toArray, List.set_cons_zero, List.set_cons_succ]
          refine hTake 8 (some 37) (.tuple #[.pointer (some ⟨B7, 0, none⟩), .int .i64 0]) (by kernel_rfl) (by kernel_rfl) (by kernel_rfl) (by kernel_rfl) (by kernel_rfl) (by kernel_rfl) (fun _ _ _ h => h) (fun w' hS => by kernel_rfl) acc7 ?_
          simp only [Act.put, List.setIfInBounds_toArray, List.set_cons_zero, List.set_cons_succ]
          refine hTake 9 (some 46) (.pointer (some ⟨B7, 0, none⟩)) (by kernel_rfl) (by kernel_rfl) (by kernel_rfl) (by kernel_rfl) (by kernel_rfl) (by kernel_rfl) (fun _ _ _ h => h) (fun w' hS => by kernel_rfl) acc7 ?_
          simp only [Act.put, List.setIfInBounds_toArray, List.set_cons_zero, List.set_cons_succ]
          refine hTake 10 (some 47) (.int .i64 0) (by kernel_rfl) (by kernel_rfl) (by kernel_rfl) (by kernel_rfl) (by kernel_rfl) (by kernel_rfl) (fun _ _ _ h => h) (fun w' hS => by kernel_rfl) acc7 ?_
          simp only [Act.put, List.setIfInBounds_toArray, List.set_cons_zero, List.set_cons_succ]
          refine hTake 11 (some 8) (.pointer (some ⟨B7, 0, none⟩)) (by kernel_rfl) (by kernel_rfl) (by kernel_rfl) (by kernel_rfl) (by kernel_rfl) (by kernel_rfl) (fun _ _ _ h => h) (fun w' hS => by kernel_rfl) acc7 ?_
          simp only [Act.put, List.setIfInBounds_toArray, List.set_cons_zero, List.set_cons_succ]
          refine hTake 12 (some 9) (.int .i64 0) (by kernel_rfl) (by kernel_rfl) (by kernel_rfl) (by kernel_rfl) (by kernel_rfl) (by kernel_rfl) (fun _ _ _ h => h) (fun w' hS => by kernel_rfl) acc7 ?_
          simp only [Act.put, List.setIfInBounds_toArray, List.set_cons_zero, List.set_cons_succ]
          refine wpAnyH_done (by kernel_rfl) ?_ _
          have z1 := Lib.hid acc7
          have KK1 := Lib.hid (K6.out.seen z1.out)
          go_wp2_with (first
            | (go_at_call 8; have gg := FL7.out; clear gg; refine (HB.out _ W7 KK1.out).mono ?_; clear HB FL7; rintro _ w8 ⟨rfl, hs8⟩; have S8 := Lib.hid (z1.out.trans hs8); have K8 := Lib.hid (K7.out.seen hs8); clear hs8)
            | (go_at_call 8; refine (HM.out _ w8 K8.out).mono ?_; clear HM; rintro _ w9 ⟨rfl, hs9⟩; have S9 := Lib.hid (S8.out.trans hs9); clear hs9))
          go_ret
          exact ⟨rfl, S5.out.trans S9.out⟩
        exact AllReadyH.nil
      | some x =>
        obtain ⟨y, rfl⟩ : ∃ y, q = some y := by cases q with
          | none => cases hw1
          | some y => exact ⟨y, rfl⟩
        have hle : y ≥ x := hw2 rfl
        clear hw1 hw2
        have HB : Hid (∀ v w', KV w' v l → Calls Try.prog 8 #[v, .int .i64 0] w' fun e w'' => e = .returned (.tuple #[.int .i64 x, .bool true]) ∧ Seen w' w'') := HB
        have HM : Hid (∀ v w', KV w' v (l ++ [wideN g 0]) → Calls Try.prog 8 #[v, .int .i64 0] w' fun e w'' => e = .returned (.tuple #[.int .i64 y, .bool true]) ∧ Seen w' w'') := HM
        go_enter Try.func4, Try.ntmps4
        go_upto_region 6 with (first
          | (go_at_call 5; refine A0.out.mono ?_; clear A0; rintro _ w1 ⟨rfl, hs1⟩; have S1 : Hid (Seen w w1) := hs1; clear hs1)
          | (go_at_call 6; refine (HC.out w1 S1.out).mono ?_; clear HC; rintro _ w2 ⟨rfl, hs2⟩; have S2 : Hid (Seen w w2) := S1.out.trans hs2; clear hs2)
          | (go_at_call 10; refine (plain_any w2).mono ?_; rintro _ w3 ⟨rfl, hs3⟩; have S3 : Hid (Seen w w3) := S2.out.trans hs3; clear hs3)
          | (rw [zero_lit]; refine wpList_storeS rfl (.tmp 5) (.tmp 27) rfl w3.heap.size zeroS (plainK 4) rfl rfl (plain_full (Nat.le_refl 4)) zero_full (hs_new w3 zeroS) ?_
             intro w4 b4 t4
             have S4 := Lib.hid (S3.out.trans (Seen.fresh (Seen.refl w3) t4))
             have K4 := Lib.hid b4
             clear b4 t4)
          | (refine wpList_storeW rfl (.tmp 31) (.tmp 30) rfl w3.heap.size g rfl rfl K4.out ?_
             intro w5 b5 t5
             have SA5 := Lib.hid (Seen.turns S4.out t5 S3.out.size)
             have KB5 := Lib.hid b5
             clear b5 t5)
          | (go_at_call 7; refine (HO.out w5 SA5.out).mono ?_; clear HO; rintro _ W5 ⟨B, G, H, rfl, _, hk5, hs5⟩; have S5 : Hid (Seen w W5) := SA5.out.trans hs5; have K6 := Lib.hid (HKV.out _ _ _ _ hk5); have K5 := Lib.hid (Hs.seen KB5.out hs5); clear hs5 hk5))
        obtain ⟨X5, hX5⟩ : ∃ q, w3.heap.size = q := ⟨_, rfl⟩
        rw [hX5] at K5 ⊢
        clear hX5 KB5 K4 S1 S2 S3 S4 SA5
        have HSRC : Hid (∀ w', Seen W5 w' → SrcC w' (.slice a n c) n 49 (flatN l)) := fun w' h' => HSR.out w' (S5.out.trans h')
        have acc0 : Seen W5 W5.drew := (Seen.refl W5).drew
        obtain ⟨i0, hi, hz0, hz1, hz2⟩ := info_parts info51z
        have FL7 : Hid (0 = 0) := rfl
        clear HKV HSR
        refine wp_region_held_drew (S := fun w' => Seen W5 w') (by kernel_rfl) acc0 (fun _ => ?_)
        refine hTake 1 (some 39) (.slice a n c) (by kernel_rfl) (by kernel_rfl) (by kernel_rfl) (by kernel_rfl) (by kernel_rfl) (by kernel_rfl) (fun _ _ _ h => h) (fun w' hS => by kernel_rfl) acc0 ?_
        simp only [Act.put, List.setIfInBounds_toArray, List.set_cons_zero, List.set_cons_succ]
        refine hTake 3 (some 41) (sv (wideS g)) (by kernel_rfl) (by kernel_rfl) (by kernel_rfl) (by kernel_rfl) (by kernel_rfl) (by kernel_rfl) (fun _ _ _ h => h) (fun w' hS => run_by (Instr.loadAt 39 (.pointer (some ⟨X5, 0, none⟩))) (by kernel_rfl) (ldaS (K5.out.seen hS) (wide_full g))) acc0 ?_
        simp only [Act.put, List.setIfInBounds_toArray, List.set_cons_zero, List.set_cons_succ]
        refine hTake 4 (some 42) (.agg (ndl (wideN g 0)).toArray) (by kernel_rfl) (by kernel_rfl) (by kernel_rfl) (by kernel_rfl) (by kernel_rfl) (by kernel_rfl) (fun _ _ _ h => h) (fun w' hS => by kernel_rfl) acc0 ?_
        simp only [Act.put, List.setIfInBounds_toArray, List.set_cons_zero, List.set_cons_succ]
        refine wpAnyH_ready (rs := [0, 5]) (by kernel_rfl) (by simp) ?_
        refine aRun 0 (some 38) (.slice (some ⟨W5.drew.heap.size, 0, none⟩) 0 0) (by kernel_rfl) (by kernel_rfl) (by kernel_rfl) (by kernel_rfl) (show Seen W5 (W5.drew.alloc (.cells #[] 42)) from Seen.alloc acc0 _) ?_ ?_
        · have acc1 := (show Seen W5 (W5.drew.alloc (.cells #[] 42)) from Seen.alloc acc0 _)
          have row1 : World.ownsRow (W5.drew.alloc (.cells #[] 42)) W5.heap.size 42 49 (.slice (some ⟨W5.drew.heap.size, 0, none⟩) 0 0) 0 [] := World.ownsRow_made W5.drew #[] 0 (Below.size acc0) (Nat.zero_le _) rfl
          simp only [Act.put, List.setIfInBounds_toArray, List.set_cons_zero, List.set_cons_succ]
          refine wpAnyH_ready (rs := [2, 5]) (by kernel_rfl) (by simp) ?_
          obtain ⟨va2, wp2, hr2, ho2, hg2, _⟩ := run_append_src (P := Try.prog) (W5.drew.alloc (.cells #[] 42)) 22 22 42 i0 (.agg (ndl zeroN).toArray) 49 384 Try.underlying22 hi hz0 hz1 hz2 rfl (by decide) W5.heap.size (.slice (some ⟨W5.drew.heap.size, 0, none⟩) 0 0) 0 [] row1 (.slice a n c) n (flatN l) (HSRC.out (W5.drew.alloc (.cells #[] 42)) acc1) (flatN_one l) (by unfold maxLen; omega) (by omega) (by have := Below.size acc1; omega)
          have acc2 : Seen W5 wp2 := Below.grown acc1 hg2 (Below.size acc1) (fun j hj => (World.ownsRow.lt row1 j hj).1)
          refine aRun 2 (some 40) (va2) (by kernel_rfl) (by kernel_rfl) (by kernel_rfl) (run_append_op (.tmp 38) (.tmp 39) (by kernel_rfl) rfl rfl hr2) acc2 ?_ ?_
          · simp only [Act.put, List.setIfInBounds_toArray, List.set_cons_zero, List.set_cons_succ]
            refine hRun 5 (some 43) (.slice (some ⟨wp2.heap.size, 0, none⟩) 1 1) (by kernel_rfl) (by kernel_rfl) (by kernel_rfl) (by kernel_rfl) (by kernel_rfl) (show Seen W5 (wp2.alloc (.cells (ndl (wideN g 0)).toArray 42)) from Seen.alloc acc2 _) ?_
            have acc3 := (show Seen W5 (wp2.alloc (.cells (ndl (wideN g 0)).toArray 42)) from Seen.alloc acc2 _)
            have one3 : World.ownsRow (wp2.alloc (.cells (ndl (wideN g 0)).toArray 42)) W5.heap.size 42 49 (.slice (some ⟨wp2.heap.size, 0, none⟩) 1 1) 1 (flatN [wideN g 0]) := new_rowN wp2 (wideN g 0) W5.heap.size (Below.size acc2)
            have row3 := World.ownsRow.alloc ho2 (.cells (ndl (wideN g 0)).toArray 42)
            simp only [Act.put, List.setIfInBounds_toArray, List.set_cons_zero, List.set_cons_succ]
            obtain ⟨va4, wp4, hr4, ho4, hg4, _⟩ := run_append_rows (P := Try.prog) (wp2.alloc (.cells (ndl (wideN g 0)).toArray 42)) 22 22 42 i0 (.agg (ndl zeroN).toArray) 49 384 Try.underlying22 hi hz0 hz1 hz2 rfl (by decide) W5.heap.size W5.heap.size (va2) (0 + n) ([] ++ flatN l) row3 (.slice (some ⟨wp2.heap.size, 0, none⟩) 1 1) 1 (flatN [wideN g 0]) one3 (flatN_one [wideN g 0]) (by unfold maxLen; omega) (by omega) (by have := Below.size acc3; omega)
            have acc4 : Seen W5 wp4 := Below.grown acc3 hg4 (Below.size acc3) (fun j hj => (World.ownsRow.lt row3 j hj).1)
            obtain ⟨a7, c7, rfl, hns, _, hn7⟩ := ns_of_own (show World.ownsRow wp4 W5.heap.size 42 49 va4 (n + 1) (flatN (l ++ [wideN g 0])) by rw [flatN_append]; simpa using ho4) (by rw [List.length_append, HL.out]; rfl)
            refine hRun 6 (some 44) (.slice a7 (n + 1) c7) (by kernel_rfl) (by kernel_rfl) (by kernel_rfl) (by kernel_rfl) (run_append_op (.tmp 40) (.tmp 43) (by kernel_rfl) rfl rfl hr4) acc4 ?_
            simp only [Act.put, List.setIfInBounds_toArray, List.set_cons_zero, List.set_cons_succ]
            refine hCall 7 (some 45) 7 #[.slice a7 (n + 1) c7] (by kernel_rfl) (by kernel_rfl) (by kernel_rfl) (by kernel_rfl) (by kernel_rfl) ?_
            refine (HOM.out wp4 a7 c7 hns).mono ?_
            rintro _ W7 ⟨B7, G7, H7, rfl, _, hk7, hs7⟩
            have acc7 : Seen W5 W7 := Seen.next acc4 hs7
            have K7 := Lib.hid (HKM.out _ _ _ _ hk7)
            clear hk7 hs7
            refine ⟨_, rfl, acc7, ?_⟩
            simp only [Act.put, List.setIfInBounds_toArray, List.set_cons_zero, List.set_cons_succ]
            refine hTake 8 (some 37) (.tuple #[.pointer (some ⟨B7, 0, none⟩), .int .i64 0]) (by kernel_rfl) (by kernel_rfl) (by kernel_rfl) (by kernel_rfl) (by kernel_rfl) (by kernel_rfl) (fun _ _ _ h => h) (fun w' hS => by kernel_rfl) acc7 ?_
            simp only [Act.put, List.setIfInBounds_toArray, List.set_cons_zero, List.set_cons_succ]
            refine hTake 9 (some 46) (.pointer (some ⟨B7, 0, none⟩)) (by kernel_rfl) (by kernel_rfl) (by kernel_rfl) (by kernel_rfl) (by kernel_rfl) (by kernel_rfl) (fun _ _ _ h => h) (fun w' hS => by kernel_rfl) acc7 ?_
            simp only [Act.put, List.setIfInBounds_toArray, List.set_cons_zero, List.set_cons_succ]
            refine hTake 10 (some 47) (.int .i64 0) (by kernel_rfl) (by kernel_rfl) (by kernel_rfl) (by kernel_rfl) (by kernel_rfl) (by kernel_rfl) (fun _ _ _ h => h) (fun w' hS => by kernel_rfl) acc7 ?_
            simp only [Act.put, List.setIfInBounds_toArray, List.set_cons_zero, List.set_cons_succ]
            refine hTake 11 (some 8) (.pointer (some ⟨B7, 0, none⟩)) (by kernel_rfl) (by kernel_rfl) (by kernel_rfl) (by kernel_rfl) (by kernel_rfl) (by kernel_rfl) (fun _ _ _ h => h) (fun w' hS => by kernel_rfl) acc7 ?_
            simp only [Act.put, List.setIfInBounds_toArray, List.set_cons_zero, List.set_cons_succ]
            refine hTake 12 (some 9) (.int .i64 0) (by kernel_rfl) (by kernel_rfl) (by kernel_rfl) (by kernel_rfl) (by kernel_rfl) (by kernel_rfl) (fun _ _ _ h => h) (fun w' hS => by kernel_rfl) acc7 ?_
            simp only [Act.put, List.setIfInBounds_toArray, List.set_cons_zero, List.set_cons_succ]
            refine wpAnyH_done (by kernel_rfl) ?_ _
            have z1 := Lib.hid acc7
            have KK1 := Lib.hid (K6.out.seen z1.out)
            go_wp2_with (first
              | (go_at_call 8; have gg := FL7.out; clear gg; refine (HB.out _ W7 KK1.out).mono ?_; clear HB FL7; rintro _ w8 ⟨rfl, hs8⟩; have S8 := Lib.hid (z1.out.trans hs8); have K8 := Lib.hid (K7.out.seen hs8); clear hs8)
              | (go_at_call 8; refine (HM.out _ w8 K8.out).mono ?_; clear HM; rintro _ w9 ⟨rfl, hs9⟩; have S9 := Lib.hid (S8.out.trans hs9); clear hs9))
            go_ret
            exact ⟨rfl, S5.out.trans S9.out⟩
          refine aRun 5 (some 43) (.slice (some ⟨(W5.drew.alloc (.cells #[] 42)).heap.size, 0, none⟩) 1 1) (by kernel_rfl) (by kernel_rfl) (by kernel_rfl) (by kernel_rfl) (show Seen W5 ((W5.drew.alloc (.cells #[] 42)).alloc (.cells (ndl (wideN g 0)).toArray 42)) from Seen.alloc acc1 _) ?_ ?_
          · have acc2 := (show Seen W5 ((W5.drew.alloc (.cells #[] 42)).alloc (.cells (ndl (wideN g 0)).toArray 42)) from Seen.alloc acc1 _)
            have one2 : World.ownsRow ((W5.drew.alloc (.cells #[] 42)).alloc (.cells (ndl (wideN g 0)).toArray 42)) W5.heap.size 42 49 (.slice (some ⟨(W5.drew.alloc (.cells #[] 42)).heap.size, 0, none⟩) 1 1) 1 (flatN [wideN g 0]) := new_rowN (W5.drew.alloc (.cells #[] 42)) (wideN g 0) W5.heap.size (Below.size acc1)
            have row2 := World.ownsRow.alloc row1 (.cells (ndl (wideN g 0)).toArray 42)
            simp only [Act.put, List.setIfInBounds_toArray, List.set_cons_zero, List.set_cons_succ]
            obtain ⟨va3, wp3, hr3, ho3, hg3, _⟩ := run_append_src (P := Try.prog) ((W5.drew.alloc (.cells #[] 42)).alloc (.cells (ndl (wideN g 0)).toArray 42)) 22 22 42 i0 (.agg (ndl zeroN).toArray) 49 384 Try.underlying22 hi hz0 hz1 hz2 rfl (by decide) W5.heap.size (.slice (some ⟨W5.drew.heap.size, 0, none⟩) 0 0) 0 [] row2 (.slice a n c) n (flatN l) (HSRC.out ((W5.drew.alloc (.cells #[] 42)).alloc (.cells (ndl (wideN g 0)).toArray 42)) acc2) (flatN_one l) (by unfold maxLen; omega) (by omega) (by have := Below.size acc2; omega)
            have acc3 : Seen W5 wp3 := Below.grown acc2 hg3 (Below.size acc2) (fun j hj => (World.ownsRow.lt row2 j hj).1)
            have one3 : World.ownsRow wp3 W5.heap.size 42 49 (.slice (some ⟨(W5.drew.alloc (.cells #[] 42)).heap.size, 0, none⟩) 1 1) 1 (flatN [wideN g 0]) := ownsRow_keeps one2 (fun gg hg' => hg3.block gg (World.ownsRow.lt one2 gg hg').2 (by intro e; simp [Value.ownBlock] at hg' e; omega))
            refine hRun 2 (some 40) (va3) (by kernel_rfl) (by kernel_rfl) (by kernel_rfl) (by kernel_rfl) (run_append_op (.tmp 38) (.tmp 39) (by kernel_rfl) rfl rfl hr3) acc3 ?_
            simp only [Act.put, List.setIfInBounds_toArray, List.set_cons_zero, List.set_cons_succ]
            obtain ⟨va4, wp4, hr4, ho4, hg4, _⟩ := run_append_rows (P := Try.prog) wp3 22 22 42 i0 (.agg (ndl zeroN).toArray) 49 384 Try.underlying22 hi hz0 hz1 hz2 rfl (by decide) W5.heap.size W5.heap.size (va3) (0 + n) ([] ++ flatN l) ho3 (.slice (some ⟨(W5.drew.alloc (.cells #[] 42)).heap.size, 0, none⟩) 1 1) 1 (flatN [wideN g 0]) one3 (flatN_one [wideN g 0]) (by unfold maxLen; omega) (by omega) (by have := Below.size acc3; omega)
            have acc4 : Seen W5 wp4 := Below.grown acc3 hg4 (Below.size acc3) (fun j hj => (World.ownsRow.lt ho3 j hj).1)
            obtain ⟨a7, c7, rfl, hns, _, hn7⟩ := ns_of_own (show World.ownsRow wp4 W5.heap.size 42 49 va4 (n + 1) (flatN (l ++ [wideN g 0])) by rw [flatN_append]; simpa using ho4) (by rw [List.length_append, HL.out]; rfl)
            refine hRun 6 (some 44) (.slice a7 (n + 1) c7) (by kernel_rfl) (by kernel_rfl) (by kernel_rfl) (by kernel_rfl) (run_append_op (.tmp 40) (.tmp 43) (by kernel_rfl) rfl rfl hr4) acc4 ?_
            simp only [Act.put, List.setIfInBounds_toArray, List.set_cons_zero, List.set_cons_succ]
            refine hCall 7 (some 45) 7 #[.slice a7 (n + 1) c7] (by kernel_rfl) (by kernel_rfl) (by kernel_rfl) (by kernel_rfl) (by kernel_rfl) ?_
            refine (HOM.out wp4 a7 c7 hns).mono ?_
            rintro _ W7 ⟨B7, G7, H7, rfl, _, hk7, hs7⟩
            have acc7 : Seen W5 W7 := Seen.next acc4 hs7
            have K7 := Lib.hid (HKM.out _ _ _ _ hk7)
            clear hk7 hs7
            refine ⟨_, rfl, acc7, ?_⟩
            simp only [Act.put, List.setIfInBounds_toArray, List.set_cons_zero, List.set_cons_succ]
            refine hTake 8 (some 37) (.tuple #[.pointer (some ⟨B7, 0, none⟩), .int .i64 0]) (by kernel_rfl) (by kernel_rfl) (by kernel_rfl) (by kernel_rfl) (by kernel_rfl) (by kernel_rfl) (fun _ _ _ h => h) (fun w' hS => by kernel_rfl) acc7 ?_
            simp only [Act.put, List.setIfInBounds_toArray, List.set_cons_zero, List.set_cons_succ]
            refine hTake 9 (some 46) (.pointer (some ⟨B7, 0, none⟩)) (by kernel_rfl) (by kernel_rfl) (by kernel_rfl) (by kernel_rfl) (by kernel_rfl) (by kernel_rfl) (fun _ _ _ h => h) (fun w' hS => by kernel_rfl) acc7 ?_
            simp only [Act.put, List.setIfInBounds_toArray, List.set_cons_zero, List.set_cons_succ]
            refine hTake 10 (some 47) (.int .i64 0) (by kernel_rfl) (by kernel_rfl) (by kernel_rfl) (by kernel_rfl) (by kernel_rfl) (by kernel_rfl) (fun _ _ _ h => h) (fun w' hS => by kernel_rfl) acc7 ?_
            simp only [Act.put, List.setIfInBounds_toArray, List.set_cons_zero, List.set_cons_succ]
            refine hTake 11 (some 8) (.pointer (some ⟨B7, 0, none⟩)) (by kernel_rfl) (by kernel_rfl) (by kernel_rfl) (by kernel_rfl) (by kernel_rfl) (by kernel_rfl) (fun _ _ _ h => h) (fun w' hS => by kernel_rfl) acc7 ?_
            simp only [Act.put, List.setIfInBounds_toArray, List.set_cons_zero, List.set_cons_succ]
            refine hTake 12 (some 9) (.int .i64 0) (by kernel_rfl) (by kernel_rfl) (by kernel_rfl) (by kernel_rfl) (by kernel_rfl) (by kernel_rfl) (fun _ _ _ h => h) (fun w' hS => by kernel_rfl) acc7 ?_
            simp only [Act.put, List.setIfInBounds_toArray, List.set_cons_zero, List.set_cons_succ]
            refine wpAnyH_done (by kernel_rfl) ?_ _
            have z1 := Lib.hid acc7
            have KK1 := Lib.hid (K6.out.seen z1.out)
            go_wp2_with (first
              | (go_at_call 8; have gg := FL7.out; clear gg; refine (HB.out _ W7 KK1.out).mono ?_; clear HB FL7; rintro _ w8 ⟨rfl, hs8⟩; have S8 := Lib.hid (z1.out.trans hs8); have K8 := Lib.hid (K7.out.seen hs8); clear hs8)
              | (go_at_call 8; refine (HM.out _ w8 K8.out).mono ?_; clear HM; rintro _ w9 ⟨rfl, hs9⟩; have S9 := Lib.hid (S8.out.trans hs9); clear hs9))
            go_ret
            exact ⟨rfl, S5.out.trans S9.out⟩
          exact AllReadyH.nil
        refine aRun 5 (some 43) (.slice (some ⟨W5.drew.heap.size, 0, none⟩) 1 1) (by kernel_rfl) (by kernel_rfl) (by kernel_rfl) (by kernel_rfl) (show Seen W5 (W5.drew.alloc (.cells (ndl (wideN g 0)).toArray 42)) from Seen.alloc acc0 _) ?_ ?_
        · have acc1 := (show Seen W5 (W5.drew.alloc (.cells (ndl (wideN g 0)).toArray 42)) from Seen.alloc acc0 _)
          have one1 : World.ownsRow (W5.drew.alloc (.cells (ndl (wideN g 0)).toArray 42)) W5.heap.size 42 49 (.slice (some ⟨W5.drew.heap.size, 0, none⟩) 1 1) 1 (flatN [wideN g 0]) := new_rowN W5.drew (wideN g 0) W5.heap.size (Below.size acc0)
          simp only [Act.put, List.setIfInBounds_toArray, List.set_cons_zero, List.set_cons_succ]
          refine hRun 0 (some 38) (.slice (some ⟨(W5.drew.alloc (.cells (ndl (wideN g 0)).toArray 42)).heap.size, 0, none⟩) 0 0) (by kernel_rfl) (by kernel_rfl) (by kernel_rfl) (by kernel_rfl) (by kernel_rfl) (show Seen W5 ((W5.drew.alloc (.cells (ndl (wideN g 0)).toArray 42)).alloc (.cells #[] 42)) from Seen.alloc acc1 _) ?_
          have acc2 := (show Seen W5 ((W5.drew.alloc (.cells (ndl (wideN g 0)).toArray 42)).alloc (.cells #[] 42)) from Seen.alloc acc1 _)
          have row2 : World.ownsRow ((W5.drew.alloc (.cells (ndl (wideN g 0)).toArray 42)).alloc (.cells #[] 42)) W5.heap.size 42 49 (.slice (some ⟨(W5.drew.alloc (.cells (ndl (wideN g 0)).toArray 42)).heap.size, 0, none⟩) 0 0) 0 [] := World.ownsRow_made (W5.drew.alloc (.cells (ndl (wideN g 0)).toArray 42)) #[] 0 (Below.size acc1) (Nat.zero_le _) rfl
          have one2 := World.ownsRow.alloc one1 (.cells #[] 42)
          simp only [Act.put, List.setIfInBounds_toArray, List.set_cons_zero, List.set_cons_succ]
          obtain ⟨va3, wp3, hr3, ho3, hg3, _⟩ := run_append_src (P := Try.prog) ((W5.drew.alloc (.cells (ndl (wideN g 0)).toArray 42)).alloc (.cells #[] 42)) 22 22 42 i0 (.agg (ndl zeroN).toArray) 49 384 Try.underlying22 hi hz0 hz1 hz2 rfl (by decide) W5.heap.size (.slice (some ⟨(W5.drew.alloc (.cells (ndl (wideN g 0)).toArray 42)).heap.size, 0, none⟩) 0 0) 0 [] row2 (.slice a n c) n (flatN l) (HSRC.out ((W5.drew.alloc (.cells (ndl (wideN g 0)).toArray 42)).alloc (.cells #[] 42)) acc2) (flatN_one l) (by unfold maxLen; omega) (by omega) (by have := Below.size acc2; omega)
          have acc3 : Seen W5 wp3 := Below.grown acc2 hg3 (Below.size acc2) (fun j hj => (World.ownsRow.lt row2 j hj).1)
          have one3 : World.ownsRow wp3 W5.heap.size 42 49 (.slice (some ⟨W5.drew.heap.size, 0, none⟩) 1 1) 1 (flatN [wideN g 0]) := ownsRow_keeps one2 (fun gg hg' => hg3.block gg (World.ownsRow.lt one2 gg hg').2 (by intro e; simp [Value.ownBlock] at hg' e; omega))
          refine hRun 2 (some 40) (va3) (by kernel_rfl) (by kernel_rfl) (by kernel_rfl) (by kernel_rfl) (run_append_op (.tmp 38) (.tmp 39) (by kernel_rfl) rfl rfl hr3) acc3 ?_
          simp only [Act.put, List.setIfInBounds_toArray, List.set_cons_zero, List.set_cons_succ]
          obtain ⟨va4, wp4, hr4, ho4, hg4, _⟩ := run_append_rows (P := Try.prog) wp3 22 22 42 i0 (.agg (ndl zeroN).toArray) 49 384 Try.underlying22 hi hz0 hz1 hz2 rfl (by decide) W5.heap.size W5.heap.size (va3) (0 + n) ([] ++ flatN l) ho3 (.slice (some ⟨W5.drew.heap.size, 0, none⟩) 1 1) 1 (flatN [wideN g 0]) one3 (flatN_one [wideN g 0]) (by unfold maxLen; omega) (by omega) (by have := Below.size acc3; omega)
          have acc4 : Seen W5 wp4 := Below.grown acc3 hg4 (Below.size acc3) (fun j hj => (World.ownsRow.lt ho3 j hj).1)
          obtain ⟨a7, c7, rfl, hns, _, hn7⟩ := ns_of_own (show World.ownsRow wp4 W5.heap.size 42 49 va4 (n + 1) (flatN (l ++ [wideN g 0])) by rw [flatN_append]; simpa using ho4) (by rw [List.length_append, HL.out]; rfl)
          refine hRun 6 (some 44) (.slice a7 (n + 1) c7) (by kernel_rfl) (by kernel_rfl) (by kernel_rfl) (by kernel_rfl) (run_append_op (.tmp 40) (.tmp 43) (by kernel_rfl) rfl rfl hr4) acc4 ?_
          simp only [Act.put, List.setIfInBounds_toArray, List.set_cons_zero, List.set_cons_succ]
          refine hCall 7 (some 45) 7 #[.slice a7 (n + 1) c7] (by kernel_rfl) (by kernel_rfl) (by kernel_rfl) (by kernel_rfl) (by kernel_rfl) ?_
          refine (HOM.out wp4 a7 c7 hns).mono ?_
          rintro _ W7 ⟨B7, G7, H7, rfl, _, hk7, hs7⟩
          have acc7 : Seen W5 W7 := Seen.next acc4 hs7
          have K7 := Lib.hid (HKM.out _ _ _ _ hk7)
          clear hk7 hs7
          refine ⟨_, rfl, acc7, ?_⟩
          simp only [Act.put, List.setIfInBounds_toArray, List.set_cons_zero, List.set_cons_succ]
          refine hTake 8 (some 37) (.tuple #[.pointer (some ⟨B7, 0, none⟩), .int .i64 0]) (by kernel_rfl) (by kernel_rfl) (by kernel_rfl) (by kernel_rfl) (by kernel_rfl) (by kernel_rfl) (fun _ _ _ h => h) (fun w' hS => by kernel_rfl) acc7 ?_
          simp only [Act.put, List.setIfInBounds_toArray, List.set_cons_zero, List.set_cons_succ]
          refine hTake 9 (some 46) (.pointer (some ⟨B7, 0, none⟩)) (by kernel_rfl) (by kernel_rfl) (by kernel_rfl) (by kernel_rfl) (by kernel_rfl) (by kernel_rfl) (fun _ _ _ h => h) (fun w' hS => by kernel_rfl) acc7 ?_
          simp only [Act.put, List.setIfInBounds_toArray, List.set_cons_zero, List.set_cons_succ]
          refine hTake 10 (some 47) (.int .i64 0) (by kernel_rfl) (by kernel_rfl) (by kernel_rfl) (by kernel_rfl) (by kernel_rfl) (by kernel_rfl) (fun _ _ _ h => h) (fun w' hS => by kernel_rfl) acc7 ?_
          simp only [Act.put, List.setIfInBounds_toArray, List.set_cons_zero, List.set_cons_succ]
          refine hTake 11 (some 8) (.pointer (some ⟨B7, 0, none⟩)) (by kernel_rfl) (by kernel_rfl) (by kernel_rfl) (by kernel_rfl) (by kernel_rfl) (by kernel_rfl) (fun _ _ _ h => h) (fun w' hS => by kernel_rfl) acc7 ?_
          simp only [Act.put, List.setIfInBounds_toArray, List.set_cons_zero, List.set_cons_succ]
          refine hTake 12 (some 9) (.int .i64 0) (by kernel_rfl) (by kernel_rfl) (by kernel_rfl) (by kernel_rfl) (by kernel_rfl) (by kernel_rfl) (fun _ _ _ h => h) (fun w' hS => by kernel_rfl) acc7 ?_
          simp only [Act.put, List.setIfInBounds_toArray, List.set_cons_zero, List.set_cons_succ]
          refine wpAnyH_done (by kernel_rfl) ?_ _
          have z1 := Lib.hid acc7
          have KK1 := Lib.hid (K6.out.seen z1.out)
          go_wp2_with (first
            | (go_at_call 8; have gg := FL7.out; clear gg; refine (HB.out _ W7 KK1.out).mono ?_; clear HB FL7; rintro _ w8 ⟨rfl, hs8⟩; have S8 := Lib.hid (z1.out.trans hs8); have K8 := Lib.hid (K7.out.seen hs8); clear hs8)
            | (go_at_call 8; refine (HM.out _ w8 K8.out).mono ?_; clear HM; rintro _ w9 ⟨rfl, hs9⟩; have S9 := Lib.hid (S8.out.trans hs9); clear hs9))
          go_ret
          exact ⟨rfl, S5.out.trans S9.out⟩
        exact AllReadyH.nil
    · have hcb : (checkT l == 0) = false := by simpa using hc
      obtain ⟨K, hK⟩ : ∃ q, checkT l = q := ⟨_, rfl⟩
      rw [hK] at HC hc hcb
      have hne : (K != 0) = true := by simpa using hc
      clear hK
      go_enter Try.func4, Try.ntmps4
      go_wp2_with (first
        | (go_at_call 5; refine A0.out.mono ?_; clear A0; rintro _ w1 ⟨rfl, hs1⟩; have S1 : Hid (Seen w w1) := hs1; clear hs1)
        | (go_at_call 6; refine (HC.out w1 S1.out).mono ?_; clear HC; rintro _ w2 ⟨rfl, hs2⟩; have S2 : Hid (Seen w w2) := S1.out.trans hs2; clear hs2)
        | (go_at_call 5; refine (awake_any15 w2).mono ?_; rintro _ w3 ⟨rfl, hs3⟩; have S3 : Hid (Seen w w3) := S2.out.trans hs3; clear hs3))
      go_ret
      exact ⟨rfl, S3.out⟩
/-! ### The row's step. -/
set_option maxRecDepth 100000 in
theorem lifted (os : Os) (started : os.Started) (H : Type) (enc : TypeId × Value → H) :
    ReturnsInHanded {} Try.checked os 4 .any (Rows.preferWiderSpec.pre6 enc Try.prog Try.f4 Rows.preferWiderRow.domain false) (Rows.preferWiderSpec.post enc Try.prog Try.f4 false true false false) := by
  refine returnsInHanded_of_change (C := Try.checked) own started (by kernel_rfl) Try.func4
    (ChangeSpec.witness6 (enc := enc) (C := Try.checked) false ⟨#[], #[.slice none 0 0, .int .u16 0], []⟩ 8 (by kernel_rfl) (by kernel_rfl) (by kernel_rfl) (by kernel_rfl)) ?_
  intro W base args ds gs before hval0 hW hcnd _
  have hval : ∀ (j : Nat) t v, Try.f4.params[j]? = some t → args[j]? = some v → Value.okWide Try.prog W .any base t v := hval0
  have hW' := hW
  obtain ⟨p, q, hA0, hV, rfl, hfz, hnd⟩ := hW
  have hA : DataW.TrodAll enc Try.prog W 0 (fun _ => true) true Try.f4.params.toList args.toList ds p := hA0
  rw [Try.params4] at hA hval
  obtain ⟨v0, vs0, d0, ds0, p0, q0, hargs, rfl, rfl, h0, r0⟩ := trodAll_cons hA
  obtain ⟨v1, vs1, d1, ds1, p1, q1, rfl, rfl, rfl, h1, r1⟩ := trodAll_cons r0
  obtain ⟨rfl, rfl, rfl⟩ := trodAll_nil r1
  obtain rfl : args = #[v0, v1] := by cases args; simp_all
  obtain ⟨rfl, rfl⟩ := trodVars_none hV
  have k0 := h0
  have lt0 : ∀ x ∈ p0, x.block < W.heap.size := by obtain ⟨m, hm⟩ := k0; exact DataW.trod_lt m _ _ _ hm
  obtain ⟨a0, len0, cap0, g0, rfl, o0⟩ := open_nodes (hval 0 22 v0 rfl rfl) h0
  have k1 := h1
  have lt1 : ∀ x ∈ p1, x.block < W.heap.size := by obtain ⟨m, hm⟩ := k1; exact DataW.trod_lt m _ _ _ hm
  obtain ⟨g1, rfl, o1⟩ := open_u16 (hval 1 33 v1 rfl rfl) h1
  clear hA0 hval0
  refine (walk a0 len0 cap0 g0 g1 W o0 o1).mono fun e W' ⟨he, bel⟩ => ?_
  subst he
  exact ⟨_, rfl, _, _, _, [], _, [], hW', trodAll_mk1 (shut_bool Try.underlying4 _), (trodAll_cons_mk (Below.trod laidOut (by kernel_rfl) (of_decide_eq_true (by kernel_rfl)) k0 bel lt0) (trodAll_cons_mk (Below.trod laidOut (by kernel_rfl) (of_decide_eq_true (by kernel_rfl)) k1 bel lt1) trodAll_mk0)), rfl, bel.frame _, fun h => by cases h⟩

theorem over : Rows.preferWiderRow.holds Try.pinned (OpenSpec.ofChange Rows.preferWiderSpec) :=
  OpenClaim.holds_of_wide 4 Try.f4 rfl rfl rfl rfl rfl rfl rfl ⟨rfl, rfl, rfl, rfl, rfl⟩ rfl rfl rfl rfl rfl (by kernel_rfl) Try.func4 (by kernel_rfl)
    (of_decide_eq_true (by kernel_rfl)) (by unfold Func.isWrapper; first | (rw [if_pos (by decide +kernel)]; kernel_rfl) | (rw [if_neg (by decide +kernel)]; exact ⟨rfl, rfl⟩))
    (fun os started H enc _ => lifted os started H enc)

/-- The statement. -/
theorem proved : Rows.PreferWiderSaid := over
#print axioms proved
end Go.Proofs.Ytlnnaegmcopiiaa.preferWider
