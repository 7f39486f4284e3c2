/- Proved: for every slice of entries the law AgendaSorts returns true, and its argument reads afterwards as before; no conditions. -/
import Derived.Test.YtacdgfihabjfkaaRows
import Derived.WalkKit
import Derived.Test.YtacdgfihabjfkaaAwake
import Derived.Test.YtacdgfihabjfkaaArgs
import Derived.Test.YtacdgfihabjfkaaSortedW
import Derived.Test.YtacdgfihabjfkaaRefSorted
import Derived.ProofKit
import Derived.OpenShut
import Derived.ShutString
import Derived.ChangeOld
import Derived.Below
namespace Go.Proofs.Ytacdgfihabjfkaa.agendaSorts
open Go.ChangeShapes Go.WideShapes Go.ChangeAt Go.RowKit
set_option linter.unusedVariables false

theorem own : ownKnob Try.prog.godebug = none := by kernel_rfl
theorem laidOut : laidOutB Try.prog = true := by kernel_rfl


set_option maxRecDepth 100000 in
set_option maxHeartbeats 8000000 in
theorem walk (ad : Option Addr) (n c : Nat) (l : List E3) (w : World) (h : ES w ad n l ∧ n ≤ c ∧ (ad = none → c = 0)) :
    Calls Try.prog 4 #[.slice ad n c] w fun e w' => e = .returned (.bool true) ∧ Below w.heap.size w w' := by
  obtain ⟨i0, hi, hz0, hz1, hz2⟩ := info_parts info32
  obtain ⟨h, hc, hcn⟩ := h
  have HR := Lib.hid h
  have HCN := Lib.hid hcn
  have HLN : Hid (l.length = n) := h.1
  clear h hcn
  by_cases hn : 200 < n
  · have hn' : (200 : Int) < (n : Int) := by omega
    go_enter Try.func4, Try.ntmps4
    go_wp2_with fail
    refine (awake_any _).mono ?_
    rintro e wA ⟨rfl, hA⟩
    go_wp2_with fail
    refine (awake_any _).mono ?_
    rintro e wB ⟨rfl, hB⟩
    go_wp2_with fail
    go_ret
    exact ⟨rfl, Seen.next hA hB⟩
  · have hn' : ¬ (200 : Int) < (n : Int) := by omega
    go_enter Try.func4, Try.ntmps4
    go_wp2_with fail
    refine (awake_any _).mono ?_
    rintro e wA ⟨rfl, hA⟩
    have sA : Seen w wA := hA
    clear hA
    go_wp2_with fail
    go_loopw [3, 18] (fun v i wr => ∃ k : Nat, k ≤ n ∧ i = .int .i64 k ∧ wr.ownsRow w.heap.size 32 3 v k (flatE (l.take k)) ∧ Seen w wr) (fun _ i _ => n - (intOf i).toNat)
    case atStart => exact ⟨0, Nat.zero_le _, rfl, World.ownsRow_nil _ _ _ _, sA⟩
    case round =>
      obtain ⟨k, hk, rfl, hrow, hs⟩ := hrel
      have HROW := Lib.hid hrow
      clear hrow
      by_cases hlt : k < n
      · obtain ⟨b, off, rfl, hat⟩ := HR.out.2 (by omega)
        have hkk : (k : Int) < (n : Int) := by omega
        have hc3 := hs.at3 (hat k hlt)
        have z0 := hc3.1
        have z1 := hc3.2.1
        have z2 := hc3.2.2
        clear hat hc3
        go_wp2_with (at_builtin; refine wpList_append_rows _ rfl (.tmp 21) (.tmp 26) 28 rfl 32 i0 (.agg #[.int .i64 0, .int .i64 0, .int .i64 0]) 3 24 Try.underlying28 hi hz0 hz1 hz2 rfl (by decide) w.heap.size 0 _ _ _ rfl (HROW.out.alloc _) (.slice (some ⟨wr.heap.size, 0, none⟩) 1 1) 1 (flatE [eat l k]) rfl (new_row3 wr 32 (eat l k)) (flatE_one _) (by unfold maxLen; omega) (by omega) (hs.alloc _).size ?_
                     intro v5 w5 hown5 hgrow5 hat5
                     have s5 : Seen w w5 := Below.grown (hs.alloc _) hgrow5 (hs.alloc _).size (fun j hj => (HROW.out.lt j hj).1)
                     have H5 := Lib.hid hown5
                     clear hown5 hgrow5 hat5 z0 z1 z2)
        go_roundw
        case rel =>
          refine ⟨k + 1, by omega, by go_num, ?_, s5⟩
          have e : l.take (k + 1) = l.take k ++ [eat l k] := by
            rw [eat_eq (by rw [HLN.out]; exact hlt)]; exact (List.take_append_getElem (by rw [HLN.out]; exact hlt)).symm
          rw [e, flatE_append]
          exact H5.out
        case measure => simp [intOf]; omega
      · have hnk : ¬ (k : Int) < (n : Int) := by omega
        have hkn : k = n := by omega
        subst hkn
        have hfull : l.take k = l := List.take_of_length_le (by rw [HLN.out]; exact Nat.le_refl _)
        have hrow := HROW.out
        rw [hfull] at hrow
        obtain ⟨av, cv, rfl, hev, hcv⟩ := es_of_own hrow HLN.out
        have HEV := Lib.hid hev
        clear hrow hev hfull HROW
        go_wp2_with fail
        refine (sorted_any ad k c l wr (HR.out.seen hs) HCN.out (by omega)).mono ?_
        rintro e w1 ⟨⟨v1, rfl, hr1⟩, b1⟩
        have s1 : Seen wr w1 := b1
        obtain ⟨a1, c1, rfl, he1, _⟩ := es_of_own hr1 ((srt_length l).trans HLN.out)
        have HE1 := Lib.hid he1
        clear b1 hr1 he1
        go_wp2_with fail
        refine (refSorted_any av k cv l w1 (HEV.out.seen s1) hcv (by omega)).mono ?_
        rintro e w2 ⟨⟨v2, rfl, hr2⟩, b2⟩
        have s2 : Seen w1 w2 := b2
        obtain ⟨a2, c2, rfl, he2, _⟩ := es_of_own hr2 ((srt_length l).trans HLN.out)
        have HE2 := Lib.hid he2
        have SW : Hid (Seen w w2) := hs.trans (s1.trans s2)
        have S12 := Lib.hid (And.intro s1 s2)
        clear b2 hr2 he2 s1 s2
        have hq := run_neq31
        have hs3 := eq3_same
        go_wp2_with fail
        go_loopw [40] (fun i wq => ∃ j : Nat, j ≤ k ∧ i = .int .i64 j ∧ Seen w2 wq) (fun i _ => k - (intOf i).toNat)
        case atStart => exact ⟨0, Nat.zero_le _, rfl, Seen.refl _⟩
        case round =>
          obtain ⟨j, hj, rfl, hsq⟩ := hrel
          by_cases hjl : j < k
          · have hjj : (j : Int) < (k : Int) := by omega
            obtain ⟨b1, o1, rfl, hc1⟩ := HE1.out.2 (by omega)
            obtain ⟨b2, o2, rfl, hc2⟩ := HE2.out.2 (by omega)
            obtain ⟨b3, o3, rfl, hc3⟩ := HR.out.2 (by omega)
            obtain ⟨b4, o4, rfl, hc4⟩ := HEV.out.2 (by omega)
            obtain ⟨p0, p1, p2⟩ := hsq.at3 (S12.out.2.at3 (hc1 j hjl))
            obtain ⟨q0, q1, q2⟩ := hsq.at3 (hc2 j hjl)
            obtain ⟨r0, r1, r2⟩ := hsq.at3 (SW.out.at3 (hc3 j hjl))
            obtain ⟨t0, t1, t2⟩ := hsq.at3 (S12.out.2.at3 (S12.out.1.at3 (hc4 j hjl)))
            clear hc1 hc2 hc3 hc4
            go_wp2_with fail
            go_quiet (fail)
            go_wp2_with fail
            go_roundw
            case rel => exact ⟨j + 1, by omega, by go_num, Seen.next hsq (Go.Joins.below_draws _ _ _)⟩
            case measure => simp [intOf]; omega
          · have hjj : ¬ (j : Int) < (k : Int) := by omega
            go_wp2_with fail
            go_ret
            exact ⟨rfl, SW.out.trans hsq⟩

/-! ### The row's step. -/
set_option maxRecDepth 100000 in
theorem lifted (os : Os) (started : os.Started) (H : Type) (enc : TypeId × Value → H) :
    ReturnsInHanded {} Try.checked os 4 .any (Rows.agendaSortsSpec.pre6 enc Try.prog Try.f4 Rows.agendaSortsRow.domain false) (Rows.agendaSortsSpec.post enc Try.prog Try.f4 false true false false) := by
  refine returnsInHanded_of_change (C := Try.checked) own started (by kernel_rfl) Try.func4
    (ChangeSpec.witness6 (enc := enc) (C := Try.checked) false ⟨#[], #[.slice none 0 0], []⟩ 8 (by kernel_rfl) (by kernel_rfl) (by kernel_rfl) (by kernel_rfl)) ?_
  intro W base args ds gs before hval0 hW hcnd _
  have hval : ∀ (j : Nat) t v, Try.f4.params[j]? = some t → args[j]? = some v → Value.okWide Try.prog W .any base t v := hval0
  have hW' := hW
  obtain ⟨p, q, hA0, hV, rfl, hfz, hnd⟩ := hW
  have hA : DataW.TrodAll enc Try.prog W 0 (fun _ => true) true Try.f4.params.toList args.toList ds p := hA0
  rw [Try.params4] at hA hval
  obtain ⟨v0, vs0, d0, ds0, p0, q0, hargs, rfl, rfl, h0, r0⟩ := trodAll_cons hA
  obtain ⟨rfl, rfl, rfl⟩ := trodAll_nil r0
  obtain rfl : args = #[v0] := by cases args; simp_all
  obtain ⟨rfl, rfl⟩ := trodVars_none hV
  have k0 := h0
  have lt0 : ∀ x ∈ p0, x.block < W.heap.size := by obtain ⟨m, hm⟩ := k0; exact DataW.trod_lt m _ _ _ hm
  obtain ⟨a0, len0, cap0, g0, rfl, o0⟩ := open_rowE (hval 0 24 v0 rfl rfl) h0
  clear hA0 hval0
  refine (walk a0 len0 cap0 g0 W o0).mono fun e W' ⟨he, bel⟩ => ?_
  subst he
  exact ⟨_, rfl, _, _, _, [], _, [], hW', trodAll_mk1 (shut_bool Try.underlying4 _), (trodAll_cons_mk (Below.trod laidOut (by kernel_rfl) (of_decide_eq_true (by kernel_rfl)) k0 bel lt0) trodAll_mk0), rfl, bel.frame _, fun h => by cases h⟩

theorem over : Rows.agendaSortsRow.holds Try.pinned (OpenSpec.ofChange Rows.agendaSortsSpec) :=
  OpenClaim.holds_of_wide 4 Try.f4 rfl rfl rfl rfl rfl rfl rfl ⟨rfl, rfl, rfl, rfl, rfl⟩ rfl rfl rfl rfl rfl (by kernel_rfl) Try.func4 (by kernel_rfl)
    (of_decide_eq_true (by kernel_rfl)) (by unfold Func.isWrapper; first | (rw [if_pos (by decide +kernel)]; kernel_rfl) | (rw [if_neg (by decide +kernel)]; exact ⟨rfl, rfl⟩))
    (fun os started H enc _ => lifted os started H enc)

/-- The statement. -/
theorem proved : Rows.AgendaSortsSaid := over
#print axioms proved
end Go.Proofs.Ytacdgfihabjfkaa.agendaSorts
