/- Proved: for every slice of int64 and every uint8 the law StrutJoins returns true, and its arguments read afterwards as before; no conditions. -/
import Derived.Test.YtmmekemklcogmaaRows
import Derived.WalkKit
import Derived.Test.YtmmekemklcogmaaAll
import Derived.ProofKit
import Derived.OpenShut
import Derived.ShutString
import Derived.ChangeOld
import Derived.Below
namespace Go.Proofs.Ytmmekemklcogmaa.strutJoins
open Go.ChangeShapes Go.WideShapes Go.ChangeAt Go.RowKit
set_option linter.unusedVariables false

theorem own : ownKnob Try.prog.godebug = none := by kernel_rfl
theorem laidOut : laidOutB Try.prog = true := by kernel_rfl

/-- The two struts of the law's loop, after k rounds, parted at m. -/
def aK (zs : List Int) (m k : Nat) : St := allS (zs.take (min k m))
def bK (zs : List Int) (m k : Nat) : St := allS ((zs.take k).drop m)
theorem aK_less {zs : List Int} {m k : Nat} (hk : k < zs.length) (h : k < m) : aK zs m (k + 1) = joinS (aK zs m k) (ofM (zat zs k)) ∧ bK zs m (k + 1) = bK zs m k := by
  unfold aK bK
  rw [show min (k + 1) m = k + 1 by omega, show min k m = k by omega, take_one hk, all_append, all_one]
  refine ⟨rfl, ?_⟩
  rw [List.drop_eq_nil_of_le (by simp; omega), List.drop_eq_nil_of_le (by simp; omega)]
theorem aK_more {zs : List Int} {m k : Nat} (hk : k < zs.length) (h : ¬ k < m) : aK zs m (k + 1) = aK zs m k ∧ bK zs m (k + 1) = joinS (ofM (zat zs k)) (bK zs m k) := by
  unfold aK bK
  rw [show min (k + 1) m = m by omega, show min k m = m by omega, take_one hk, List.drop_append_of_le_length (by simp; omega), all_append, all_one]
  exact ⟨rfl, joinS_comm _ _⟩
theorem aK_end {zs : List Int} {m k : Nat} (hk : k = zs.length) (h : m ≤ k) : joinS (aK zs m k) (bK zs m k) = allS zs := by
  unfold aK bK
  rw [show min k m = m by omega, ← all_append, hk, List.take_length, List.take_append_drop]
theorem aK_none (zs : List Int) (m : Nat) : aK zs m 0 = ⟨0, 0⟩ := by unfold aK; rw [Nat.zero_min]; rfl
theorem bK_none (zs : List Int) (m : Nat) : bK zs m 0 = ⟨0, 0⟩ := by unfold bK; rw [List.take_zero, List.drop_nil]; rfl
theorem okR_seen {w w' : World} {q : Row} (h : okR w q) (hs : Seen w w') : okR w' q := by
  obtain ⟨⟨hl, hc⟩, hr⟩ := h
  refine ⟨⟨hl, fun h0 => ?_⟩, fun b off he h0 => Nat.lt_of_lt_of_le (hr b off he h0) hs.size⟩
  obtain ⟨b, off, he, hcell⟩ := hc h0
  exact ⟨b, off, he, fun i hi => hs.cell (hcell i hi)⟩
theorem rem_is (x : Int) (n : Nat) (h : 0 ≤ x) (hn : 0 < n) : ∃ m : Nat, m ≤ n ∧ x.tmod n = (m : Int) := by
  rw [Int.tmod_eq_emod_of_nonneg h]
  have h1 := Int.emod_nonneg x (show (n : Int) ≠ 0 by omega)
  have h2 := Int.emod_lt_of_pos x (show 0 < (n : Int) by omega)
  exact ⟨(x % n).toNat, by omega, by omega⟩
set_option maxHeartbeats 2000000 in
theorem walk (q : Row) (x : Int) (w : World) (oq : okR w q) (ox : okE x) :
    Calls Try.prog 3 #[.slice q.a q.n q.c, .int .u8 x] w fun e w' => e = .returned (.bool true) ∧ Below w.heap.size w w' := by
  have HQ := Lib.hid oq
  by_cases hn : 100 < q.n
  · have hn' : (100 : Int) < (q.n : Int) := by omega
    clear oq HQ ox
    have acc := Seen.refl w
    go_enter Try.func3, Try.ntmps3
    go_wp2_with (go_at_call 6; refine (awake_any _).mono ?_; rintro e w1 ⟨rfl, hb⟩; replace acc := acc.next hb; clear hb)
    go_ret
    exact ⟨rfl, acc⟩
  have hn' : ¬ (100 : Int) < (q.n : Int) := by omega
  obtain ⟨a, n, c, zs⟩ := q
  simp only at hn hn' ⊢
  obtain ⟨ox0, ox1⟩ := ox
  clear oq
  by_cases h0 : 0 < n
  · obtain ⟨m, hm, hrem⟩ := rem_is x n ox0 h0
    have h0' : (0 : Int) < (n : Int) := by omega
    go_enter Try.func3, Try.ntmps3
    go_wp2_with (go_at_call 6; refine (awake_any _).mono ?_; rintro e wA ⟨rfl, hA⟩; have sA : Seen w wA := hA; clear hA)
    obtain ⟨W, hW⟩ : ∃ W, W = (wA.alloc (.cells #[.int .i64 0, .int .i64 0] 25)).alloc (.cells #[.int .i64 0, .int .i64 0] 25) := ⟨_, rfl⟩
    have KA : Hid (Blk W wA.heap.size [.int .i64 0, .int .i64 0] 25) := by rw [hW]; exact (Blk.new wA _ _).alloc _
    have KB : Hid (Blk W (wA.heap.size + 1) [.int .i64 0, .int .i64 0] 25) := by rw [hW]; simpa [Hid] using Blk.new (wA.alloc (.cells #[.int .i64 0, .int .i64 0] 25)) [.int .i64 0, .int .i64 0] 25
    have HB : Hid (Below wA.heap.size wA W) := by rw [hW]; exact ((Seen.refl wA).alloc _).alloc _
    rw [← hW]
    clear hW
    have SA := Lib.hid sA
    have HA := Lib.hid (okR_seen HQ.out sA)
    clear sA HQ
    go_loopw [27] (fun i wr => ∃ k : Nat, k ≤ n ∧ i = .int .i64 k ∧ Blk wr wA.heap.size [.int .i64 (aK zs m k).p, .int .i64 (aK zs m k).n] 25 ∧ Blk wr (wA.heap.size + 1) [.int .i64 (bK zs m k).p, .int .i64 (bK zs m k).n] 25 ∧ Below wA.heap.size wA wr) (fun i _ => n - (intOf i).toNat)
    case atStart => exact ⟨0, Nat.zero_le _, rfl, by rw [aK_none]; exact KA.out, by rw [bK_none]; exact KB.out, HB.out⟩
    case round =>
      clear KA KB HB
      obtain ⟨k, hk, rfl, kA, kB, hbel⟩ := hrel
      have hbel' : Seen wA wr := hbel
      have HR := Lib.hid (okR_seen HA.out hbel')
      have HB := Lib.hid hbel
      have KA := Lib.hid kA
      have KB := Lib.hid kB
      have rA := kA.rules2
      have rB := kB.rules2
      clear hbel hbel' kA kB
      have sd : Seen wr wr.drew := (Seen.refl wr).drew
      by_cases hkn : k < n
      · have HL : Hid (zs.length = n) := HR.out.1.1
        obtain ⟨b, off, rfl, hcell⟩ := HR.out.1.2 (show 0 < n by omega)
        have hck : ∀ w', Seen wr w' → w'.cell? ⟨b, off + k, none⟩ = some (.int .i64 (zat zs k)) := fun w' h => h.cell (hcell k hkn)
        clear hcell
        have o1 := of_any (zat zs k)
        by_cases hkm : k < m
        · have E := Lib.hid (aK_less (zs := zs) (m := m) (k := k) (by rw [HL.out]; exact hkn) hkm)
          have j1 := join_any (aK zs m k) (ofM (zat zs k))
          generalize aK zs m k = s at E j1 rA KA
          generalize bK zs m k = t at E rB KB
          generalize zat zs k = z at E hck o1 j1
          generalize ofM z = o at E o1 j1
          generalize joinS s o = r at E j1
          go_wp2_with fail
          go_region_with (first
            | (go_at_call 8; refine (o1 _).mono ?_; rintro e w1 ⟨rfl, hb1⟩; have s1 : Seen wr w1 := sd.next hb1; clear hb1)
            | (go_at_call 7; refine (j1 _).mono ?_; rintro e w2 ⟨rfl, hb2⟩; have s2 : Seen wr w2 := s1.next hb2; clear hb2))
          all_goals
            go_wp2_with fail
            go_roundw
            case rel => exact ⟨k + 1, by omega, by go_num, by rw [E.out.1]; exact ((KA.out.seen s2).set 0 _).set 1 _, by rw [E.out.2]; exact ((KB.out.seen s2).other (by simp) _).other (by simp) _, ((HB.out.trans (s2.mono HB.out.size)).setCell (by simp) _).setCell (by simp) _⟩
            case measure => simp [intOf]; omega
        · have E := Lib.hid (aK_more (zs := zs) (m := m) (k := k) (by rw [HL.out]; exact hkn) hkm)
          have j1 := join_any (ofM (zat zs k)) (bK zs m k)
          generalize aK zs m k = s at E rA KA
          generalize bK zs m k = t at E j1 rB KB
          generalize zat zs k = z at E hck o1 j1
          generalize ofM z = o at E o1 j1
          generalize joinS o t = r at E j1
          go_wp2_with fail
          go_region_with (first
            | (go_at_call 8; refine (o1 _).mono ?_; rintro e w1 ⟨rfl, hb1⟩; have s1 : Seen wr w1 := sd.next hb1; clear hb1)
            | (go_at_call 7; refine (j1 _).mono ?_; rintro e w2 ⟨rfl, hb2⟩; have s2 : Seen wr w2 := s1.next hb2; clear hb2))
          all_goals
            go_wp2_with fail
            go_roundw
            case rel => exact ⟨k + 1, by omega, by go_num, by rw [E.out.1]; exact ((KA.out.seen s2).other (by simp) _).other (by simp) _, by rw [E.out.2]; exact ((KB.out.seen s2).set 0 _).set 1 _, ((HB.out.trans (s2.mono HB.out.size)).setCell (by simp) _).setCell (by simp) _⟩
            case measure => simp [intOf]; omega
      · have hke : k = n := by omega
        have HL : Hid (zs.length = n) := HR.out.1.1
        have E := aK_end (zs := zs) (m := m) (k := k) (by rw [HL.out]; exact hke) (by omega)
        have j0 := join_any (aK zs m k) (bK zs m k)
        have j1 := join_any (bK zs m k) (aK zs m k)
        have al : ∀ w', Seen wr w' → _ := fun w' h => refAll_any ⟨a, n, c, zs⟩ w' (okR_seen HR.out h) (show n ≤ 4000 by omega)
        rw [joinS_comm] at j1
        simp only [← E] at al
        clear E
        generalize aK zs m k = s at j0 j1 rA KA al
        generalize bK zs m k = t at j0 j1 rB KB al
        generalize joinS s t = r at j0 j1 al
        have q0 := eqS_self r
        have eql := run_eql25
        have sr := Seen.refl wr
        go_wp2_with fail
        refine wp_region_quiet (C := Seen wr) (by kernel_rfl) (by kernel_rfl) (Seen.drew sr) ?_
        simp only []
        repeat (first
          | go_big_quiet_skip
          | (go_big_quiet_want
             apply Exists.intro
             refine ⟨fun w1 h1 => ?_, ?_⟩
             focus
               go_simp
               first | done | rfl | (go_at_call 7; with_reducible exact quiet_call h1 (j0 _)) | (go_at_call 7; with_reducible exact quiet_call h1 (j1 _)) | (go_at_call 9; with_reducible exact quiet_call h1 (al _ h1))
             (try simp only [Act.put, List.setIfInBounds_toArray, List.set_cons_zero, List.set_cons_succ])
             go_big_quiet_on))
        refine wpQuiet_nil ?_
        intro w2 h2
        go_wp2
        go_ret
        exact ⟨rfl, SA.out.trans (HB.out.trans (h2.mono HB.out.size))⟩
  · obtain rfl : n = 0 := by omega
    clear h0
    go_enter Try.func3, Try.ntmps3
    go_wp2_with (go_at_call 6; refine (awake_any _).mono ?_; rintro e wA ⟨rfl, hA⟩; have sA : Seen w wA := hA; clear hA)
    obtain ⟨W, hW⟩ : ∃ W, W = (wA.alloc (.cells #[.int .i64 0, .int .i64 0] 25)).alloc (.cells #[.int .i64 0, .int .i64 0] 25) := ⟨_, rfl⟩
    have KA : Hid (Blk W wA.heap.size [.int .i64 0, .int .i64 0] 25) := by rw [hW]; exact (Blk.new wA _ _).alloc _
    have KB : Hid (Blk W (wA.heap.size + 1) [.int .i64 0, .int .i64 0] 25) := by rw [hW]; simpa [Hid] using Blk.new (wA.alloc (.cells #[.int .i64 0, .int .i64 0] 25)) [.int .i64 0, .int .i64 0] 25
    have HB : Hid (Below wA.heap.size wA W) := by rw [hW]; exact ((Seen.refl wA).alloc _).alloc _
    rw [← hW]
    clear hW
    have SA := Lib.hid sA
    have HA := Lib.hid (okR_seen HQ.out sA)
    clear sA HQ
    go_loopw [27] (fun i wr => ∃ k : Nat, k ≤ 0 ∧ i = .int .i64 k ∧ Blk wr wA.heap.size [.int .i64 (aK zs 0 k).p, .int .i64 (aK zs 0 k).n] 25 ∧ Blk wr (wA.heap.size + 1) [.int .i64 (bK zs 0 k).p, .int .i64 (bK zs 0 k).n] 25 ∧ Below wA.heap.size wA wr) (fun i _ => 0 - (intOf i).toNat)
    case atStart => exact ⟨0, Nat.zero_le _, rfl, by rw [aK_none]; exact KA.out, by rw [bK_none]; exact KB.out, HB.out⟩
    case round =>
      clear KA KB HB
      obtain ⟨k, hk, rfl, kA, kB, hbel⟩ := hrel
      have hbel' : Seen wA wr := hbel
      have HR := Lib.hid (okR_seen HA.out hbel')
      have HB := Lib.hid hbel
      have KA := Lib.hid kA
      have KB := Lib.hid kB
      have rA := kA.rules2
      have rB := kB.rules2
      clear hbel hbel' kA kB
      have sd : Seen wr wr.drew := (Seen.refl wr).drew
      by_cases hkn : k < 0
      · omega
      · have hke : k = 0 := by omega
        have HL : Hid (zs.length = 0) := HR.out.1.1
        have E := aK_end (zs := zs) (m := 0) (k := k) (by rw [HL.out]; exact hke) (by omega)
        have j0 := join_any (aK zs 0 k) (bK zs 0 k)
        have j1 := join_any (bK zs 0 k) (aK zs 0 k)
        have al : ∀ w', Seen wr w' → _ := fun w' h => refAll_any ⟨a, 0, c, zs⟩ w' (okR_seen HR.out h) (show 0 ≤ 4000 by omega)
        rw [joinS_comm] at j1
        simp only [← E] at al
        clear E
        generalize aK zs 0 k = s at j0 j1 rA KA al
        generalize bK zs 0 k = t at j0 j1 rB KB al
        generalize joinS s t = r at j0 j1 al
        have q0 := eqS_self r
        have eql := run_eql25
        have sr := Seen.refl wr
        go_wp2_with fail
        refine wp_region_quiet (C := Seen wr) (by kernel_rfl) (by kernel_rfl) (Seen.drew sr) ?_
        simp only []
        repeat (first
          | go_big_quiet_skip
          | (go_big_quiet_want
             apply Exists.intro
             refine ⟨fun w1 h1 => ?_, ?_⟩
             focus
               go_simp
               first | done | rfl | (go_at_call 7; with_reducible exact quiet_call h1 (j0 _)) | (go_at_call 7; with_reducible exact quiet_call h1 (j1 _)) | (go_at_call 9; with_reducible exact quiet_call h1 (al _ h1))
             (try simp only [Act.put, List.setIfInBounds_toArray, List.set_cons_zero, List.set_cons_succ])
             go_big_quiet_on))
        refine wpQuiet_nil ?_
        intro w2 h2
        go_wp2
        go_ret
        exact ⟨rfl, SA.out.trans (HB.out.trans (h2.mono HB.out.size))⟩

/-! ### The row's step. -/
set_option maxRecDepth 100000 in
theorem lifted (os : Os) (started : os.Started) (H : Type) (enc : TypeId × Value → H) :
    ReturnsInHanded {} Try.checked os 3 .any (Rows.strutJoinsSpec.pre6 enc Try.prog Try.f3 Rows.strutJoinsRow.domain false) (Rows.strutJoinsSpec.post enc Try.prog Try.f3 false true false false) := by
  refine returnsInHanded_of_change (C := Try.checked) own started (by kernel_rfl) Try.func3
    (ChangeSpec.witness6 (enc := enc) (C := Try.checked) false ⟨#[], #[.slice none 0 0, .int .u8 0], []⟩ 8 (by kernel_rfl) (by kernel_rfl) (by kernel_rfl) (by kernel_rfl)) ?_
  intro W base args ds gs before hval0 hW hcnd _
  have hval : ∀ (j : Nat) t v, Try.f3.params[j]? = some t → args[j]? = some v → Value.okWide Try.prog W .any base t v := hval0
  have hW' := hW
  obtain ⟨p, q, hA0, hV, rfl, hfz, hnd⟩ := hW
  have hA : DataW.TrodAll enc Try.prog W 0 (fun _ => true) true Try.f3.params.toList args.toList ds p := hA0
  rw [Try.params3] at hA hval
  obtain ⟨v0, vs0, d0, ds0, p0, q0, hargs, rfl, rfl, h0, r0⟩ := trodAll_cons hA
  obtain ⟨v1, vs1, d1, ds1, p1, q1, rfl, rfl, rfl, h1, r1⟩ := trodAll_cons r0
  obtain ⟨rfl, rfl, rfl⟩ := trodAll_nil r1
  obtain rfl : args = #[v0, v1] := by cases args; simp_all
  obtain ⟨rfl, rfl⟩ := trodVars_none hV
  have k0 := h0
  have lt0 : ∀ x ∈ p0, x.block < W.heap.size := by obtain ⟨m, hm⟩ := k0; exact DataW.trod_lt m _ _ _ hm
  obtain ⟨g0, rfl, o0⟩ := open_row (hval 0 22 v0 rfl rfl) h0
  have k1 := h1
  have lt1 : ∀ x ∈ p1, x.block < W.heap.size := by obtain ⟨m, hm⟩ := k1; exact DataW.trod_lt m _ _ _ hm
  obtain ⟨g1, rfl, o1⟩ := open_byte (hval 1 5 v1 rfl rfl) h1
  clear hA0 hval0
  refine (walk g0 g1 W o0 o1).mono fun e W' ⟨he, bel⟩ => ?_
  subst he
  exact ⟨_, rfl, _, _, _, [], _, [], hW', trodAll_mk1 (shut_bool Try.underlying4 _), (trodAll_cons_mk (Below.trod laidOut (by kernel_rfl) (of_decide_eq_true (by kernel_rfl)) k0 bel lt0) (trodAll_cons_mk (Below.trod laidOut (by kernel_rfl) (of_decide_eq_true (by kernel_rfl)) k1 bel lt1) trodAll_mk0)), rfl, bel.frame _, fun h => by cases h⟩

theorem over : Rows.strutJoinsRow.holds Try.pinned (OpenSpec.ofChange Rows.strutJoinsSpec) :=
  OpenClaim.holds_of_wide 3 Try.f3 rfl rfl rfl rfl rfl rfl rfl ⟨rfl, rfl, rfl, rfl, rfl⟩ rfl rfl rfl rfl rfl (by kernel_rfl) Try.func3 (by kernel_rfl)
    (of_decide_eq_true (by kernel_rfl)) (by unfold Func.isWrapper; first | (rw [if_pos (by decide +kernel)]; kernel_rfl) | (rw [if_neg (by decide +kernel)]; exact ⟨rfl, rfl⟩))
    (fun os started H enc _ => lifted os started H enc)

/-- The statement. -/
theorem proved : Rows.StrutJoinsSaid := over
#print axioms proved
end Go.Proofs.Ytmmekemklcogmaa.strutJoins
