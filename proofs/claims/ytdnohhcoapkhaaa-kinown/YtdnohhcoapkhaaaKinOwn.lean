/- Proved: for every list of nodes the law KinOwn returns true, and its argument reads afterwards as before; no conditions. -/
import Derived.Test.YtdnohhcoapkhaaaRows
import Derived.WalkKit
import Derived.Test.YtdnohhcoapkhaaaKinAwake
import Derived.Test.YtdnohhcoapkhaaaKinOne
import Derived.Test.YtdnohhcoapkhaaaOpenN
import Derived.ProofKit
import Derived.OpenShut
import Derived.ShutString
import Derived.ChangeOld
import Derived.Below
namespace Go.Proofs.Ytdnohhcoapkhaaa.kinOwn
open Go.ChangeShapes Go.WideShapes Go.ChangeAt Go.RowKit
set_option linter.unusedVariables false

theorem own : ownKnob Try.prog.godebug = none := by kernel_rfl
theorem laidOut : laidOutB Try.prog = true := by kernel_rfl


set_option maxRecDepth 100000 in
theorem src_of_ns {w : World} {a : Option Addr} {n c : Nat} {l : List Nd} (h : NS w a n l) (hc : n ≤ c) (h0 : a = none → c = 0) : SrcC w (.slice a n c) n 49 (flatN l) := by
  have hl : l.length = n := h.1
  cases a with
  | none =>
    obtain rfl : c = 0 := h0 rfl
    obtain rfl : n = 0 := by omega
    have : l = [] := List.eq_nil_of_length_eq_zero hl
    subst this
    exact .inl ⟨rfl, rfl, rfl⟩
  | some ad =>
    refine .inr ⟨ad, c, rfl, by rw [flatN_length, hl], fun j v hj => ?_⟩
    have hjl : j < n * 49 := by
      rcases Nat.lt_or_ge j (n * 49) with h1 | h1
      · exact h1
      · rw [List.getElem?_eq_none (by rw [flatN_length, hl]; exact h1)] at hj; cases hj
    obtain ⟨b, off, e, hcell⟩ := h.2 (by omega)
    cases e
    have e2 : j = j / 49 * 49 + j % 49 := by omega
    rw [add_plain, e2, ← Nat.add_assoc]
    rw [hcell (j / 49) (by omega) (j % 49) (Nat.mod_lt _ (by omega))]
    rw [e2] at hj
    rw [flatN_at l (by omega) (Nat.mod_lt _ (by omega))] at hj
    exact hj
/-- What is known while the law writes: its own list, the Kin, what was there before. -/
structure OI (w wr : World) (g B G H n : Nat) (l : List Nd) : Prop where
  own : ∃ cur : List Value, wr.heap[g]? = some (.cells cur.toArray 42) ∧ n * 49 ≤ cur.length
  kin : KK wr B G H l (endN l)
  seen : Seen w wr
theorem OI.later {w wr w' : World} {g B G H n : Nat} {l : List Nd} (h : OI w wr g B G H n l) (hs : Seen wr w') : OI w w' g B G H n l := by
  obtain ⟨cur, h1, h2⟩ := h.own
  exact ⟨⟨cur, (hs.block g (lt_of_block h1)).trans h1, h2⟩, h.kin.seen hs, h.seen.trans hs⟩
theorem OI.set {w wr : World} {g B G H n : Nat} {l : List Nd} (h : OI w wr g B G H n l) (hg : w.heap.size ≤ g) (hne : B ≠ g ∧ G ≠ g ∧ H ≠ g) (o : Nat) (v : Value) : OI w (wr.setCell ⟨g, o, none⟩ v) g B G H n l := by
  obtain ⟨cur, h1, h2⟩ := h.own
  refine ⟨⟨cur.set o v, Hs.set h1 o v rfl, by rw [List.length_set]; exact h2⟩, h.kin.keeps (Below.heap_setCell wr ⟨g, o, none⟩ v B hne.1) (Below.heap_setCell wr ⟨g, o, none⟩ v G hne.2.1) (Below.heap_setCell wr ⟨g, o, none⟩ v H hne.2.2), h.seen.turns (Turns.set wr g o v) hg⟩
theorem OI.cell {w wr : World} {g B G H n : Nat} {l : List Nd} (h : OI w wr g B G H n l) {o : Nat} (ho : o < n * 49) : (∃ v, wr.cell? ⟨g, o, none⟩ = some v) ∧ wr.frozen? ⟨g, o, none⟩ = false := by
  obtain ⟨cur, h1, h2⟩ := h.own
  have hlt : o < cur.length := by omega
  refine ⟨⟨cur[o], ?_⟩, by simp [World.frozen?, h1]⟩
  rw [Go.Joins.cell_of_block h1, List.getElem?_toArray, List.getElem?_eq_getElem hlt]
/-- The block of a row, while the law writes into it. -/
def BI (wr : World) (g N : Nat) : Prop := ∃ cur : List Value, wr.heap[g]? = some (.cells cur.toArray 3) ∧ N ≤ cur.length
theorem BI.cell {wr : World} {g N : Nat} (h : BI wr g N) {o : Nat} (ho : o < N) : (∃ v, wr.cell? ⟨g, o, none⟩ = some v) ∧ wr.frozen? ⟨g, o, none⟩ = false := by
  obtain ⟨cur, h1, h2⟩ := h
  have hlt : o < cur.length := by omega
  refine ⟨⟨cur[o], ?_⟩, by simp [World.frozen?, h1]⟩
  rw [Go.Joins.cell_of_block h1, List.getElem?_toArray, List.getElem?_eq_getElem hlt]
theorem BI.set {wr : World} {g N : Nat} (h : BI wr g N) (o : Nat) (v : Value) : BI (wr.setCell ⟨g, o, none⟩ v) g N := by
  obtain ⟨cur, h1, h2⟩ := h
  exact ⟨cur.set o v, Hs.set h1 o v rfl, by rw [List.length_set]; exact h2⟩
theorem row_block {w : World} {base : Nat} {v : Value} {L : List Int} (h : RI w base v L) (h0 : 0 < L.length) : ∃ g c, v = .slice (some ⟨g, 0, none⟩) L.length c ∧ base ≤ g ∧ BI w g L.length := by
  rcases h.2 with ⟨_, hn⟩ | ⟨g, cap, cur, rfl, hb, hh, h1, h2, h3, h4⟩
  · omega
  · exact ⟨g, cap, rfl, hb, cur.toList, by simpa using hh, by simp; omega⟩
theorem own_block {w : World} {base n : Nat} {v : Value} {l : List Nd} (h : w.ownsRow base 42 49 v n (flatN l)) (h0 : 0 < n) : ∃ g c, v = .slice (some ⟨g, 0, none⟩) n c ∧ base ≤ g ∧ ∃ cur : List Value, w.heap[g]? = some (.cells cur.toArray 42) ∧ n * 49 ≤ cur.length := by
  rcases h.2 with ⟨_, hn⟩ | ⟨g, cap, cur, rfl, hb, hh, h1, h2, h3, h4⟩
  · omega
  · exact ⟨g, cap, rfl, hb, cur.toList, by simpa using hh, by simp; omega⟩
set_option maxRecDepth 100000 in
set_option maxHeartbeats 8000000 in
theorem walk (a : Option Addr) (n c : Nat) (l : List Nd) (w : World) (o : NS w a n l ∧ (∀ q ∈ l, OkN q) ∧ n ≤ c ∧ (a = none → c = 0)) :
    Calls Try.prog 5 #[.slice a n c] w fun e w' => e = .returned (.bool true) ∧ Below w.heap.size w w' := by
  have HS := Lib.hid o.1
  have HL : Hid (l.length = n) := o.1.1
  have HSRC : Hid (∀ w', Seen w w' → SrcC w' (.slice a n c) n 49 (flatN l)) := fun w' h' => src_of_ns (o.1.seen h') o.2.2.1 o.2.2.2
  clear o
  obtain ⟨i0, hi, hz0, hz1, hz2⟩ := info_parts info51z
  by_cases hbig : (n : Int) > 40
  · clear hi hz0 hz1 hz2
    go_enter Try.func5, Try.ntmps5
    have A0 := Lib.hid (awakeK_any w)
    go_wp2_with (first
      | (go_at_call 7; refine A0.out.mono ?_; clear A0; rintro _ w1 ⟨rfl, hs1⟩; have S1 : Hid (Seen w w1) := hs1; clear hs1)
      | (go_at_call 7; refine (awakeK_any w1).mono ?_; rintro _ w2 ⟨rfl, hs2⟩; have S2 : Hid (Seen w w2) := S1.out.trans hs2
         clear hs2))
    go_ret
    exact ⟨rfl, S2.out⟩
  · have HI := Lib.hid (And.intro hi (And.intro hz0 (And.intro hz1 hz2)))
    clear hi hz0 hz1 hz2
    by_cases hc : checkT l = 0
    · have hf : FormedT l := check_formed hc
      have HC := Lib.hid (And.intro hc hf)
      have h0 : 0 < n := by have := hf.1; have := HL.out; omega
      clear hc hf
      go_enter Try.func5, Try.ntmps5
      have A0 := Lib.hid (awakeK_any w)
      go_wp2_with (first
        | (go_at_call 7; refine A0.out.mono ?_; clear A0; rintro _ w1 ⟨rfl, hs1⟩; have S1 : Hid (Seen w w1) := hs1; clear hs1)
        | (at_builtin; refine wpList_append_src _ rfl (.tmp 18) (.tmp 19) 22 rfl 42 i0 (.agg (ndl zeroN).toArray) 49 384 Try.underlying22 HI.out.1 HI.out.2.1 HI.out.2.2.1 HI.out.2.2.2 rfl (by decide) w1.heap.size (.slice (some ⟨w1.heap.size, 0, none⟩) 0 0) 0 [] rfl (World.ownsRow_made w1 #[] 0 (Nat.le_refl _) (Nat.zero_le _) rfl) (.slice a n c) n (flatN l) rfl (HSRC.out _ (S1.out.alloc _)) (flatN_one _) (by unfold maxLen; omega) (by omega) (by simp) ?_
           intro v2 w2 ho2 hg2 hat2
           have ho2' : w2.ownsRow w1.heap.size 42 49 v2 n (flatN l) := by simpa using ho2
           have S2 : Hid (Seen w w2) := S1.out.trans (Below.grown ((Seen.refl w1).alloc _) hg2 ((Seen.refl w1).alloc _).size (fun j hj => by simp [Value.ownBlock] at hj; omega))
           obtain ⟨a2, c2, e2, hn2, _, _⟩ := ns_of_own ho2' HL.out
           obtain ⟨g, c2', rfl, hg, hob⟩ := own_block ho2' h0
           cases e2
           have N2 := Lib.hid hn2
           have OB := Lib.hid hob
           have GB : Hid (w.heap.size ≤ g) := Nat.le_trans S1.out.size hg
           clear ho2 ho2' hg2 hat2 hn2 hob hg)
        | (go_at_call 8; refine (of_yes _ n c2 l w2 N2.out HC.out.1 HC.out.2 (by omega)).mono ?_
           rintro _ w3 ⟨B, G, H, rfl, ⟨hB, hG, hH⟩, hk3, hs3⟩
           have HO : Hid (OI w w3 g B G H n l) := by
             obtain ⟨cur, h1, h2⟩ := OB.out
             exact ⟨⟨cur, (hs3.block g (lt_of_block h1)).trans h1, h2⟩, hk3, S2.out.trans hs3⟩
           have NE : Hid (B ≠ g ∧ G ≠ g ∧ H ≠ g) := by
             obtain ⟨cur, h1, _⟩ := OB.out
             have := lt_of_block h1
             exact ⟨by omega, by omega, by omega⟩
           clear hB hG hH hk3 hs3 N2 OB))
      have KVO : Hid (∀ wr, OI w wr g B G H n l → KV wr (.pointer (some ⟨B, 0, none⟩)) l) := fun wr h => h.kin.kv HC.out.2 (by have := HL.out; omega)
      go_loopw [32] (fun x wr => ∃ k : Nat, x = .int .i64 k ∧ k ≤ n ∧ OI w wr g B G H n l) (fun x _ => n - (intOf x).toNat)
      case atStart => exact ⟨0, rfl, by omega, HO.out⟩
      case round =>
        obtain ⟨k, rfl, hk, hoi⟩ := hrel
        have O1 := Lib.hid hoi
        clear hoi
        by_cases hlt : k < n
        · have hk' : (k : Int) < (n : Int) := by omega
          obtain ⟨⟨u, cu⟩, fz⟩ := O1.out.cell (o := k * 49 + 48) (by omega)
          have O2 : Hid (OI w (wr.setCell ⟨g, k * 49 + 48, none⟩ (.int .i64 77)) g B G H n l) := O1.out.set GB.out NE.out _ _
          obtain ⟨W, hW⟩ : ∃ W, W = wr.setCell ⟨g, k * 49 + 48, none⟩ (.int .i64 77) := ⟨_, rfl⟩
          rw [← hW] at O2
          have HKC := Lib.hid (kids_kin (.pointer (some ⟨B, 0, none⟩)) l k W (KVO.out W O2.out))
          have hkl : Hid ((kidsV l k).length ≤ 65535) := by have := kidsV_length l k; have := HL.out; unfold Hid; omega
          obtain ⟨L, hL⟩ : ∃ L, kidsV l k = L := ⟨_, rfl⟩
          rw [hL] at HKC hkl
          clear hL
          rcases Nat.eq_zero_or_pos L.length with hz | hz
          · have hLn : L = [] := List.eq_nil_of_length_eq_zero hz
            subst hLn
            clear hz hkl
            go_wp2_with (rw [← hW]; clear hW; go_at_call 15; refine HKC.out.mono ?_; clear HKC; rintro _ w5 ⟨v5, rfl, hr5, hs5⟩; obtain ⟨a5, c5, rfl, _, _⟩ := hr5.slice; have O5 := Lib.hid (O2.out.later hs5); clear hr5 hs5)
            go_loopw [44] (fun x wr => x = .int .i64 0 ∧ wr = w5) (fun _ _ => 0)
            case atStart => exact ⟨rfl, rfl⟩
            case round =>
              obtain ⟨rfl, rfl⟩ := hrel
              go_wp2_with fail
              go_roundw
              case rel => exact ⟨k + 1, by go_num, by omega, O5.out⟩
              case measure => simp [intOf]; omega
          · obtain ⟨M, hM⟩ : ∃ M, L.length = M := ⟨_, rfl⟩
            go_wp2_with (rw [← hW]; clear hW; go_at_call 15; refine HKC.out.mono ?_; clear HKC; rintro _ w5 ⟨v5, rfl, hr5, hs5⟩; obtain ⟨g5, c5, rfl, hg5, hb5⟩ := row_block hr5 hz; rw [hM] at hb5 ⊢; have B5 := Lib.hid hb5; have S5 := Lib.hid hs5; have G5 := Lib.hid hg5; clear hr5 hs5 hb5 hg5)
            rw [hM] at hz hkl
            clear hM
            go_loopw [44] (fun x wr => ∃ j : Nat, x = .int .i64 j ∧ j ≤ M ∧ BI wr g5 M ∧ Seen W wr) (fun x _ => M - (intOf x).toNat)
            case atStart => exact ⟨0, rfl, by omega, B5.out, S5.out⟩
            case round =>
              obtain ⟨j, rfl, hj, hbi, hs⟩ := hrel
              have B6 := Lib.hid hbi
              have S6 := Lib.hid hs
              have hM6 := hkl.out
              clear hbi hs
              by_cases hjl : j < M
              · have hj' : (j : Int) < (M : Int) := by omega
                obtain ⟨⟨u6, cu6⟩, fz6⟩ := B6.out.cell hjl
                go_wp2_with fail
                go_roundw
                case rel => exact ⟨j + 1, by go_num, by omega, B6.out.set _ _, S6.out.turns (Turns.set _ _ _ _) G5.out⟩
                case measure => simp [intOf]; omega
              · have hj' : ¬ (j : Int) < (M : Int) := by omega
                go_wp2_with fail
                go_roundw
                case rel => exact ⟨k + 1, by go_num, by omega, O2.out.later S6.out⟩
                case measure => simp [intOf]; omega
        · have hk' : ¬ (k : Int) < (n : Int) := by omega
          go_wp2_with fail
          go_loopw [54] (fun x wr2 => ∃ j : Nat, x = .int .i64 j ∧ j ≤ n ∧ Seen wr wr2) (fun x _ => n - (intOf x).toNat)
          case atStart => exact ⟨0, rfl, by omega, Seen.refl _⟩
          case round =>
            obtain ⟨j, rfl, hj, hs⟩ := hrel
            have S7 := Lib.hid hs
            clear hs
            by_cases hjl : j < n
            · have hj' : (j : Int) < (n : Int) := by omega
              have H1 := Lib.hid (one_any (.pointer (some ⟨B, 0, none⟩)) a n c l j _ ((KVO.out _ O1.out).seen S7.out) (HS.out.seen (O1.out.seen.trans S7.out)) HC.out.2)
              go_wp2_with (go_at_call 10; refine H1.out.mono ?_; clear H1; rintro _ w8 ⟨rfl, hs8⟩; have S8 := Lib.hid (S7.out.trans hs8); clear hs8)
              go_roundw
              case rel => exact ⟨j + 1, by go_num, by omega, S8.out⟩
              case measure => simp [intOf]; omega
            · have hj' : ¬ (j : Int) < (n : Int) := by omega
              go_wp2_with fail
              go_ret
              exact ⟨rfl, O1.out.seen.trans S7.out⟩
    · obtain ⟨C, hC⟩ : ∃ C, checkT l = C := ⟨_, rfl⟩
      have HCC := Lib.hid hC
      rw [hC] at hc
      have HNE := Lib.hid hc
      have hb : (C == 0) = false := by simpa using hc
      clear hC hc
      go_enter Try.func5, Try.ntmps5
      have A0 := Lib.hid (awakeK_any w)
      go_wp2_with (first
        | (go_at_call 7; refine A0.out.mono ?_; clear A0; rintro _ w1 ⟨rfl, hs1⟩; have S1 : Hid (Seen w w1) := hs1; clear hs1)
        | (at_builtin; refine wpList_append_src _ rfl (.tmp 18) (.tmp 19) 22 rfl 42 i0 (.agg (ndl zeroN).toArray) 49 384 Try.underlying22 HI.out.1 HI.out.2.1 HI.out.2.2.1 HI.out.2.2.2 rfl (by decide) w1.heap.size (.slice (some ⟨w1.heap.size, 0, none⟩) 0 0) 0 [] rfl (World.ownsRow_made w1 #[] 0 (Nat.le_refl _) (Nat.zero_le _) rfl) (.slice a n c) n (flatN l) rfl (HSRC.out _ (S1.out.alloc _)) (flatN_one _) (by unfold maxLen; omega) (by omega) (by simp) ?_
           intro v2 w2 ho2 hg2 hat2
           have ho2' : w2.ownsRow w1.heap.size 42 49 v2 n (flatN l) := by simpa using ho2
           have S2 : Hid (Seen w w2) := S1.out.trans (Below.grown ((Seen.refl w1).alloc _) hg2 ((Seen.refl w1).alloc _).size (fun j hj => by simp [Value.ownBlock] at hj; omega))
           obtain ⟨a2, c2, rfl, hn2, _, _⟩ := ns_of_own ho2' HL.out
           have N2 := Lib.hid hn2
           clear ho2 ho2' hg2 hat2 hn2)
        | (go_at_call 8; refine (of_no a2 n c2 l w2 N2.out (by omega) (by rw [HCC.out]; exact HNE.out)).mono ?_
           rw [HCC.out]
           rintro _ w3 ⟨rfl, hs3⟩
           have S3 : Hid (Seen w w3) := S2.out.trans hs3
           clear hs3 N2))
      go_ret
      exact ⟨rfl, S3.out⟩

/-! ### The row's step. -/
set_option maxRecDepth 100000 in
theorem lifted (os : Os) (started : os.Started) (H : Type) (enc : TypeId × Value → H) :
    ReturnsInHanded {} Try.checked os 5 .any (Rows.kinOwnSpec.pre6 enc Try.prog Try.f5 Rows.kinOwnRow.domain false) (Rows.kinOwnSpec.post enc Try.prog Try.f5 false true false false) := by
  refine returnsInHanded_of_change (C := Try.checked) own started (by kernel_rfl) Try.func5
    (ChangeSpec.witness6 (enc := enc) (C := Try.checked) false ⟨#[], #[.slice none 0 0], []⟩ 8 (by kernel_rfl) (by kernel_rfl) (by kernel_rfl) (by kernel_rfl)) ?_
  intro W base args ds gs before hval0 hW hcnd _
  have hval : ∀ (j : Nat) t v, Try.f5.params[j]? = some t → args[j]? = some v → Value.okWide Try.prog W .any base t v := hval0
  have hW' := hW
  obtain ⟨p, q, hA0, hV, rfl, hfz, hnd⟩ := hW
  have hA : DataW.TrodAll enc Try.prog W 0 (fun _ => true) true Try.f5.params.toList args.toList ds p := hA0
  rw [Try.params5] at hA hval
  obtain ⟨v0, vs0, d0, ds0, p0, q0, hargs, rfl, rfl, h0, r0⟩ := trodAll_cons hA
  obtain ⟨rfl, rfl, rfl⟩ := trodAll_nil r0
  obtain rfl : args = #[v0] := by cases args; simp_all
  obtain ⟨rfl, rfl⟩ := trodVars_none hV
  have k0 := h0
  have lt0 : ∀ x ∈ p0, x.block < W.heap.size := by obtain ⟨m, hm⟩ := k0; exact DataW.trod_lt m _ _ _ hm
  obtain ⟨a0, len0, cap0, g0, rfl, o0⟩ := open_nodes (hval 0 22 v0 rfl rfl) h0
  clear hA0 hval0
  refine (walk a0 len0 cap0 g0 W o0).mono fun e W' ⟨he, bel⟩ => ?_
  subst he
  exact ⟨_, rfl, _, _, _, [], _, [], hW', trodAll_mk1 (shut_bool Try.underlying4 _), (trodAll_cons_mk (Below.trod laidOut (by kernel_rfl) (of_decide_eq_true (by kernel_rfl)) k0 bel lt0) trodAll_mk0), rfl, bel.frame _, fun h => by cases h⟩

theorem over : Rows.kinOwnRow.holds Try.pinned (OpenSpec.ofChange Rows.kinOwnSpec) :=
  OpenClaim.holds_of_wide 5 Try.f5 rfl rfl rfl rfl rfl rfl rfl ⟨rfl, rfl, rfl, rfl, rfl⟩ rfl rfl rfl rfl rfl (by kernel_rfl) Try.func5 (by kernel_rfl)
    (of_decide_eq_true (by kernel_rfl)) (by unfold Func.isWrapper; first | (rw [if_pos (by decide +kernel)]; kernel_rfl) | (rw [if_neg (by decide +kernel)]; exact ⟨rfl, rfl⟩))
    (fun os started H enc _ => lifted os started H enc)

/-- The statement. -/
theorem proved : Rows.KinOwnSaid := over
#print axioms proved
end Go.Proofs.Ytdnohhcoapkhaaa.kinOwn
