/- Proved: for every slice of acts the law AgendaPlays returns true, and its argument reads afterwards as before; no conditions. -/
import Derived.Test.YtacdgfihabjfkaaRows
import Derived.WalkKit
import Derived.Test.YtacdgfihabjfkaaPInv
import Derived.ProofKit
import Derived.OpenShut
import Derived.ShutString
import Derived.ChangeOld
import Derived.Below
namespace Go.Proofs.Ytacdgfihabjfkaa.agendaPlays
open Go.ChangeShapes Go.WideShapes Go.ChangeAt Go.RowKit
set_option linter.unusedVariables false

theorem own : ownKnob Try.prog.godebug = none := by kernel_rfl
theorem laidOut : laidOutB Try.prog = true := by kernel_rfl


def zE : E3 := ⟨0, 0, 0⟩
theorem isLen {hl : List E3} {w : World} {base B : Nat} {T : Nat → Prop} {n : Nat} (h : HS base B T hl w) (hl' : hl.length = n) : Calls Try.prog 13 #[.pointer (some ⟨B, 0, none⟩)] w fun e w' => e = .returned (.int .i64 n) ∧ w' = w := by
  obtain ⟨a4, c4, hc4, _⟩ := h.cell
  rw [hl'] at hc4
  exact agLen_any _ _ _ _ _ hc4
theorem leastOf {wl : List E3} {base n : Nat} {v : Value} {W : World} (h : W.ownsRow base 32 3 v wl.length (flatE wl)) (hn : wl.length = n) (hb : n ≤ 1000000) :
    Calls Try.prog 8 #[v] W fun e w' => (∃ r, e = .returned (.int .i64 r) ∧ LeastR wl n r) ∧ Seen W w' := by
  rw [hn] at h
  obtain ⟨a, c, rfl, he, _⟩ := es_of_own h hn
  exact least_any a n c wl W he hb
/-- Next, Peek on an Agenda that has the entries of a plain list, whose least one stands at a. -/
theorem nextOf {w W : World} {B : Nat} {T : Nat → Prop} {hl wl : List E3} {v : Value} {a m : Nat} (h : PI w B T hl wl v W) (hm : wl.length = m + 1) (hb : m + 1 ≤ 1000000) (ha : LeastAt wl wl.length a) :
    Calls Try.prog 10 #[.pointer (some ⟨B, 0, none⟩)] W fun e w' => e = .returned (.tuple #[.agg #[.int .i64 (eat wl a).k, .int .i64 (eat wl a).t, .int .i64 (eat wl a).n], .bool true]) ∧ ∃ l', Moves T T W w' ∧ HS w.heap.size B T l' w' ∧ HeapP l' l'.length ∧ hl.Perm (eat hl 0 :: l') := by
  rw [← h.least ha]
  exact next_some w.heap.size B T hl m W h.1 (h.len.trans hm) hb h.2.1
theorem peekOf {w W : World} {B : Nat} {T : Nat → Prop} {hl wl : List E3} {v : Value} {a m : Nat} (h : PI w B T hl wl v W) (hm : wl.length = m + 1) (hb : m + 1 ≤ 1000000) (ha : LeastAt wl wl.length a) :
    Calls Try.prog 12 #[.pointer (some ⟨B, 0, none⟩)] W fun e w' => e = .returned (.tuple #[.agg #[.int .i64 (eat wl a).k, .int .i64 (eat wl a).t, .int .i64 (eat wl a).n], .bool true]) ∧ Seen W w' := by
  rw [← h.least ha]
  obtain ⟨x, c, hc, he⟩ := h.1.cell
  rw [h.len.trans hm] at hc he
  exact peek_some B x m c hl W hc he (by omega)
theorem noneOf {w W : World} {B : Nat} {T : Nat → Prop} {hl wl : List E3} {v : Value} (h : PI w B T hl wl v W) (hm : wl.length = 0) :
    (Calls Try.prog 10 #[.pointer (some ⟨B, 0, none⟩)] W fun e w' => e = .returned (.tuple #[.agg #[.int .i64 0, .int .i64 0, .int .i64 0], .bool false]) ∧ Seen W w') ∧
    (Calls Try.prog 12 #[.pointer (some ⟨B, 0, none⟩)] W fun e w' => e = .returned (.tuple #[.agg #[.int .i64 0, .int .i64 0, .int .i64 0], .bool false]) ∧ Seen W w') := by
  obtain ⟨x, c, hc, _⟩ := h.1.cell
  rw [h.len.trans hm] at hc
  exact ⟨next_none B x c W hc, peek_none B x c W hc⟩
/-- A box that was laid last is as it was behind a step that turns blocks of T alone. -/
theorem want_kept {w1 w4 : World} {T T' : Nat → Prop} {x : E3} (mv : Moves T T' (w1.alloc (.cells #[.int .i64 x.k, .int .i64 x.t, .int .i64 x.n] 31)) w4) (ht : ¬ T w1.heap.size) : At3 w4 w1.heap.size 0 x := by
  have hx : w4.heap[w1.heap.size]? = some (.cells #[.int .i64 x.k, .int .i64 x.t, .int .i64 x.n] 31) := (mv.block _ (by simp) ht).trans (World.alloc_heap_new w1 _)
  unfold At3
  rw [Go.Joins.cell_of_block hx, Go.Joins.cell_of_block hx, Go.Joins.cell_of_block hx]
  exact ⟨rfl, rfl, rfl⟩
set_option maxRecDepth 100000 in
set_option maxHeartbeats 8000000 in
theorem walk (ad : Option Addr) (n c : Nat) (acts : List A4) (w : World) (h : AS w ad n acts) :
    Calls Try.prog 3 #[.slice ad n c] w fun e w' => e = .returned (.bool true) ∧ Below w.heap.size w w' := by
  obtain ⟨i0, hi, hz0, hz1, hz2⟩ := info_parts info32
  have HR := Lib.hid h
  clear h
  by_cases hn : 200 < n
  · have hn' : (200 : Int) < (n : Int) := by omega
    go_enter Try.func3, Try.ntmps3
    go_wp2_with fail
    refine (awake_any _).mono ?_
    rintro e wA ⟨rfl, hA⟩
    go_wp2_with fail
    refine (awake_any _).mono ?_
    rintro e wB ⟨rfl, hB⟩
    go_wp2_with fail
    go_ret
    exact ⟨rfl, Seen.next hA hB⟩
  · have hn' : ¬ (200 : Int) < (n : Int) := by omega
    go_enter Try.func3, Try.ntmps3
    go_wp2_with fail
    refine (awake_any _).mono ?_
    rintro e wA ⟨rfl, hA⟩
    have sA : Seen w wA := hA
    clear hA
    go_wp2_with fail
    go_loopw [4, 22] (fun v i wr => ∃ (k : Nat) (T : Nat → Prop) (hl wl : List E3), k ≤ n ∧ i = .int .i64 k ∧ wl.length ≤ k ∧ PI w wA.heap.size T hl wl v wr) (fun _ i _ => n - (intOf i).toNat)
    case atStart => exact ⟨0, _, [], [], Nat.zero_le _, rfl, Nat.le_refl _, PI.start w wA sA⟩
    case round =>
      obtain ⟨k, T, hl, wl, hk, rfl, hwk, hPI⟩ := hrel
      have HP := Lib.hid hPI
      clear hPI
      by_cases hlt : k < n
      · obtain ⟨b, off, rfl, hat⟩ := HR.out.2 (by omega)
        have hkk : (k : Int) < (n : Int) := by omega
        have HAT := Lib.hid (hat k hlt)
        clear hat
        obtain ⟨m, hm⟩ : ∃ m, wl.length = m := ⟨_, rfl⟩
        have hrow := HP.out.2.2.2.1
        rw [hm] at hrow
        obtain ⟨av, cv, rfl, hev, hcv⟩ := es_of_own hrow hm
        have HEV := Lib.hid hev
        have HM := Lib.hid hm
        have hm200 : m ≤ 200 := by omega
        have hmk : m ≤ k := by omega
        clear hrow hev
        go_wp2_with fail
        refine (leastOf (v := .slice av m cv) HP.out.2.2.2.1 hm (by omega)).mono ?_
        rintro e w1 ⟨⟨r, rfl, hr⟩, s1⟩
        have HP1 := Lib.hid (HP.out.seen s1)
        have S1 : Hid (∀ o, Seen w (w1.alloc o)) := fun o => HP1.out.2.2.2.2.2.1.alloc o
        clear hm
        obtain ⟨kd, hkd⟩ : ∃ kd, (aat acts k).kd = kd := ⟨_, rfl⟩
        obtain ⟨x, hx⟩ : ∃ x, (aat acts k).e = x := ⟨_, rfl⟩
        have hA := HAT.out
        unfold AtA At3 at hA
        rw [hkd, hx] at hA
        have c0 : ∀ o, (w1.alloc o).cell? ⟨b, off + k * 4, none⟩ = some (.int .u8 kd) := fun o => (S1.out o).cell hA.1
        have c1 : ∀ o, (w1.alloc o).cell? ⟨b, off + k * 4 + 1, none⟩ = some (.int .i64 x.k) := fun o => (S1.out o).cell hA.2.1
        have c2 : ∀ o, (w1.alloc o).cell? ⟨b, off + k * 4 + 2, none⟩ = some (.int .i64 x.t) := fun o => (S1.out o).cell hA.2.2.1
        have c3 : ∀ o, (w1.alloc o).cell? ⟨b, off + k * 4 + 3, none⟩ = some (.int .i64 x.n) := fun o => (S1.out o).cell hA.2.2.2
        have HA := Lib.hid hA
        have hq := run_neq31
        have hs3 := eq3_same
        clear hA hkd hx
        rcases hr with ⟨rfl, rfl⟩ | ⟨a, rfl, ha⟩
        · by_cases k0 : kd = 0
          · subst k0
            go_wp2_with (first
              | (go_at_call 9; refine (add_any w.heap.size wA.heap.size T hl x _ (HP1.out.seen ((Seen.refl w1).alloc _)).1 (HP1.out.seen ((Seen.refl w1).alloc _)).2.2.2.2.2.1.size (by rw [HP1.out.len, HM.out]; omega) HP1.out.2.1).mono ?_
                 rintro e w4 ⟨rfl, T', hl', mv, hs4, hp4, hm4⟩
                 obtain ⟨row4, hd4, s4⟩ := (HP1.out.seen ((Seen.refl w1).alloc _)).moved mv
                 have d1 := s4.cell HA.out.2.1
                 have d2 := s4.cell HA.out.2.2.1
                 have d3 := s4.cell HA.out.2.2.2
                 have R4 := Lib.hid row4
                 have S4 := Lib.hid s4
                 have M4 := Lib.hid (And.intro mv (And.intro hs4 (And.intro hp4 hm4)))
                 clear mv hs4 hp4 hm4 row4 hd4 s4 c0 c1 c2 c3)
              | (at_builtin; refine wpList_append_rows _ rfl (.tmp 60) (.tmp 66) 28 rfl 32 i0 (.agg #[.int .i64 0, .int .i64 0, .int .i64 0]) 3 24 Try.underlying28 hi hz0 hz1 hz2 rfl (by decide) w.heap.size 0 _ _ _ rfl (R4.out.alloc _) (.slice (some ⟨w4.heap.size, 0, none⟩) 1 1) 1 (flatE [x]) rfl (new_row3 w4 32 x) (flatE_one _) (by rw [HM.out]; unfold maxLen; omega) (by rw [HM.out]; omega) (S4.out.alloc _).size ?_
                 intro v5 w5 hown5 hgrow5 hat5
                 have hp5 := PI.add (HP1.out.seen ((Seen.refl w1).alloc _)) M4.out.1 M4.out.2.1 M4.out.2.2.1 M4.out.2.2.2 hown5 hgrow5 hat5
                 rw [HM.out] at hown5
                 obtain ⟨g5, cap5, rfl⟩ := ownsRow_succ hown5
                 have HP5 := Lib.hid hp5
                 clear hp5 hown5 hgrow5 hat5)
              | (go_at_call 13; refine (isLen HP5.out.1 (n := 0 + 1) (by rw [HP5.out.len, List.length_append, HM.out]; rfl)).mono ?_
                 rintro e w6 ⟨rfl, rfl⟩))
            go_roundw
            case rel => exact ⟨k + 1, T', hl', wl ++ [x], by omega, by go_num, by simp only [List.length_append, List.length_cons, List.length_nil, HM.out]; omega, HP5.out⟩
            case measure => simp [intOf]; omega
          · have hb0 : (kd == 0) = false := beq_eq_false_iff_ne.2 k0
            by_cases k1 : kd = 1
            · subst k1
              go_wp2_with (first
                | (go_at_call 10; refine ((noneOf (HP1.out.seen ((Seen.refl w1).alloc _)) HM.out).1).mono ?_
                   rintro e w4 ⟨rfl, s4⟩
                   have y0 : ∀ o, (w4.alloc o).cell? ⟨w1.heap.size, 0, none⟩ = some (.int .i64 0) := fun o => (s4.alloc o).cell (by simp)
                   have y1 : ∀ o, (w4.alloc o).cell? ⟨w1.heap.size, 1, none⟩ = some (.int .i64 0) := fun o => (s4.alloc o).cell (by simp)
                   have y2 : ∀ o, (w4.alloc o).cell? ⟨w1.heap.size, 2, none⟩ = some (.int .i64 0) := fun o => (s4.alloc o).cell (by simp)
                   have HP4 := Lib.hid ((HP1.out.seen ((Seen.refl w1).alloc _)).seen s4)
                   clear s4 c0 c1 c2 c3)
                | (go_at_call 13; refine (isLen (HP4.out.seen ((Seen.refl w4).alloc _)).1 (n := 0) (by rw [HP4.out.len, HM.out])).mono ?_
                   rintro e w6 ⟨rfl, rfl⟩))
              go_roundw
              case rel => exact ⟨k + 1, T, hl, wl, by omega, by go_num, by omega, HP4.out.seen ((Seen.refl w4).alloc _)⟩
              case measure => simp [intOf]; omega
            · have hb1 : (kd == 1) = false := beq_eq_false_iff_ne.2 k1
              go_wp2_with (first
                | (go_at_call 12; refine ((noneOf (HP1.out.seen ((Seen.refl w1).alloc _)) HM.out).2).mono ?_
                   rintro e w4 ⟨rfl, s4⟩
                   have y0 : ∀ o, (w4.alloc o).cell? ⟨w1.heap.size, 0, none⟩ = some (.int .i64 0) := fun o => (s4.alloc o).cell (by simp)
                   have y1 : ∀ o, (w4.alloc o).cell? ⟨w1.heap.size, 1, none⟩ = some (.int .i64 0) := fun o => (s4.alloc o).cell (by simp)
                   have y2 : ∀ o, (w4.alloc o).cell? ⟨w1.heap.size, 2, none⟩ = some (.int .i64 0) := fun o => (s4.alloc o).cell (by simp)
                   have HP4 := Lib.hid ((HP1.out.seen ((Seen.refl w1).alloc _)).seen s4)
                   clear s4 c0 c1 c2 c3)
                | (go_at_call 13; refine (isLen (HP4.out.seen ((Seen.refl w4).alloc _)).1 (n := 0) (by rw [HP4.out.len, HM.out])).mono ?_
                   rintro e w6 ⟨rfl, rfl⟩))
              go_roundw
              case rel => exact ⟨k + 1, T, hl, wl, by omega, by go_num, by omega, HP4.out.seen ((Seen.refl w4).alloc _)⟩
              case measure => simp [intOf]; omega
        · have hpos : 0 < m := by have := ha.1; omega
          obtain ⟨m', rfl⟩ : ∃ m', m = m' + 1 := ⟨m - 1, by omega⟩
          obtain ⟨bv, ov, rfl, hcells⟩ := HEV.out.2 hpos
          have hla := hcells a ha.1
          have z0 : ∀ o, (w1.alloc o).cell? ⟨bv, ov + a * 3, none⟩ = some (.int .i64 (eat wl a).k) := fun o => (s1.alloc o).cell hla.1
          have z1 : ∀ o, (w1.alloc o).cell? ⟨bv, ov + a * 3 + 1, none⟩ = some (.int .i64 (eat wl a).t) := fun o => (s1.alloc o).cell hla.2.1
          have z2 : ∀ o, (w1.alloc o).cell? ⟨bv, ov + a * 3 + 2, none⟩ = some (.int .i64 (eat wl a).n) := fun o => (s1.alloc o).cell hla.2.2
          have haa : (a : Int) < ((m' + 1 : Nat) : Int) := by have := ha.1; omega
          have ham : a < m' + 1 := ha.1
          have ha0 : decide ((0 : Int) ≤ (a : Int)) = true := by rw [decide_eq_true_eq]; omega
          have HLA : Hid (LeastAt wl wl.length a) := by unfold Hid; rw [HM.out]; exact ha
          clear ha hcells hla
          by_cases k0 : kd = 0
          · subst k0
            go_wp2_with (first
              | (go_at_call 9; refine (add_any w.heap.size wA.heap.size T hl x _ (HP1.out.seen ((Seen.refl w1).alloc _)).1 (HP1.out.seen ((Seen.refl w1).alloc _)).2.2.2.2.2.1.size (by rw [HP1.out.len, HM.out]; omega) HP1.out.2.1).mono ?_
                 rintro e w4 ⟨rfl, T', hl', mv, hs4, hp4, hm4⟩
                 obtain ⟨row4, hd4, s4⟩ := (HP1.out.seen ((Seen.refl w1).alloc _)).moved mv
                 have d1 := s4.cell HA.out.2.1
                 have d2 := s4.cell HA.out.2.2.1
                 have d3 := s4.cell HA.out.2.2.2
                 have R4 := Lib.hid row4
                 have S4 := Lib.hid s4
                 have M4 := Lib.hid (And.intro mv (And.intro hs4 (And.intro hp4 hm4)))
                 clear mv hs4 hp4 hm4 row4 hd4 s4 c0 c1 c2 c3)
              | (at_builtin; refine wpList_append_rows _ rfl (.tmp 60) (.tmp 66) 28 rfl 32 i0 (.agg #[.int .i64 0, .int .i64 0, .int .i64 0]) 3 24 Try.underlying28 hi hz0 hz1 hz2 rfl (by decide) w.heap.size 0 _ _ _ rfl (R4.out.alloc _) (.slice (some ⟨w4.heap.size, 0, none⟩) 1 1) 1 (flatE [x]) rfl (new_row3 w4 32 x) (flatE_one _) (by rw [HM.out]; unfold maxLen; omega) (by rw [HM.out]; omega) (S4.out.alloc _).size ?_
                 intro v5 w5 hown5 hgrow5 hat5
                 have hp5 := PI.add (HP1.out.seen ((Seen.refl w1).alloc _)) M4.out.1 M4.out.2.1 M4.out.2.2.1 M4.out.2.2.2 hown5 hgrow5 hat5
                 rw [HM.out] at hown5
                 obtain ⟨g5, cap5, rfl⟩ := ownsRow_succ hown5
                 have HP5 := Lib.hid hp5
                 clear hp5 hown5 hgrow5 hat5)
              | (go_at_call 13; refine (isLen HP5.out.1 (n := (m' + 1) + 1) (by rw [HP5.out.len, List.length_append, HM.out]; rfl)).mono ?_
                 rintro e w6 ⟨rfl, rfl⟩))
            go_roundw
            case rel => exact ⟨k + 1, T', hl', wl ++ [x], by omega, by go_num, by simp only [List.length_append, List.length_cons, List.length_nil, HM.out]; omega, HP5.out⟩
            case measure => simp [intOf]; omega
          · have hb0 : (kd == 0) = false := beq_eq_false_iff_ne.2 k0
            by_cases k1 : kd = 1
            · subst k1
              go_wp2_with (first
                | (go_at_call 10; refine (nextOf (HP1.out.seen ((Seen.refl w1).alloc _)) HM.out (by omega) HLA.out).mono ?_
                   rintro e w4 ⟨rfl, hl', mv, hs4, hp4, hm4⟩
                   have hk4 := want_kept mv (fun ht => Nat.lt_irrefl _ (HP1.out.1.low _ ht))
                   have y0 : ∀ o, (w4.alloc o).cell? ⟨w1.heap.size, 0, none⟩ = some (.int .i64 (eat wl a).k) := fun o => ((Seen.refl w4).alloc o).cell hk4.1
                   have y1 : ∀ o, (w4.alloc o).cell? ⟨w1.heap.size, 1, none⟩ = some (.int .i64 (eat wl a).t) := fun o => ((Seen.refl w4).alloc o).cell hk4.2.1
                   have y2 : ∀ o, (w4.alloc o).cell? ⟨w1.heap.size, 2, none⟩ = some (.int .i64 (eat wl a).n) := fun o => ((Seen.refl w4).alloc o).cell hk4.2.2
                   obtain ⟨row4, hd4, s4⟩ := (HP1.out.seen ((Seen.refl w1).alloc _)).moved mv
                   rw [HM.out] at row4
                   obtain ⟨a4, c4, e4, he4, hc4⟩ := es_of_own row4 HM.out
                   cases e4
                   have E4 := Lib.hid he4
                   have M4 := Lib.hid (And.intro mv (And.intro hs4 (And.intro hp4 hm4)))
                   clear mv hs4 hp4 hm4 row4 hd4 s4 c0 c1 c2 c3 z0 z1 z2 hk4 he4)
                | (go_at_call 11; refine (without_any _ (m' + 1) cv wl a _ (E4.out.seen ((Seen.refl w4).alloc _)) ham hc4 (by omega)).mono ?_
                   rintro e w6 ⟨⟨v6, rfl, hr6⟩, b6⟩
                   have hp6 := PI.next (HP1.out.seen ((Seen.refl w1).alloc _)) HLA.out M4.out.1 M4.out.2.1 M4.out.2.2.1 M4.out.2.2.2 ((Seen.refl w4).alloc _) b6 (by rw [HM.out]; exact hr6)
                   have hl6 : (woL wl a).length = m' := by rw [woL_length HLA.out.1, HM.out]; rfl
                   obtain ⟨a6, c6, rfl, _, _⟩ := es_of_own (n := m') hr6 hl6
                   have HP6 := Lib.hid hp6
                   have HL6 := Lib.hid hl6
                   clear hp6 hr6 b6 hl6)
                | (go_at_call 13; refine (isLen HP6.out.1 (n := m') (by rw [HP6.out.len, HL6.out])).mono ?_
                   rintro e w7 ⟨rfl, rfl⟩))
              go_roundw
              case rel => exact ⟨k + 1, T, hl', woL wl a, by omega, by go_num, by rw [HL6.out]; omega, HP6.out⟩
              case measure => simp [intOf]; omega
            · have hb1 : (kd == 1) = false := beq_eq_false_iff_ne.2 k1
              go_wp2_with (first
                | (go_at_call 12; refine (peekOf (HP1.out.seen ((Seen.refl w1).alloc _)) HM.out (by omega) HLA.out).mono ?_
                   rintro e w4 ⟨rfl, s4⟩
                   have y0 : ∀ o, (w4.alloc o).cell? ⟨w1.heap.size, 0, none⟩ = some (.int .i64 (eat wl a).k) := fun o => (s4.alloc o).cell (by simp)
                   have y1 : ∀ o, (w4.alloc o).cell? ⟨w1.heap.size, 1, none⟩ = some (.int .i64 (eat wl a).t) := fun o => (s4.alloc o).cell (by simp)
                   have y2 : ∀ o, (w4.alloc o).cell? ⟨w1.heap.size, 2, none⟩ = some (.int .i64 (eat wl a).n) := fun o => (s4.alloc o).cell (by simp)
                   have HP4 := Lib.hid ((HP1.out.seen ((Seen.refl w1).alloc _)).seen s4)
                   clear s4 c0 c1 c2 c3 z0 z1 z2)
                | (go_at_call 13; refine (isLen (HP4.out.seen ((Seen.refl w4).alloc _)).1 (n := m' + 1) (by rw [HP4.out.len, HM.out])).mono ?_
                   rintro e w6 ⟨rfl, rfl⟩))
              go_roundw
              case rel => exact ⟨k + 1, T, hl, wl, by omega, by go_num, by omega, HP4.out.seen ((Seen.refl w4).alloc _)⟩
              case measure => simp [intOf]; omega
      · have hnk : ¬ (k : Int) < (n : Int) := by omega
        go_wp2_with fail
        go_ret
        exact ⟨rfl, HP.out.2.2.2.2.2.1⟩

/-! ### The row's step. -/
set_option maxRecDepth 100000 in
theorem lifted (os : Os) (started : os.Started) (H : Type) (enc : TypeId × Value → H) :
    ReturnsInHanded {} Try.checked os 3 .any (Rows.agendaPlaysSpec.pre6 enc Try.prog Try.f3 Rows.agendaPlaysRow.domain false) (Rows.agendaPlaysSpec.post enc Try.prog Try.f3 false true false false) := by
  refine returnsInHanded_of_change (C := Try.checked) own started (by kernel_rfl) Try.func3
    (ChangeSpec.witness6 (enc := enc) (C := Try.checked) false ⟨#[], #[.slice none 0 0], []⟩ 8 (by kernel_rfl) (by kernel_rfl) (by kernel_rfl) (by kernel_rfl)) ?_
  intro W base args ds gs before hval0 hW hcnd _
  have hval : ∀ (j : Nat) t v, Try.f3.params[j]? = some t → args[j]? = some v → Value.okWide Try.prog W .any base t v := hval0
  have hW' := hW
  obtain ⟨p, q, hA0, hV, rfl, hfz, hnd⟩ := hW
  have hA : DataW.TrodAll enc Try.prog W 0 (fun _ => true) true Try.f3.params.toList args.toList ds p := hA0
  rw [Try.params3] at hA hval
  obtain ⟨v0, vs0, d0, ds0, p0, q0, hargs, rfl, rfl, h0, r0⟩ := trodAll_cons hA
  obtain ⟨rfl, rfl, rfl⟩ := trodAll_nil r0
  obtain rfl : args = #[v0] := by cases args; simp_all
  obtain ⟨rfl, rfl⟩ := trodVars_none hV
  have k0 := h0
  have lt0 : ∀ x ∈ p0, x.block < W.heap.size := by obtain ⟨m, hm⟩ := k0; exact DataW.trod_lt m _ _ _ hm
  obtain ⟨a0, len0, cap0, g0, rfl, o0⟩ := open_acts (hval 0 22 v0 rfl rfl) h0
  clear hA0 hval0
  refine (walk a0 len0 cap0 g0 W o0).mono fun e W' ⟨he, bel⟩ => ?_
  subst he
  exact ⟨_, rfl, _, _, _, [], _, [], hW', trodAll_mk1 (shut_bool Try.underlying4 _), (trodAll_cons_mk (Below.trod laidOut (by kernel_rfl) (of_decide_eq_true (by kernel_rfl)) k0 bel lt0) trodAll_mk0), rfl, bel.frame _, fun h => by cases h⟩

theorem over : Rows.agendaPlaysRow.holds Try.pinned (OpenSpec.ofChange Rows.agendaPlaysSpec) :=
  OpenClaim.holds_of_wide 3 Try.f3 rfl rfl rfl rfl rfl rfl rfl ⟨rfl, rfl, rfl, rfl, rfl⟩ rfl rfl rfl rfl rfl (by kernel_rfl) Try.func3 (by kernel_rfl)
    (of_decide_eq_true (by kernel_rfl)) (by unfold Func.isWrapper; first | (rw [if_pos (by decide +kernel)]; kernel_rfl) | (rw [if_neg (by decide +kernel)]; exact ⟨rfl, rfl⟩))
    (fun os started H enc _ => lifted os started H enc)

/-- The statement. -/
theorem proved : Rows.AgendaPlaysSaid := over
#print axioms proved
end Go.Proofs.Ytacdgfihabjfkaa.agendaPlays
