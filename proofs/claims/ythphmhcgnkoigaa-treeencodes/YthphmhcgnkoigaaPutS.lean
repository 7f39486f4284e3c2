/- Contract of Put at a valid style; no conditions beyond those written in each theorem. -/
import Derived.Test.YthphmhcgnkoigaaPut
namespace Go.Proofs.Ythphmhcgnkoigaa
open Go.ChangeShapes Go.WideShapes Go.ChangeAt Go.RowKit
set_option maxRecDepth 100000
set_option maxRecDepth 100000 in
set_option maxHeartbeats 16000000 in
theorem put_yes (base B : Nat) (T : Nat → Prop) (l : List Int) (s : Sty) (hf : Full s) (hp : FormedP s) (w : World) (h : OS base B T l w) (hb : base ≤ w.heap.size) (hl : l.length + 300 ≤ 140737488355328) :
    Calls Try.prog 30 #[.pointer (some ⟨B, 0, none⟩), sv s] w fun e w' => e = .returned (.tuple #[]) ∧ ∃ T', Moves T T' w w' ∧ OS base B T' (l ++ encS s) w' := by
  obtain ⟨W, hW⟩ : ∃ W, W = w.alloc (.cells (stl s).toArray 47) := ⟨_, rfl⟩
  have H0 : Hid (Hs W w.heap.size s) := by rw [hW]; exact hs_new w s
  have S0 : Hid (Seen w W) := by rw [hW]; exact (Seen.refl w).alloc _
  have HF := Lib.hid hf
  have HP := Lib.hid hp
  have HN : Hid (formedB s = true ∧ True) := ⟨decide_eq_true hp, trivial⟩
  have HO := Lib.hid h
  have nX : Hid (¬ T w.heap.size) := fun ht => by have := h.low _ ht; omega
  have HW := Lib.hid hW
  clear hf hp h hW
  have fl : Hid (0 = 0) := rfl
  have fl2 : Hid (0 = 0) := rfl
  have fl3 : Hid (0 = 0) := rfl
  have hbe : Hid (∀ v : Int, be (v % 18446744073709551616) 1 = [v % 256]) := fun v => by simp only [be, List.nil_append, List.cons.injEq, and_true]; omega
  unfold sv
  go_enter Try.func30, Try.ntmps30
  go_wp2_with (first
    | (clear fl; rw [← HW.out]; clear HW; refine wpList_loadS rfl (.tmp 3) rfl w.heap.size s rfl HF.out H0.out ?_)
    | (go_at_call 24; refine (formed_any s HF.out _).mono ?_; rintro _ w1 ⟨rfl, hs1⟩; rw [HN.out.1]; have S1 := Lib.hid hs1; clear hs1)
    | (have gg := S1.out; clear gg; clear fl2; refine wpList_loadS rfl (.tmp 3) rfl w.heap.size s rfl HF.out (H0.out.seen S1.out) ?_)
    | (go_at_call 47; refine (firstByte_any s HF.out ⟨HP.out.2.2.2.2.1, HP.out.2.2.2.2.2.1⟩ w1).mono ?_; rintro _ w2 ⟨rfl, hs2⟩; have S2 : Hid (Seen W w2) := S1.out.trans hs2
       clear hs2)
    | (go_at_call 46; refine (oByte_any base B T l _ w2 (HO.out.seen (S0.out.trans S2.out)) (Nat.le_trans hb (S0.out.trans S2.out).size) (by omega)).mono ?_; rintro _ w3 ⟨rfl, T1, m3, o3⟩; rw [hbe.out] at o3
       have M3 : Hid (Moves T T1 w w3) := (Moves.of_below (S0.out.trans S2.out)).trans m3
       have O3 : Hid (OS base B T1 (l ++ [first s % 256]) w3) := o3
       have X3 : Hid (Hs w3 w.heap.size s) := (H0.out.seen S2.out).keeps (m3.block _ (H0.out.seen S2.out).lt nX.out)
       have n3 : Hid (¬ T1 w.heap.size) := fun ht => (m3.own _ ht).elim nX.out (fun h2 => by have := (H0.out.seen S2.out).lt; omega)
       clear m3 o3)
    | (have gg := O3.out; clear gg; clear fl3; refine wpList_loadS rfl (.tmp 3) rfl w.heap.size s rfl HF.out X3.out ?_)
    | (go_at_call 40; refine (lengths_any s HF.out w3).mono ?_; rintro _ w4 ⟨⟨v4, rfl, ho4⟩, hs4⟩; rw [HF.out.lens] at ho4
       obtain ⟨g, c, rfl, hg, hcell⟩ := rowL_at ho4 HF.out.lens (by omega)
       have HC : Hid (∀ i, i < 18 → w4.cell? ⟨g, i * 2, none⟩ = some (.int .i64 (lat s.lens i).k) ∧ w4.cell? ⟨g, i * 2 + 1, none⟩ = some (.int .i64 (lat s.lens i).n)) := fun i hi => hcell i hi w4 (Seen.refl w4)
       have P4 : Hid (PI w w4 base B T T1 s g (l ++ outL s 0) w4) := ⟨M3.out.trans (Moves.of_below hs4), by simpa [outL] using O3.out.seen hs4, X3.out.seen hs4, n3.out, fun ht => by have := O3.out.low _ ht; omega, (ho4.lt g rfl).2, rfl⟩
       clear ho4 hs4 hcell hg))
  go_loopw [18] (fun i wr => ∃ k : Nat, k ≤ 18 ∧ i = .int .i64 k ∧ ∃ Tk, PI w w4 base B T Tk s g (l ++ outL s k) wr) (fun i _ => 18 - (intOf i).toNat)
  case atStart => exact ⟨0, Nat.zero_le _, rfl, T1, P4.out⟩
  case round =>
    obtain ⟨k, hk, rfl, Tk, hpi⟩ := hrel
    have P0 := Lib.hid hpi
    clear hpi P4 M3 O3 X3 n3
    have hlen := outL_len s hk
    by_cases hlt : k < 18
    · have hk' : (k : Int) < 18 := by omega
      obtain ⟨c0, c1⟩ := HC.out k hlt
      have e0 : ∀ j, wr.cell? ⟨g, j, none⟩ = w4.cell? ⟨g, j, none⟩ := fun j => World.cell?_of_block P0.out.blk
      rw [← e0] at c0 c1
      clear e0
      have HST : Hid (outL s (k + 1) = outL s k ++ encLn (lat s.lens k)) := outL_step (by rw [HF.out.lens]; exact hlt)
      have PA : Hid (∀ o, PI w w4 base B T Tk s g (l ++ outL s k) (wr.alloc o)) := fun o => P0.out.next ((Seen.refl wr).alloc o)
      go_wp2_with (go_at_call 48; refine (putLen_any base B Tk (l ++ outL s k) (lat s.lens k) _ (PA.out _).out ((PA.out _).base_le hb) (by rw [List.length_append]; omega) ((PA.out _).out.low)).mono ?_; rintro _ w5 ⟨rfl, T5, m5, o5⟩
                   have P5 := Lib.hid ((PA.out _).put m5 o5)
                   clear m5 o5)
      refine ⟨⟨k + 1, hlt, by go_num, T5, ?_⟩, by simp [intOf]; omega⟩
      rw [HST.out, ← List.append_assoc]
      exact P5.out
    · have hk' : ¬ (k : Int) < 18 := by omega
      obtain rfl : k = 18 := by omega
      clear HC
      have fl4 : Hid (0 = 0) := rfl
      go_wp2_with (clear fl4; refine wpList_loadB rfl (.tmp 26) rfl w.heap.size s rfl HF.out P0.out.sty ?_)
      go_loopw [28] (fun i wr => ∃ k : Nat, k ≤ 4 ∧ i = .int .i64 k ∧ ∃ Tk, PI w w4 base B T Tk s g (l ++ outB s k) wr) (fun i _ => 4 - (intOf i).toNat)
      case atStart => exact ⟨0, Nat.zero_le _, rfl, Tk, by simpa [outB] using P0.out⟩
      case round =>
        obtain ⟨k, hk, rfl, Tb, hpi⟩ := hrel
        have P1 := Lib.hid hpi
        clear hpi P0 hlen
        have hlen := outB_len s hk
        by_cases hlt : k < 4
        · have hk' : (k : Int) < 4 := by omega
          have hix := flatI_index HF.out.bord hlt
          have HST : Hid (outB s (k + 1) = outB s k ++ e8 (bat s.bord k)) := outB_step (by rw [HF.out.bord]; exact hlt)
          go_wp2_with (go_at_call 49; refine (oEight_any base B Tb (l ++ outB s k) _ wr P1.out.out (P1.out.base_le hb) (by rw [List.length_append]; omega)).mono ?_; rintro _ w5 ⟨rfl, T5, m5, o5⟩
                       have P5 := Lib.hid (P1.out.put m5 o5)
                       clear m5 o5)
          refine ⟨⟨k + 1, hlt, by go_num, T5, ?_⟩, by simp [intOf]; omega⟩
          rw [HST.out, ← List.append_assoc]
          exact P5.out
        · have hk' : ¬ (k : Int) < 4 := by omega
          obtain rfl : k = 4 := by omega
          obtain ⟨_, c43, c44, _, c46, c47⟩ := P1.out.sty.tail HF.out
          have HALL : Hid (outB s 4 ++ ((if s.hasz then e8 s.z else []) ++ (e8 s.back ++ e8 s.line)) = encS s) := outB_all HF.out
          cases hz : s.hasz
          · rw [hz] at c43 HALL
            go_wp2_with (first
              | (go_at_call 49; refine (oEight_any base B Tb (l ++ outB s 4) _ wr P1.out.out (P1.out.base_le hb) (by rw [List.length_append]; omega)).mono ?_; rintro _ w5 ⟨rfl, T5, m5, o5⟩
                 have P5 := Lib.hid (P1.out.put m5 o5)
                 obtain ⟨_, _, _, _, _, d47⟩ := P5.out.sty.tail HF.out
                 clear m5 o5 P1)
              | (go_at_call 49; refine (oEight_any base B T5 _ _ w5 P5.out.out (P5.out.base_le hb) (by rw [List.length_append, List.length_append, be_length]; omega)).mono ?_; rintro _ w6 ⟨rfl, T6, m6, o6⟩
                 have P6 := Lib.hid (P5.out.put m6 o6)
                 clear m6 o6))
            go_end0
            refine ⟨rfl, T6, P6.out.moves, ?_⟩
            have := P6.out.out
            rw [← HALL.out]
            simpa [List.append_assoc, e8] using this
          · rw [hz] at c43 HALL
            go_wp2_with (first
              | (go_at_call 49; refine (oEight_any base B Tb (l ++ outB s 4) _ wr P1.out.out (P1.out.base_le hb) (by rw [List.length_append]; omega)).mono ?_; rintro _ w5 ⟨rfl, T5, m5, o5⟩
                 have P5 := Lib.hid (P1.out.put m5 o5)
                 obtain ⟨_, _, _, _, d46, d47⟩ := P5.out.sty.tail HF.out
                 clear m5 o5 P1)
              | (go_at_call 49; have gg := P5.out; clear gg; refine (oEight_any base B T5 _ _ w5 P5.out.out (P5.out.base_le hb) (by rw [List.length_append, List.length_append, be_length]; omega)).mono ?_; rintro _ w6 ⟨rfl, T6, m6, o6⟩
                 have P6 := Lib.hid (P5.out.put m6 o6)
                 obtain ⟨_, _, _, _, _, f47⟩ := P6.out.sty.tail HF.out
                 clear m6 o6 P5)
              | (go_at_call 49; refine (oEight_any base B T6 _ _ w6 P6.out.out (P6.out.base_le hb) (by rw [List.length_append, List.length_append, List.length_append, be_length, be_length]; omega)).mono ?_; rintro _ w7 ⟨rfl, T7, m7, o7⟩
                 have P7 := Lib.hid (P6.out.put m7 o7)
                 clear m7 o7))
            go_end0
            refine ⟨rfl, T7, P7.out.moves, ?_⟩
            have := P7.out.out
            rw [← HALL.out]
            simpa [List.append_assoc, e8] using this
end Go.Proofs.Ythphmhcgnkoigaa
