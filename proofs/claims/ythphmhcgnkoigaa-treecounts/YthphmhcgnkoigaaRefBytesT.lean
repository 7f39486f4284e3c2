/- Contract of the reference's Bytes of trees; no conditions beyond those written in each theorem. -/
import Derived.Test.YthphmhcgnkoigaaRefBytes
import Derived.Test.YthphmhcgnkoigaaNdMem
namespace Go.Proofs.Ythphmhcgnkoigaa
open Go.ChangeShapes Go.WideShapes Go.ChangeAt Go.RowKit
set_option maxRecDepth 100000
set_option maxHeartbeats 16000000 in
theorem refBytesT_any (ad : Option Addr) (n c : Nat) (l : List Nd) (w : World) (h : NS w ad n l) (hn : n ≤ 100000) (hf : FormedT l) : Calls Try.prog 15 #[.slice ad n c] w (RowPost (encT l) w) := by
  obtain ⟨i0, hi, hz0, hz1, hz2⟩ := info_parts info5
  have HN : Hid (l.length = n) := h.1
  have HS := Lib.hid h
  have HT := Lib.hid hf
  have h0 : 0 < n := by have := hf.1; have := HN.out; omega
  obtain ⟨b, off, rfl, hc⟩ := h.ats h0
  have HC := Lib.hid hc
  clear h hc hf
  have hu : IntKind.u64.wrap (n : Int) = (n : Int) := by rw [IntKind.wrap_u64]; omega
  have HNU := Lib.hid (number_any 4 (n : Int) w (by omega) (by omega) (by omega))
  go_enter Try.func15, Try.ntmps15
  go_wp2_with (go_at_call 19; refine HNU.out.mono ?_; clear HNU; rintro _ w1 ⟨⟨v1, rfl, ho1⟩, hs1⟩; rw [be_length] at ho1; have R1 := Lib.hid (And.intro ho1 hs1); clear ho1 hs1)
  go_loopw [3, 12] (fun v i wr => ∃ k : Nat, k ≤ n ∧ i = .int .i64 k ∧ wr.ownsRow w.heap.size 5 1 v (outT l k).length (bv (outT l k)) ∧ Seen w wr) (fun _ i _ => n - (intOf i).toNat)
  case atStart =>
    refine ⟨0, Nat.zero_le _, rfl, ?_, R1.out.2⟩
    have e : outT l 0 = be (n : Int) 4 := by unfold outT; rw [HN.out]; simp
    rw [e, be_length]
    exact R1.out.1
  case round =>
    obtain ⟨k, hk, rfl, hown, hs⟩ := hrel
    have R2 := Lib.hid hown
    have S2 := Lib.hid hs
    clear hown hs R1
    by_cases hlt : k < n
    · have hk' : (k : Int) < (n : Int) := by omega
      have A1 : Hid (∀ w', Seen w w' → At w' b (off + k * 49) (nd l k)) := fun w' h' => (HC.out k hlt).seen h'
      have HOL : Hid ((outT l k).length ≤ 4 + 223 * k) := outT_len l k
      have HEL : Hid ((encS (nd l k).s).length ≤ 219) := encS_len (nd l k).full
      have HFP : Hid (formedB (nd l k).s = true ∧ True) := ⟨(HT.out.2 k (by have := HN.out; omega)).2, trivial⟩
      have HPO : Hid (0 ≤ (nd l k).s.pos ∧ (nd l k).s.pos ≤ 3) := by
        have hfp : FormedP (nd l k).s := of_decide_eq_true HFP.out.1
        exact ⟨hfp.2.2.2.2.1, hfp.2.2.2.2.2.1⟩
      have HBY : Hid (∀ w', Calls Try.prog 21 #[sv (nd l k).s] w' (RowPost (encS (nd l k).s) w')) := fun w' => refBytes_any _ (nd l k).full HPO.out w'
      rcases Nat.eq_zero_or_pos k with hk0 | hk0
      · subst hk0
        have A2 : Hid (At wr b off (nd l 0)) := by have := A1.out wr S2.out; rwa [Nat.zero_mul, Nat.add_zero] at this
        have HNB : Hid (outT l 1 = outT l 0 ++ encS (nd l 0).s) := by unfold Hid; rw [outT_step]; rfl
        obtain ⟨L, hL⟩ : ∃ L, outT l 0 = L := ⟨_, rfl⟩
        obtain ⟨E, hE⟩ : ∃ E, encS (nd l 0).s = E := ⟨_, rfl⟩
        rw [hE] at HBY HEL HNB
        rw [hL] at R2 HOL HNB
        clear hL hE
        go_wp2_with (first
          | (refine wpList_loadNS rfl (.tmp 35) rfl b off (nd l 0) rfl A2.out ?_)
          | (go_at_call 21; refine (HBY.out wr).mono ?_; clear HBY; rintro _ w3 ⟨⟨v3, rfl, ho3⟩, hs3⟩; have R3 := Lib.hid (And.intro ho3 hs3); clear ho3 hs3)
          | (at_builtin; refine wpList_append_rows _ rfl (.tmp 31) (.tmp 37) 28 rfl 5 i0 (.int .u8 0) 1 1 Try.underlying28 hi hz0 hz1 hz2 rfl (by decide) w.heap.size wr.heap.size u3 L.length (bv L) rfl (row_seen R2.out R3.out.2) v3 E.length (bv E) rfl R3.out.1 (bv_one _) (by have := HOL.out; have := HEL.out; unfold maxLen; omega) (by have := HOL.out; have := HEL.out; omega) (S2.out.trans R3.out.2).size ?_
             intro v4 w4 ho4 hg4 hat4
             have R4 : Hid (w4.ownsRow w.heap.size 5 1 v4 (L ++ E).length (bv (L ++ E))) := by unfold Hid; rw [List.length_append, bv_append]; exact ho4
             have S4 : Hid (Seen w w4) := Below.grown (S2.out.trans R3.out.2) hg4 (S2.out.trans R3.out.2).size (fun j hj => (R2.out.lt j hj).1)
             clear ho4 hg4 hat4))
        refine ⟨⟨1, by omega, by go_num, ?_, S4.out⟩, by simp [intOf]; omega⟩
        rw [HNB.out]
        exact R4.out
      · have hkp : (k : Int) > 0 := by omega
        have HLO : Hid (Low l (k + 1)) := HT.out.low.less (by have := HN.out; omega)
        have hok := (HT.out.2 k (by have := HN.out; omega)).1
        obtain ⟨m, hm⟩ : ∃ m : Int, (k : Int) - 1 = m := ⟨_, rfl⟩
        obtain ⟨hde, hsle⟩ := deep_next hk0 (by have := HN.out; omega) HLO.out hok
        rw [hm] at hde
        have HD1 := Lib.hid (deep_any (some ⟨b, off, none⟩) n c l m wr (HS.out.seen S2.out) (by omega) (by omega) (by omega) (HLO.out.less (by omega)))
        have HD2 := Lib.hid (deep_any (some ⟨b, off, none⟩) n c l k wr (HS.out.seen S2.out) (by omega) (by omega) (by omega) (HLO.out.less (by omega)))
        have hd2le := deep_le (l := l) (m := (k : Int)) (n := k + 1) (by have := HN.out; omega) HLO.out (by omega) (by omega)
        have HNB : Hid (outT l (k + 1) = outT l k ++ be (stepsAt l k : Nat) 4 ++ encS (nd l k).s) := by
          unfold Hid
          rw [outT_step, List.append_assoc]
          unfold nodeB
          rw [if_neg (by omega)]
        obtain ⟨M, hM⟩ : ∃ M, stepsAt l k = M := ⟨_, rfl⟩
        obtain ⟨D1, hD1⟩ : ∃ D1, deep l m = D1 := ⟨_, rfl⟩
        obtain ⟨D2, hD2⟩ : ∃ D2, deep l k = D2 := ⟨_, rfl⟩
        rw [hM] at HNB hde hsle
        rw [hD1] at HD1 hde
        rw [hD2] at HD2 hde hd2le
        clear hM hD1 hD2 hok
        have e1 : (D1 : Int) - D2 + 1 = M := by omega
        have hb1 : (D1 : Int) ≤ 200000 := by omega
        have hb2 : (D2 : Int) ≤ 200000 := by omega
        have huM : IntKind.u64.wrap (M : Int) = (M : Int) := by rw [IntKind.wrap_u64]; omega
        have HNM : Hid (∀ w', Calls Try.prog 19 #[.int .u64 (M : Int), .int .i64 4] w' (RowPost (be (M : Int) 4) w')) := fun w' => number_any 4 (M : Int) w' (by omega) (by omega) (by omega)
        have HB4 : Hid ((be (M : Int) 4).length = 4) := be_length _ _
        obtain ⟨L, hL⟩ : ∃ L, outT l k = L := ⟨_, rfl⟩
        obtain ⟨E, hE⟩ : ∃ E, encS (nd l k).s = E := ⟨_, rfl⟩
        obtain ⟨F, hF⟩ : ∃ F, be (M : Int) 4 = F := ⟨_, rfl⟩
        rw [hF] at HNM HB4 HNB
        rw [hE] at HBY HEL HNB
        rw [hL] at R2 HOL HNB
        clear hL hE hF hde hd2le hsle
        go_wp2_with (first
          | (go_at_call 20; refine HD1.out.mono ?_; clear HD1; rintro _ w2 ⟨rfl, rfl⟩)
          | (go_at_call 20; refine HD2.out.mono ?_; clear HD2; rintro _ w2 ⟨rfl, rfl⟩)
          | (go_at_call 19; refine (HNM.out w2).mono ?_; clear HNM; rintro _ w3 ⟨⟨v3, rfl, ho3⟩, hs3⟩; have R3 := Lib.hid (And.intro ho3 hs3); clear ho3 hs3)
          | (at_builtin; refine wpList_append_rows _ rfl (.tmp 26) (.tmp 29) 28 rfl 5 i0 (.int .u8 0) 1 1 Try.underlying28 hi hz0 hz1 hz2 rfl (by decide) w.heap.size w2.heap.size u3 L.length (bv L) rfl (row_seen R2.out R3.out.2) v3 F.length (bv F) rfl R3.out.1 (bv_one _) (by have := HOL.out; have := HB4.out; unfold maxLen; omega) (by have := HOL.out; have := HB4.out; omega) (S2.out.trans R3.out.2).size ?_
             intro v4 w4 ho4 hg4 hat4
             have R4 : Hid (w4.ownsRow w.heap.size 5 1 v4 (L ++ F).length (bv (L ++ F))) := by unfold Hid; rw [List.length_append, bv_append]; exact ho4
             have S4 : Hid (Seen w w4) := Below.grown (S2.out.trans R3.out.2) hg4 (S2.out.trans R3.out.2).size (fun j hj => (R2.out.lt j hj).1)
             have HL4 : Hid ((L ++ F).length ≤ 8 + 223 * k) := by unfold Hid; rw [List.length_append]; have := HOL.out; have := HB4.out; omega
             clear ho4 hg4 hat4)
          | (refine wpList_loadNS rfl (.tmp 35) rfl b (off + k * 49) (nd l k) rfl (A1.out w4 S4.out) ?_)
          | (go_at_call 21; refine (HBY.out w4).mono ?_; clear HBY; rintro _ w5 ⟨⟨v5, rfl, ho5⟩, hs5⟩; have R5 := Lib.hid (And.intro ho5 hs5); clear ho5 hs5)
          | (at_builtin; refine wpList_append_rows _ rfl (.tmp 31) (.tmp 37) 28 rfl 5 i0 (.int .u8 0) 1 1 Try.underlying28 hi hz0 hz1 hz2 rfl (by decide) w.heap.size w4.heap.size v4 (L ++ F).length (bv (L ++ F)) rfl (row_seen R4.out R5.out.2) v5 E.length (bv E) rfl R5.out.1 (bv_one _) (by have := HL4.out; have := HEL.out; unfold maxLen; omega) (by have := HL4.out; have := HEL.out; omega) (S4.out.trans R5.out.2).size ?_
             intro v6 w6 ho6 hg6 hat6
             have R6 : Hid (w6.ownsRow w.heap.size 5 1 v6 (L ++ F ++ E).length (bv (L ++ F ++ E))) := by unfold Hid; rw [List.length_append, bv_append]; exact ho6
             have S6 : Hid (Seen w w6) := Below.grown (S4.out.trans R5.out.2) hg6 (S4.out.trans R5.out.2).size (fun j hj => (R4.out.lt j hj).1)
             clear ho6 hg6 hat6))
        refine ⟨⟨k + 1, by omega, by go_num, ?_, S6.out⟩, by simp [intOf]; omega⟩
        rw [HNB.out]
        exact R6.out
    · have hk' : ¬ (k : Int) < (n : Int) := by omega
      obtain rfl : k = n := by omega
      go_wp2_with fail
      go_ret
      unfold encT
      rw [HN.out]
      exact ⟨⟨_, rfl, R2.out⟩, S2.out⟩
end Go.Proofs.Ythphmhcgnkoigaa
