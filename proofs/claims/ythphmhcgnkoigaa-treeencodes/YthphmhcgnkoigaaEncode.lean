/- Contract of Encode of package tree; no conditions beyond those written in each theorem. -/
import Derived.Test.YthphmhcgnkoigaaFour
import Derived.Test.YthphmhcgnkoigaaPutS
import Derived.Test.YthphmhcgnkoigaaFormedT
namespace Go.Proofs.Ythphmhcgnkoigaa
open Go.ChangeShapes Go.WideShapes Go.ChangeAt Go.RowKit
set_option maxRecDepth 100000
set_option maxHeartbeats 4000000 in
theorem encode_no (ad : Option Addr) (n c : Nat) (l : List Nd) (w : World) (h : NS w ad n l) (hn : n ≤ 1099511627776) (hf : formedT l = false) :
    Calls Try.prog 13 #[.slice ad n c] w fun e w' => e = .returned (.tuple #[.slice none 0 0, .int .i64 2]) ∧ Seen w w' := by
  have HF := Lib.hid (formedTree_any ad n c l w h hn)
  rw [hf] at HF
  clear h hf
  go_enter Try.func13, Try.ntmps13
  go_wp2_with (go_at_call 9; refine HF.out.mono ?_; rintro e w1 ⟨rfl, hs⟩; have S1 := Lib.hid hs; clear hs)
  go_ret2
  exact ⟨rfl, S1.out⟩
/-- While Encode runs: the Out at B owns T; nothing old has turned. -/
structure EI (w : World) (B : Nat) (T : Nat → Prop) (L : List Int) (wr : World) : Prop where
  self : OS w.heap.size B T L wr
  seen : Seen w wr
  high : ∀ k, T k → w.heap.size ≤ k
section
variable {w wr w' : World} {B : Nat} {T T' : Nat → Prop} {L L' : List Int}
theorem EI.next (h : EI w B T L wr) (hs : Seen wr w') : EI w B T L w' := ⟨h.self.seen hs, h.seen.trans hs, h.high⟩
theorem EI.put (h : EI w B T L wr) (hm : Moves T T' wr w') (ho : OS w.heap.size B T' L' w') : EI w B T' L' w' :=
  ⟨ho, h.seen.moves hm h.high, fun k hk => (hm.own k hk).elim (h.high k) (fun h2 => Nat.le_trans h.seen.size h2)⟩
theorem EI.fresh (h : EI w B T L wr) {o : Obj} (ht : Turns wr.heap.size (wr.alloc o) w') : EI w B T L w' := by
  have hs : Seen wr w' := (Seen.refl wr).fresh ht
  exact h.next hs
end
theorem u32_len {n : Nat} (h : n ≤ 100000) : IntKind.u32.wrap (n : Int) % 18446744073709551616 = n := by
  rw [IntKind.wrap_u32]; omega
set_option maxHeartbeats 16000000 in
theorem encode_yes (ad : Option Addr) (n c : Nat) (l : List Nd) (w : World) (h : NS w ad n l) (hn : n ≤ 100000) (hf : FormedT l) :
    Calls Try.prog 13 #[.slice ad n c] w fun e w' => ∃ v, e = .returned (.tuple #[v, .int .i64 0]) ∧ w'.ownsRow w.heap.size 5 1 v (encT l).length (bv (encT l)) ∧ Seen w w' := by
  have HN : Hid (l.length = n) := h.1
  have HS := Lib.hid h
  have HT := Lib.hid hf
  have HF := Lib.hid (formedTree_any ad n c l w h (by omega))
  rw [show formedT l = true from decide_eq_true hf] at HF
  have h0 : 0 < n := by have := hf.1; have := HN.out; omega
  obtain ⟨b, off, rfl, hc⟩ := h.ats h0
  have HC := Lib.hid hc
  clear h hc hf
  obtain ⟨N4, hN4⟩ : ∃ N4, IntKind.u32.wrap (n : Int) = N4 := ⟨_, rfl⟩
  have HN4 : Hid (N4 % 18446744073709551616 = n) := by rw [← hN4]; exact u32_len hn
  have fl : Hid (0 = 0) := rfl
  go_enter Try.func13, Try.ntmps13
  go_wp2_with (first
    | (go_at_call 9; refine HF.out.mono ?_; clear HF; rintro e w1 ⟨rfl, hs⟩; have S1 := Lib.hid hs; clear hs)
    | (clear fl; go_at_call 29
       obtain ⟨W, hW⟩ : ∃ W, W = w1.alloc (.cells #[.slice none 0 0] 57) := ⟨_, rfl⟩
       rw [← hW]
       have E0 : Hid (EI w w1.heap.size (fun k => k = w1.heap.size) [] W) := by
         rw [hW]
         exact ⟨os_new w1 w.heap.size, S1.out.alloc _, fun k hk => by rw [hk]; exact S1.out.size⟩
       clear hW
       refine (oFour_any w.heap.size w1.heap.size _ [] _ W E0.out.self E0.out.seen.size (by simp)).mono ?_
       rintro _ w2 ⟨rfl, T2, hm2, ho2⟩
       have E1 := Lib.hid (E0.out.put hm2 ho2)
       clear hm2 ho2 E0))
  go_loopw [18] (fun i wr => ∃ k : Nat, k ≤ n ∧ i = .int .i64 k ∧ ∃ T, EI w w1.heap.size T (outT l k) wr) (fun i _ => n - (intOf i).toNat)
  case atStart =>
    refine ⟨0, Nat.zero_le _, rfl, T2, ?_⟩
    have e : outT l 0 = [] ++ be (N4 % 18446744073709551616) 4 := by
      rw [HN4.out]; unfold outT; rw [HN.out]; simp
    rw [e]
    exact E1.out
  case round =>
    obtain ⟨k, hk, rfl, T, hE⟩ := hrel
    have G1 := Lib.hid hE
    clear hE E1 T2
    by_cases hlt : k < n
    · have hk' : (k : Int) < (n : Int) := by omega
      have A1 : Hid (At wr b (off + k * 49) (nd l k)) := (HC.out k hlt).seen G1.out.seen
      obtain ⟨V, hV⟩ : ∃ V, V = wr.alloc (.cells (ndl zeroN).toArray 51) := ⟨_, rfl⟩
      have HZ : Hid (Hn V wr.heap.size zeroN) := by rw [hV]; exact hn_new wr zeroN
      have HVS : Hid (∀ w2, Turns wr.heap.size V w2 → EI w w1.heap.size T (outT l k) w2) := by rw [hV]; exact fun w2 h2 => G1.out.fresh h2
      have HNT : Hid (¬ T wr.heap.size) := fun ht => by have := G1.out.self.low _ ht; omega
      have HFP : Hid (FormedP (nd l k).s) := by unfold Hid; exact of_decide_eq_true (HT.out.2 k (by have := HN.out; omega)).2
      have HOL : Hid ((outT l k).length ≤ 4 + 223 * k) := outT_len l k
      rcases Nat.eq_zero_or_pos k with hk0 | hk0
      · subst hk0
        rw [Nat.zero_mul, Nat.add_zero] at A1
        go_wp2_with (first
          | (refine wpList_loadN rfl (.tmp 21) rfl b (off) (nd l 0) rfl A1.out ?_; clear A1)
          | (rw [zeroN_lit, ← hV]; clear hV; refine wpList_storeN rfl (.tmp 6) (.tmp 22) rfl wr.heap.size zeroN (nd l 0) rfl rfl HZ.out ?_; intro w2 h2 t2; have R2 := Lib.hid (And.intro h2 (HVS.out w2 t2)); clear h2 t2 HZ)
          | (refine wpList_loadNS rfl (.tmp 34) rfl wr.heap.size 0 (nd l 0) rfl R2.out.1.at ?_)
          | (go_at_call 30; refine (put_yes w.heap.size w1.heap.size T _ (nd l 0).s (nd l 0).full HFP.out w2 R2.out.2.self R2.out.2.seen.size (by have := HOL.out; omega)).mono ?_
             rintro _ w3 ⟨rfl, T3, hm3, ho3⟩
             have G3 := Lib.hid (R2.out.2.put hm3 ho3)
             clear hm3 ho3))
        refine ⟨⟨1, by omega, by go_num, T3, ?_⟩, by simp [intOf]; omega⟩
        rw [outT_step]
        exact G3.out
      · have hkp : (k : Int) > 0 := by omega
        have HL : Hid (Low l k) := HT.out.low.less (by have := HN.out; omega)
        have HST : Hid (∀ w', Seen w w' → Calls Try.prog 23 #[.slice (some ⟨b, off, none⟩) n c, .int .i64 k] w' fun e w'' => e = .returned (.tuple #[.int .i64 (stepsV l k : Nat), .bool (decide (okAt l k))]) ∧ w'' = w') := fun w' h' => stepsUp_any _ n c l k w' (HS.out.seen h') hlt (by omega) HL.out
        have hok := (HT.out.2 k (by have := HN.out; omega)).1
        have hsv : stepsV l k = stepsAt l k := by
          unfold stepsV
          rw [if_neg (by omega), if_neg (by have := (ok_pos hk0 hok).1; omega)]
        have hsle := (deep_next hk0 (by have := HN.out; omega) (HT.out.low.less (by have := HN.out; omega)) hok).2
        rw [hsv] at HST
        obtain ⟨okb, hokb⟩ : ∃ okb, decide (okAt l k) = okb := ⟨_, rfl⟩
        rw [hokb] at HST
        clear hokb hsv hok
        have HNB : Hid (nodeB l k = be (stepsAt l k : Nat) 4 ++ encS (nd l k).s) := by unfold Hid nodeB; rw [if_neg (by omega)]
        obtain ⟨M, hM⟩ : ∃ M, stepsAt l k = M := ⟨_, rfl⟩
        rw [hM] at HST HNB hsle
        clear hM
        obtain ⟨M4, hM4⟩ : ∃ M4, IntKind.u32.wrap (M : Int) = M4 := ⟨_, rfl⟩
        have HM4 : Hid (M4 % 18446744073709551616 = M) := by rw [← hM4]; exact u32_len (by omega)
        go_wp2_with (first
          | (refine wpList_loadN rfl (.tmp 21) rfl b (off + k * 49) (nd l k) rfl A1.out ?_; clear A1)
          | (rw [zeroN_lit, ← hV]; clear hV; refine wpList_storeN rfl (.tmp 6) (.tmp 22) rfl wr.heap.size zeroN (nd l k) rfl rfl HZ.out ?_; intro w2 h2 t2; have R2 := Lib.hid (And.intro h2 (HVS.out w2 t2)); clear h2 t2 HZ)
          | (go_at_call 23; refine (HST.out w2 R2.out.2.seen).mono ?_; clear HST; rintro e w3 ⟨rfl, rfl⟩)
          | (go_at_call 29; refine (oFour_any w.heap.size w1.heap.size T _ M4 w3 R2.out.2.self R2.out.2.seen.size (by have := HOL.out; omega)).mono ?_
             rintro _ w4 ⟨rfl, T4, hm4, ho4⟩
             rw [HM4.out] at ho4
             have R4 := Lib.hid (And.intro (show Hn w4 wr.heap.size (nd l k) from (hm4.block _ R2.out.1.lt HNT.out).trans R2.out.1) (R2.out.2.put hm4 ho4))
             clear hm4 ho4)
          | (refine wpList_loadNS rfl (.tmp 34) rfl wr.heap.size 0 (nd l k) rfl R4.out.1.at ?_)
          | (go_at_call 30; refine (put_yes w.heap.size w1.heap.size T4 _ (nd l k).s (nd l k).full HFP.out w4 R4.out.2.self R4.out.2.seen.size (by have := HOL.out; rw [List.length_append, be_length]; omega)).mono ?_
             rintro _ w5 ⟨rfl, T5, hm5, ho5⟩
             have G5 := Lib.hid (R4.out.2.put hm5 ho5)
             clear hm5 ho5))
        refine ⟨⟨k + 1, by omega, by go_num, T5, ?_⟩, by simp [intOf]; omega⟩
        rw [outT_step, HNB.out, ← List.append_assoc]
        exact G5.out
    · have hk' : ¬ (k : Int) < (n : Int) := by omega
      obtain rfl : k = n := by omega
      go_wp2_with (go_at_call 31; refine (bytes_any w.heap.size w1.heap.size T _ wr G1.out.self (by have := outT_len l k; omega)).mono ?_; rintro _ w3 ⟨⟨v3, rfl, ho3⟩, hs3⟩; have R3 := Lib.hid (And.intro ho3 hs3); clear ho3 hs3)
      go_ret2
      refine ⟨v3, rfl, ?_, G1.out.seen.trans R3.out.2⟩
      unfold encT
      rw [HN.out]
      exact row_more R3.out.1 G1.out.seen.size
end Go.Proofs.Ythphmhcgnkoigaa
