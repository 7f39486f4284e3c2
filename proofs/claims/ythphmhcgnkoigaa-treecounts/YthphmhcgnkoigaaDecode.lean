/- Contract of Decode of package tree; no conditions beyond those written in each theorem. -/
import Derived.Test.YthphmhcgnkoigaaGetNodes
import Derived.Test.YthphmhcgnkoigaaCheckT
namespace Go.Proofs.Ythphmhcgnkoigaa
open Go.ChangeShapes Go.WideShapes Go.ChangeAt Go.RowKit
set_option maxRecDepth 100000
theorem DI.all (l : List Int) (h : Bytes8 l) : DI l.length (decA l).1 (decA l).2 := by
  have key : ∀ (c : Nat) (t : St) (nl : List Nd), DI l.length t nl → DI l.length (decN c t nl).1 (decN c t nl).2 := by
    intro c
    induction c with
    | zero => exact fun t nl h => h
    | succ c ih =>
      intro t nl h
      cases hb : t.bad with
      | true => rw [decN_bad _ _ hb]; exact h
      | false => rw [decN_step _ _ hb]; exact ih _ _ (h.step hb)
  exact key _ _ _ (DI.start h)
theorem code_no {l : List Int} (h : decOk l = false) : codeT l = 2 := by unfold codeT; rw [h]; rfl
theorem code_yes {l : List Int} (h : decOk l = true) : codeT l = checkT (decA l).2 := by unfold codeT; rw [h]; rfl
set_option maxHeartbeats 8000000 in
theorem decode_any (ad : Option Addr) (n c : Nat) (l : List Int) (w : World) (h : BS w ad n l) (hok : Bytes8 l) (hc : ad = none → c = 0) (hn : n ≤ 1000000) :
    Calls Try.prog 14 #[.slice ad n c] w fun e w' => ∃ v, e = .returned (.tuple #[v, .int .i64 (codeT l)]) ∧ Seen w w' ∧ (codeT l ≠ 0 → v = .slice none 0 0) ∧ (codeT l = 0 → w'.ownsRow w.heap.size 51 49 v (decA l).2.length (flatN (decA l).2)) := by
  have HL : Hid (l.length = n) := h.1
  have HI := Lib.hid (newIn_any ad n c l w h hok hc (by omega))
  have HDI := Lib.hid (DI.all l hok)
  clear h hc hok
  cases hdo : decOk l
  · have HE : Hid ((!(decA l).1.bad && decide ((decA l).1.l.length = 0)) = false) := hdo
    have HCO := Lib.hid (code_no hdo)
    clear hdo
    go_enter Try.func14, Try.ntmps14
    go_wp2_with (first
      | (go_at_call 32; refine HI.out.mono ?_; clear HI; rintro _ w1 ⟨B, K, rfl, hi1, hk1, hs1⟩; have R1 := Lib.hid (And.intro (show IT K B ⟨l, false⟩ w1 from hi1) (And.intro hk1 hs1)); clear hi1 hk1 hs1)
      | (go_at_call 33; refine (getNodes_any R1.out.1 (by have := HL.out; omega)).mono ?_; rintro _ w2 ⟨v2, rfl, ho2, ht2, hi2⟩; have R2 := Lib.hid (And.intro ho2 (And.intro ht2 hi2)); clear ho2 ht2 hi2)
      | (go_at_call 34; refine (IT.done R2.out.2.2).mono ?_; rintro _ w3 ⟨rfl, rfl⟩; rw [HE.out]))
    go_ret2
    rw [HCO.out]
    have hB : w.heap.size ≤ B := R1.out.2.1 B R1.out.1.1
    exact ⟨_, rfl, R1.out.2.2.turns R2.out.2.1 hB, fun _ => rfl, fun h => by omega⟩
  · have HE : Hid ((!(decA l).1.bad && decide ((decA l).1.l.length = 0)) = true) := hdo
    have HCO := Lib.hid (code_yes hdo)
    clear hdo
    obtain ⟨C, hC⟩ : ∃ C, checkT (decA l).2 = C := ⟨_, rfl⟩
    have HCH : Hid (∀ a n c w', NS w' a n (decA l).2 → n ≤ 1000001 → Calls Try.prog 11 #[.slice a n c] w' fun e w'' => e = .returned (.int .i64 C) ∧ Seen w' w'') := fun a n c w' h' hn' => by
      rw [← hC]; exact check_any a n c _ w' h' (by omega)
    rw [hC] at HCO
    clear hC
    cases hC0 : (C == 0)
    all_goals
      go_enter Try.func14, Try.ntmps14
      go_wp2_with (first
        | (go_at_call 32; refine HI.out.mono ?_; clear HI; rintro _ w1 ⟨B, K, rfl, hi1, hk1, hs1⟩; have R1 := Lib.hid (And.intro (show IT K B ⟨l, false⟩ w1 from hi1) (And.intro hk1 hs1)); clear hi1 hk1 hs1)
        | (go_at_call 33; refine (getNodes_any R1.out.1 (by have := HL.out; omega)).mono ?_; rintro _ w2 ⟨v2, rfl, ho2, ht2, hi2⟩
           obtain ⟨a2, c2, rfl, hns2, _, _⟩ := ns_of_own ho2 rfl
           have R2 := Lib.hid (And.intro ho2 (And.intro ht2 (And.intro hi2 hns2))); clear ho2 ht2 hi2 hns2)
        | (go_at_call 34; refine (IT.done R2.out.2.2.1).mono ?_; rintro _ w3 ⟨rfl, rfl⟩; rw [HE.out])
        | (go_at_call 11; refine (HCH.out a2 _ c2 w3 R2.out.2.2.2 (by have := HDI.out.most; have := HL.out; omega)).mono ?_; clear HCH; rintro _ w4 ⟨rfl, hs4⟩; have S4 := Lib.hid hs4; clear hs4))
      go_ret2
      rw [HCO.out]
      have hB : w.heap.size ≤ B := R1.out.2.1 B R1.out.1.1
      have hs : Seen w w4 := (R1.out.2.2.turns R2.out.2.1 hB).trans S4.out
    · exact ⟨_, rfl, hs, fun _ => rfl, fun h => by rw [h] at hC0; simp at hC0⟩
    · obtain rfl : C = 0 := by simpa using hC0
      exact ⟨_, rfl, hs, fun h => absurd rfl h, fun _ => row_more (row_seen R2.out.1 S4.out) R1.out.2.2.size⟩
end Go.Proofs.Ythphmhcgnkoigaa
