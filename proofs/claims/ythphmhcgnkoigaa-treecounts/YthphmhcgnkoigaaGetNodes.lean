/- Contract of getNodes; no conditions beyond those written in each theorem. -/
import Derived.Test.YthphmhcgnkoigaaGetPar
import Derived.Test.YthphmhcgnkoigaaGet
import Derived.Test.YthphmhcgnkoigaaBuild
namespace Go.Proofs.Ythphmhcgnkoigaa
open Go.ChangeShapes Go.WideShapes Go.ChangeAt Go.RowKit
set_option maxRecDepth 100000
/-- While nodes are read: the In at B, the row of what was read, what is still to be read. -/
structure NI (w : World) (K : Nat → Prop) (B : Nat) (l : List Int) (v : Value) (c : Nat) (t : St) (nl : List Nd) (wr : World) : Prop where
  row : wr.ownsRow w.heap.size 51 49 v nl.length (flatN nl)
  turns : Turns B w wr
  self : IT K B t wr
  di : DI l.length t nl
  same : decN c t nl = decA l
section
variable {w wr w' : World} {K : Nat → Prop} {B : Nat} {l : List Int} {v : Value} {c : Nat} {t : St} {nl : List Nd}
theorem row_turns {base n : Nat} {xs : List Value} (h : wr.ownsRow base 51 49 v n xs) (ht : Turns B wr w') (hB : B < base) : w'.ownsRow base 51 49 v n xs :=
  ownsRow_keeps h fun g hg => ht.block g (h.lt g hg).2 (fun e => by have := (h.lt g hg).1; omega)
end
set_option maxHeartbeats 16000000 in
theorem getNodes_any {K : Nat → Prop} {B : Nat} {l : List Int} {w : World} (h : IT K B ⟨l, false⟩ w) (hl : l.length ≤ 1000000) :
    Calls Try.prog 33 #[.pointer (some ⟨B, 0, none⟩)] w fun e w' => ∃ v, e = .returned v ∧ w'.ownsRow w.heap.size 51 49 v (decA l).2.length (flatN (decA l).2) ∧ Turns B w w' ∧ IT K B (decA l).1 w' := by
  obtain ⟨i0, hi, hz0, hz1, hz2⟩ := info_parts info51z
  have hBlt := h.lt
  have HK : Hid (∀ k, K k → k < w.heap.size) := h.2.1
  have hb4 : 0 ≤ tkV 4 l ∧ tkV 4 l < 256 ^ 4 := tkV_bound (n := 4) h.ok
  obtain ⟨C, hC⟩ : ∃ C : Nat, tkV 4 l = (C : Int) := ⟨(tkV 4 l).toNat, by omega⟩
  have HC32 : Hid (C < 4294967296) := by unfold Hid; omega
  have HD : Hid (decN C (adv 4 ⟨l, false⟩) [] = decA l) := by unfold Hid decA decC; rw [hC]; rfl
  have HDI := Lib.hid (DI.start (l := l) h.ok)
  have H4 := Lib.hid h.four
  rw [show tkV 4 (⟨l, false⟩ : St).l = (C : Int) from hC] at H4
  clear h hb4 hC
  go_enter Try.func33, Try.ntmps33
  go_wp2_with (go_at_call 50; refine H4.out.mono ?_; clear H4; rintro _ w1 ⟨rfl, ht1, hi1⟩; have R1 := Lib.hid (And.intro ht1 hi1); clear ht1 hi1)
  go_loopw [3, 4] (fun v s wr => ∃ (c : Nat) (t : St) (nl : List Nd), c < 4294967296 ∧ s = .int .u32 (c : Int) ∧ NI w K B l v c t nl wr) (fun _ s _ => (intOf s).toNat)
  case atStart => exact ⟨C, _, [], HC32.out, rfl, World.ownsRow_nil _ _ _ _, R1.out.1, R1.out.2, HDI.out, HD.out⟩
  case round =>
    obtain ⟨c, t, nl, hc32, rfl, hni⟩ := hrel
    have G1 := Lib.hid hni
    clear hni R1 HDI HD HC32
    have HB := Lib.hid (IT.isBad G1.out.self)
    rcases Nat.eq_zero_or_pos c with h0 | h0
    · subst h0
      go_wp2_with fail
      go_ret
      have e := G1.out.same
      rw [← show (t, nl) = decA l from e]
      exact ⟨_, rfl, G1.out.row, G1.out.turns, G1.out.self⟩
    · cases hbad : t.bad
      · rw [hbad] at HB
        obtain ⟨a, cc, rfl, hns, _, _⟩ := ns_of_own G1.out.row rfl
        have HGP := Lib.hid (getParent_any a nl.length cc nl wr G1.out.self (fun w' h' => by
          obtain ⟨a', c', e, h2, _, _⟩ := ns_of_own (row_turns G1.out.row h' hBlt) rfl
          cases e
          exact h2) G1.out.di.low (by have := G1.out.di.most; omega))
        have HNL : Hid (nl.length ≤ 1000001) := by unfold Hid; have := G1.out.di.most; omega
        have HDS := Lib.hid (G1.out.di.step hbad)
        have HSM : Hid (decN (c - 1) (getE (rst t nl)) (nl ++ [dnode t nl]) = decA l) := by
          unfold Hid
          have := G1.out.same
          rw [show c = (c - 1) + 1 by omega, decN_step _ _ hbad] at this
          exact this
        obtain ⟨p, hp⟩ : ∃ p, rpar t nl = p := ⟨_, rfl⟩
        have HDN : Hid (dnode t nl = ⟨getV (rst t nl), p, getV_full _⟩) := by unfold Hid dnode; simp only [hp]
        rw [hp] at HGP
        clear hns hp hbad
        have hw : IntKind.u32.wrap ((c : Int) - 1) = ((c - 1 : Nat) : Int) := by rw [IntKind.wrap_u32]; omega
        obtain ⟨U, hU⟩ : ∃ U : Nat, c - 1 = U := ⟨_, rfl⟩
        rw [hU] at hw HSM
        have HU : Hid (U < c) := by unfold Hid; omega
        have HU2 : Hid (U < 4294967296) := by unfold Hid; omega
        obtain ⟨NL, hNL⟩ : ∃ NL, nl.length = NL := ⟨_, rfl⟩
        have HNLe := Lib.hid hNL
        rw [hNL] at HGP HNL
        rw [hNL]
        clear hU hc32 hNL
        go_wp2_with (first
          | (go_at_call 51; refine HB.out.mono ?_; clear HB; rintro e w2 ⟨rfl, rfl⟩)
          | (go_at_call 52; refine HGP.out.mono ?_; clear HGP; rintro e w3 ⟨rfl, ht3, hi3⟩; have R3 := Lib.hid (And.intro ht3 hi3); clear ht3 hi3)
          | (go_at_call 53; refine (get_any R3.out.2).mono ?_; rintro e w4 ⟨rfl, ht4, hi4⟩; have R4 := Lib.hid (And.intro (R3.out.1.trans ht4) hi4); clear ht4 hi4)
          | (refine wpList_buildN rfl (.tmp 22) (.tmp 23) rfl (getV (rst t nl)) (getV_full _) p rfl rfl ?_)
          | (rw [← HDN.out]; refine wpList_buildS1 rfl (.tmp 24) rfl (dnode t nl) rfl ?_)
          | (have R5 : Hid (w4.ownsRow w.heap.size 51 49 (.slice a NL cc) NL (flatN nl)) := by
               have := row_turns G1.out.row R4.out.1 hBlt
               rw [HNLe.out] at this
               exact this
             have hle : w.heap.size ≤ w4.heap.size := (G1.out.turns.trans R4.out.1).size
             at_builtin; refine wpList_append_rows _ rfl (.tmp 20) (.tmp 25) 22 rfl 51 i0 _ 49 384 Try.underlying22 hi hz0 hz1 hz2 (by kernel_rfl) (by decide) w.heap.size 0 (.slice a NL cc) NL (flatN nl) rfl (R5.out.alloc _) (.slice (some ⟨w4.heap.size, 0, none⟩) 1 1) 1 (flatN [dnode t nl]) rfl (new_rowN w4 (dnode t nl) 0 (Nat.zero_le _)) (flatN_one _) (by have := HNL.out; unfold maxLen; omega) (by have := HNL.out; omega) (by simp; omega) ?_
             intro v6 w6 ho6 hg6 hat6
             have B6 : Hid (Below w.heap.size w4 w6) := Below.grown (Below.alloc (Below.refl _ w4) hle _) hg6 (by simp; omega) (fun j hj => (R5.out.lt j hj).1)
             have R6 : Hid (w6.ownsRow w.heap.size 51 49 v6 (nl ++ [dnode t nl]).length (flatN (nl ++ [dnode t nl]))) := by
               unfold Hid
               rw [List.length_append, HNLe.out, flatN_append]
               exact ho6
             clear ho6 hg6 hat6 hle R5))
        refine ⟨⟨U, getE (rst t nl), nl ++ [dnode t nl], HU2.out, rfl, R6.out, Moves.newer (G1.out.turns.trans R4.out.1) B6.out, IS.keeps R4.out.2 (fun k hk => B6.out.block k (HK.out k hk)), HDS.out, HSM.out⟩, ?_⟩
        have := HU.out
        simp [intOf]; omega
      · rw [hbad] at HB
        go_wp2_with (go_at_call 51; refine HB.out.mono ?_; clear HB; rintro e w2 ⟨rfl, rfl⟩)
        go_ret
        have e := G1.out.same
        rw [decN_bad _ _ hbad] at e
        rw [← e]
        exact ⟨_, rfl, G1.out.row, G1.out.turns, G1.out.self⟩
end Go.Proofs.Ythphmhcgnkoigaa
