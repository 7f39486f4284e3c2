/- Texts of the proof, merged: KinEnds. -/
import Derived.Test.YtlnnaegmcopiiaaM24
/- Contract of moveEnds; no conditions beyond those written in each theorem. -/
namespace Go.Proofs.Ytlnnaegmcopiiaa
open Go.ChangeShapes Go.WideShapes Go.ChangeAt Go.RowKit
set_option maxRecDepth 100000
/-- What is known of the ends once all nodes behind j are done. -/
def EndInv (l : List Nd) (j : Nat) (E : Nat → Nat) : Prop := ∀ m, m < l.length → m + 1 ≤ E m ∧ E m ≤ endN l m ∧ ∀ c, j < c → c < l.length → (nd l c).p = m → endN l c ≤ E m
def moveE (E : Nat → Nat) (q j : Nat) (m : Nat) : Nat := if m = q then max (E q) (E j) else E m
theorem ends_first (l : List Nd) (j : Nat) (hj : l.length ≤ j + 1) : EndInv l j E0 := fun m hm => ⟨Nat.le_refl _, by have := end_low hm; unfold E0; omega, fun c h1 h2 _ => by omega⟩
section
variable {l : List Nd} (h : FormedT l)
include h
theorem ends_known {j : Nat} {E : Nat → Nat} (hE : EndInv l j E) {m : Nat} (hj : j ≤ m) (hm : m < l.length) : E m = endN l m := by
  obtain ⟨h1, h2, h3⟩ := hE m hm
  have := end_of_kids h hm h1 fun c hc hl hp => h3 c (by omega) hl hp
  omega
theorem ends_step {j q : Nat} {E : Nat → Nat} (hE : EndInv l j E) (h0 : 0 < j) (hj : j < l.length) (hp : (nd l j).p = q) : EndInv l (j - 1) (moveE E q j) := by
  have hq : q < j := by have := (par_lt h hj).2; omega
  have e1 := ends_known h hE (Nat.le_refl j) hj
  have e2 := end_kid_le h hj (by omega) hp
  intro m hm
  obtain ⟨h1, h2, h3⟩ := hE m hm
  unfold moveE
  by_cases hmq : m = q
  · subst hmq
    rw [if_pos rfl]
    refine ⟨by omega, by omega, fun c hc hl hpc => ?_⟩
    rcases Nat.lt_or_ge j c with hjc | hjc
    · have := h3 c hjc hl hpc
      omega
    · obtain rfl : c = j := by omega
      omega
  · rw [if_neg hmq]
    refine ⟨h1, h2, fun c hc hl hpc => ?_⟩
    rcases Nat.lt_or_ge j c with hjc | hjc
    · exact h3 c hjc hl hpc
    · obtain rfl : c = j := by omega
      omega
end
theorem plE_move (l : List Nd) (E : Nat → Nat) (q j : Nat) : places l (moveE E q j) = (places l E).set q ⟨(nd l q).p, ((max (E q) (E j) : Nat) : Int), deep l q, madeB l q, outB l q⟩ := by
  apply List.ext_getElem?
  intro i
  rw [List.getElem?_set]
  unfold places
  rw [List.getElem?_map, List.getElem?_map]
  rcases Nat.lt_or_ge i l.length with hi | hi
  · rw [List.getElem?_range hi]
    by_cases hiq : q = i
    · subst hiq
      rw [if_pos rfl, if_pos (by simpa using hi)]
      simp only [Option.map_some, plE, moveE, if_true]
    · rw [if_neg hiq]
      simp only [Option.map_some, plE, moveE]
      rw [if_neg fun h => hiq h.symm]
  · rw [List.getElem?_eq_none (by simpa using hi)]
    split
    · rw [if_neg (by simp; omega)]; rfl
    · rfl
theorem set_stop (Q : List Pl) {i : Nat} (hi : i < Q.length) (e : Int) : (Q.flatMap pll).set (i * 5 + 1) (.int .i64 e) = (Q.set i ⟨Q[i].par, e, Q[i].deep, Q[i].made, Q[i].out⟩).flatMap pll := by
  have e1 := fl_split (enc := pll) Q hi
  have e2 := fl_split (enc := pll) (Q.set i ⟨Q[i].par, e, Q[i].deep, Q[i].made, Q[i].out⟩) (i := i) (by rw [List.length_set]; exact hi)
  rw [List.getElem_set_self, List.take_set_of_le (Nat.le_refl i), List.drop_set_of_lt (by omega)] at e2
  rw [e1, e2]
  have hl : ((Q.take i).flatMap pll).length = i * 5 := by rw [fl_len pll_length, List.length_take, Nat.min_eq_left (by omega)]
  rw [List.set_append_right _ _ (by omega), hl]
  congr 1
  rw [show i * 5 + 1 - i * 5 = 1 by omega]
  rfl
theorem places_get {l : List Nd} {E : Nat → Nat} {n : Nat} (h : n < (places l E).length) : (places l E)[n] = plE l E n := by
  have h1 : (places l E)[n]? = some (plE l E n) := by
    unfold places
    rw [List.getElem?_map, List.getElem?_range (by rw [places_length] at h; exact h)]; rfl
  rw [List.getElem?_eq_getElem h] at h1
  exact Option.some.inj h1
theorem KQ.move {w : World} {B G H n : Nat} {X l : List Nd} {E : Nat → Nat} (h : KQ w B G H n X (places l E)) (hne : H ≠ B ∧ H ≠ G) {q j : Nat} (hq : q < l.length) : KQ (w.setCell ⟨H, q * 5 + 1, none⟩ (.int .i64 (max (E q) (E j) : Nat))) B G H n X (places l (moveE E q j)) := by
  refine ⟨(Below.heap_setCell w ⟨H, q * 5 + 1, none⟩ _ _ (Ne.symm hne.1)).trans h.obj, (Below.heap_setCell w ⟨H, q * 5 + 1, none⟩ _ _ (Ne.symm hne.2)).trans h.sty, ?_⟩
  refine Hs.set h.pls _ _ ?_
  rw [set_stop _ (by rw [places_length]; exact hq), plE_move, places_get]
  rfl
theorem KQ.apart {w : World} {B G H n : Nat} {X : List Nd} {Q : List Pl} (h : KQ w B G H n X Q) : H ≠ B ∧ H ≠ G := by
  constructor
  · intro e
    have h1 := h.pls
    rw [e, h.obj] at h1
    simp at h1
  · intro e
    have h1 := h.pls
    rw [e, h.sty] at h1
    simp at h1
set_option maxHeartbeats 4000000 in
theorem moveEnds_any (B G H n : Nat) (l : List Nd) (w : World) (h : KQ w B G H n l (places l E0)) (hf : FormedT l) (hl : l.length = n) (hn : n ≤ 65535) :
    Calls Try.prog 16 #[.pointer (some ⟨B, 0, none⟩)] w fun e w' => e = .returned (.tuple #[]) ∧ KQ w' B G H n l (places l (endN l)) ∧ Turns H w w' := by
  have HF := Lib.hid hf
  have HL := Lib.hid hl
  have HA := Lib.hid h.apart
  have h0 : 0 < n := by have := hf.1; omega
  have HK := Lib.hid h
  obtain ⟨_, c1⟩ := h.objs
  clear h hf hl
  obtain ⟨t, ht⟩ : ∃ t : Nat, n = t + 1 := ⟨n - 1, by omega⟩
  have hnt : (n : Int) - 1 = (t : Int) := by omega
  have htn : t < n := by omega
  have htl : Hid (n ≤ t + 1) := Nat.le_of_eq ht
  clear ht
  go_enter Try.func16, Try.ntmps16
  go_wp2_with fail
  go_loopw [2] (fun x wr => ∃ (j : Nat) (E : Nat → Nat), x = .int .i64 j ∧ j < n ∧ KQ wr B G H n l (places l E) ∧ EndInv l j E ∧ Turns H w wr) (fun x _ => (intOf x).toNat)
  case atStart => exact ⟨t, E0, rfl, htn, HK.out, ends_first l t (by have := HL.out; have := htl.out; omega), Moves.refl _ _⟩
  case round =>
    obtain ⟨j, E, rfl, hj, hk, hE, ht'⟩ := hrel
    have K1 := Lib.hid hk
    have E1 := Lib.hid hE
    have T1 := Lib.hid ht'
    obtain ⟨_, d1⟩ := hk.objs
    have hfz : ∀ o, wr.frozen? ⟨H, o, none⟩ = false := fun o => by simp [World.frozen?, hk.pls]
    clear hE ht'
    by_cases hj0 : 0 < j
    · obtain ⟨q, hq⟩ := Int.eq_ofNat_of_zero_le (a := (nd l j).p) (par_bel HF.out hj0 (by have := HL.out; omega)).1
      have hqj : q < j := by have := (par_lt HF.out (i := j) (by have := HL.out; omega)).2; omega
      have HQ := Lib.hid hq
      have pj := hk.place (i := j) (by rw [places_length, HL.out]; exact hj)
      have pq := hk.place (i := q) (by rw [places_length, HL.out]; omega)
      rw [places_at (by rw [HL.out]; exact hj)] at pj
      rw [places_at (by rw [HL.out]; omega)] at pq
      have j0 : wr.cell? ⟨H, j * 5, none⟩ = some (.int .i64 (q : Int)) := by rw [← hq]; exact pj 0 _ rfl
      have j1 : wr.cell? ⟨H, j * 5 + 1, none⟩ = some (.int .i64 (E j : Int)) := pj 1 _ rfl
      have q1 : wr.cell? ⟨H, q * 5 + 1, none⟩ = some (.int .i64 (E q : Int)) := pq 1 _ rfl
      have hj' : (j : Int) < (n : Int) := by omega
      have hq' : (q : Int) < (n : Int) := by omega
      have hjp : (j : Int) > 0 := by omega
      have KM : Hid (∀ w' : World, w'.heap = wr.heap → KQ (w'.setCell ⟨H, q * 5 + 1, none⟩ (.int .i64 (max (E q) (E j) : Nat))) B G H n l (places l (moveE E q j))) := fun w' h' => (hk.keeps (w' := w') (by rw [h']) (by rw [h']) (by rw [h'])).move HA.out (by rw [HL.out]; omega)
      have EM : Hid (EndInv l (j - 1) (moveE E q j)) := ends_step HF.out E1.out hj0 (by rw [HL.out]; exact hj) HQ.out
      obtain ⟨a, ha⟩ : ∃ a, E j = a := ⟨_, rfl⟩
      obtain ⟨b, hb⟩ : ∃ b, E q = b := ⟨_, rfl⟩
      rw [ha] at j1
      rw [hb] at q1
      rw [ha, hb] at KM
      clear hk pj pq hq ha hb
      obtain ⟨j', hj1⟩ : ∃ j', j = j' + 1 := ⟨j - 1, by omega⟩
      have hjm : (j : Int) - 1 = (j' : Int) := by omega
      have hj2 : Hid (j - 1 = j' ∧ j' < j) := by constructor <;> omega
      clear hj1
      go_wp2_with fail
      go_quiet (fail)
      go_wp2_with fail
      obtain ⟨V, hV⟩ : ∃ V, V = wr.drewN nq := ⟨_, rfl⟩
      have vd1 : V.cell? ⟨B, 1, none⟩ = some (.slice (some ⟨H, 0, none⟩) n n) := by rw [hV]; exact d1
      have vj1 : V.cell? ⟨H, j * 5 + 1, none⟩ = some (.int .i64 (a : Int)) := by rw [hV]; exact j1
      have vq1 : V.cell? ⟨H, q * 5 + 1, none⟩ = some (.int .i64 (b : Int)) := by rw [hV]; exact q1
      have vfz : ∀ o, V.frozen? ⟨H, o, none⟩ = false := by rw [hV]; exact hfz
      have VH : Hid (V.heap = wr.heap) := by rw [hV]; rfl
      have TV : Hid (Turns H w V) := by rw [hV]; exact Moves.newer T1.out (Go.Joins.below_draws _ _ _)
      rw [← hV]
      clear hV d1 j1 q1 hfz j0
      refine wp_region_still_tail 16 (by kernel_rfl) (by kernel_rfl) ?_
      simp only [List.take_succ_cons, List.take_zero, List.drop_succ_cons, List.drop_zero]
      still_step
      still_step
      still_step
      still_step
      still_step
      still_step
      still_step
      still_step
      still_step
      still_step
      still_step
      still_step
      still_step
      still_step
      still_step
      still_step
      refine wpStill_nil ?_
      go_wp2_with fail
      have hm : ((max b a : Nat) : Int) = if b < a then (a : Int) else (b : Int) := by split <;> omega
      have hkm := KM.out V VH.out
      rw [hm] at hkm
      refine ⟨⟨j', moveE E q j, rfl, by have := hj2.out; omega, hkm.keeps rfl rfl rfl, by rw [← hj2.out.1]; exact EM.out, ?_⟩, by have := hj2.out; simp [intOf]; omega⟩
      exact Moves.newer (TV.out.trans (Turns.set V H _ _)) (Below.drew (Below.refl _ _))
    · obtain rfl : j = 0 := by omega
      have e1 : Hid (places l E = places l (endN l)) := by
        unfold Hid places
        refine List.map_congr_left fun m hm => ?_
        have hm' := List.mem_range.1 hm
        unfold plE
        rw [ends_known HF.out E1.out (Nat.zero_le m) hm']
      clear hk
      go_wp2_with fail
      go_end0
      rw [← e1.out]
      exact ⟨rfl, K1.out, T1.out⟩
end Go.Proofs.Ytlnnaegmcopiiaa
