/- Texts of the proof, merged: KinEnds, Shaped, FormedT, WithinT, RefFormedT. -/
import Derived.Test.YtngeaigkafamiaaGreatM35
import Derived.Test.YtngeaigkafamiaaGreatM1
import Derived.Test.YtngeaigkafamiaaGreatM4
import Derived.Test.YtngeaigkafamiaaGreatM3
namespace Go.Proofs.YtngeaigkafamiaaGreat
open Go.ChangeShapes Go.WideShapes Go.ChangeAt Go.RowKit
set_option maxRecDepth 100000
def EndInv (l : List Nd) (j : Nat) (E : Nat → Nat) : Prop := ∀ m, m < l.length → m + 1 ≤ E m ∧ E m ≤ endN l m ∧ ∀ c, j < c → c < l.length → (nd l c).p = m → endN l c ≤ E m
def moveE (E : Nat → Nat) (q j : Nat) (m : Nat) : Nat := if m = q then max (E q) (E j) else E m
theorem ends_first (l : List Nd) (j : Nat) (hj : l.length ≤ j + 1) : EndInv l j E0 := fun m hm => ⟨Nat.le_refl _, by have := end_low hm; unfold E0; omega, fun c h1 h2 _ => by omega⟩
section
variable {l : List Nd} (h : FormedT l)
include h
theorem ends_known {j : Nat} {E : Nat → Nat} (hE : EndInv l j E) {m : Nat} (hj : j ≤ m) (hm : m < l.length) : E m = endN l m := by
  obtain ⟨h1, h2, h3⟩ := hE m hm
  have := end_of_kids h hm h1 fun c hc hl hp => h3 c (by omega) hl hp
  omega
theorem ends_step {j q : Nat} {E : Nat → Nat} (hE : EndInv l j E) (h0 : 0 < j) (hj : j < l.length) (hp : (nd l j).p = q) : EndInv l (j - 1) (moveE E q j) := by
  have hq : q < j := by have := (par_lt h hj).2; omega
  have e1 := ends_known h hE (Nat.le_refl j) hj
  have e2 := end_kid_le h hj (by omega) hp
  intro m hm
  obtain ⟨h1, h2, h3⟩ := hE m hm
  unfold moveE
  by_cases hmq : m = q
  · subst hmq
    rw [if_pos rfl]
    refine ⟨by omega, by omega, fun c hc hl hpc => ?_⟩
    rcases Nat.lt_or_ge j c with hjc | hjc
    · have := h3 c hjc hl hpc
      omega
    · obtain rfl : c = j := by omega
      omega
  · rw [if_neg hmq]
    refine ⟨h1, h2, fun c hc hl hpc => ?_⟩
    rcases Nat.lt_or_ge j c with hjc | hjc
    · exact h3 c hjc hl hpc
    · obtain rfl : c = j := by omega
      omega
end
theorem plE_move (l : List Nd) (E : Nat → Nat) (q j : Nat) : places l (moveE E q j) = (places l E).set q ⟨(nd l q).p, ((max (E q) (E j) : Nat) : Int), deep l q, madeB l q, outB l q⟩ := by
  apply List.ext_getElem?
  intro i
  rw [List.getElem?_set]
  unfold places
  rw [List.getElem?_map, List.getElem?_map]
  rcases Nat.lt_or_ge i l.length with hi | hi
  · rw [List.getElem?_range hi]
    by_cases hiq : q = i
    · subst hiq
      rw [if_pos rfl, if_pos (by simpa using hi)]
      simp only [Option.map_some, plE, moveE, if_true]
    · rw [if_neg hiq]
      simp only [Option.map_some, plE, moveE]
      rw [if_neg fun h => hiq h.symm]
  · rw [List.getElem?_eq_none (by simpa using hi)]
    split
    · rw [if_neg (by simp; omega)]; rfl
    · rfl
theorem set_stop (Q : List Pl) {i : Nat} (hi : i < Q.length) (e : Int) : (Q.flatMap pll).set (i * 5 + 1) (.int .i64 e) = (Q.set i ⟨Q[i].par, e, Q[i].deep, Q[i].made, Q[i].out⟩).flatMap pll := by
  have e1 := fl_split (enc := pll) Q hi
  have e2 := fl_split (enc := pll) (Q.set i ⟨Q[i].par, e, Q[i].deep, Q[i].made, Q[i].out⟩) (i := i) (by rw [List.length_set]; exact hi)
  rw [List.getElem_set_self, List.take_set_of_le (Nat.le_refl i), List.drop_set_of_lt (by omega)] at e2
  rw [e1, e2]
  have hl : ((Q.take i).flatMap pll).length = i * 5 := by rw [fl_len pll_length, List.length_take, Nat.min_eq_left (by omega)]
  rw [List.set_append_right _ _ (by omega), hl]
  congr 1
  rw [show i * 5 + 1 - i * 5 = 1 by omega]
  rfl
theorem places_get {l : List Nd} {E : Nat → Nat} {n : Nat} (h : n < (places l E).length) : (places l E)[n] = plE l E n := by
  have h1 : (places l E)[n]? = some (plE l E n) := by
    unfold places
    rw [List.getElem?_map, List.getElem?_range (by rw [places_length] at h; exact h)]; rfl
  rw [List.getElem?_eq_getElem h] at h1
  exact Option.some.inj h1
theorem KQ.move {w : World} {B G H n : Nat} {X l : List Nd} {E : Nat → Nat} (h : KQ w B G H n X (places l E)) (hne : H ≠ B ∧ H ≠ G) {q j : Nat} (hq : q < l.length) : KQ (w.setCell ⟨H, q * 5 + 1, none⟩ (.int .i64 (max (E q) (E j) : Nat))) B G H n X (places l (moveE E q j)) := by
  refine ⟨(Below.heap_setCell w ⟨H, q * 5 + 1, none⟩ _ _ (Ne.symm hne.1)).trans h.obj, (Below.heap_setCell w ⟨H, q * 5 + 1, none⟩ _ _ (Ne.symm hne.2)).trans h.sty, ?_⟩
  refine Hs.set h.pls _ _ ?_
  rw [set_stop _ (by rw [places_length]; exact hq), plE_move, places_get]
  rfl
theorem KQ.apart {w : World} {B G H n : Nat} {X : List Nd} {Q : List Pl} (h : KQ w B G H n X Q) : H ≠ B ∧ H ≠ G := by
  constructor
  · intro e
    have h1 := h.pls
    rw [e, h.obj] at h1
    simp at h1
  · intro e
    have h1 := h.pls
    rw [e, h.sty] at h1
    simp at h1
set_option maxHeartbeats 4000000 in
theorem moveEnds_any (B G H n : Nat) (l : List Nd) (w : World) (h : KQ w B G H n l (places l E0)) (hf : FormedT l) (hl : l.length = n) (hn : n ≤ 65535) :
    Calls Tryz.prog 17 #[.pointer (some ⟨B, 0, none⟩)] w fun e w' => e = .returned (.tuple #[]) ∧ KQ w' B G H n l (places l (endN l)) ∧ Turns H w w' := by
  have HF := Lib.hid hf
  have HL := Lib.hid hl
  have HA := Lib.hid h.apart
  have h0 : 0 < n := by have := hf.1; omega
  have HK := Lib.hid h
  obtain ⟨_, c1⟩ := h.objs
  clear h hf hl
  obtain ⟨t, ht⟩ : ∃ t : Nat, n = t + 1 := ⟨n - 1, by omega⟩
  have hnt : (n : Int) - 1 = (t : Int) := by omega
  have htn : t < n := by omega
  have htl : Hid (n ≤ t + 1) := Nat.le_of_eq ht
  clear ht
  go_enter Tryz.func17, Tryz.ntmps17
  go_wp2_with fail
  go_loopw [2] (fun x wr => ∃ (j : Nat) (E : Nat → Nat), x = .int .i64 j ∧ j < n ∧ KQ wr B G H n l (places l E) ∧ EndInv l j E ∧ Turns H w wr) (fun x _ => (intOf x).toNat)
  case atStart => exact ⟨t, E0, rfl, htn, HK.out, ends_first l t (by have := HL.out; have := htl.out; omega), Moves.refl _ _⟩
  case round =>
    obtain ⟨j, E, rfl, hj, hk, hE, ht'⟩ := hrel
    have K1 := Lib.hid hk
    have E1 := Lib.hid hE
    have T1 := Lib.hid ht'
    obtain ⟨_, d1⟩ := hk.objs
    have hfz : ∀ o, wr.frozen? ⟨H, o, none⟩ = false := fun o => by simp [World.frozen?, hk.pls]
    clear hE ht'
    by_cases hj0 : 0 < j
    · obtain ⟨q, hq⟩ := Int.eq_ofNat_of_zero_le (a := (nd l j).p) (par_bel HF.out hj0 (by have := HL.out; omega)).1
      have hqj : q < j := by have := (par_lt HF.out (i := j) (by have := HL.out; omega)).2; omega
      have HQ := Lib.hid hq
      have pj := hk.place (i := j) (by rw [places_length, HL.out]; exact hj)
      have pq := hk.place (i := q) (by rw [places_length, HL.out]; omega)
      rw [places_at (by rw [HL.out]; exact hj)] at pj
      rw [places_at (by rw [HL.out]; omega)] at pq
      have j0 : wr.cell? ⟨H, j * 5, none⟩ = some (.int .i64 (q : Int)) := by rw [← hq]; exact pj 0 _ rfl
      have j1 : wr.cell? ⟨H, j * 5 + 1, none⟩ = some (.int .i64 (E j : Int)) := pj 1 _ rfl
      have q1 : wr.cell? ⟨H, q * 5 + 1, none⟩ = some (.int .i64 (E q : Int)) := pq 1 _ rfl
      have hj' : (j : Int) < (n : Int) := by omega
      have hq' : (q : Int) < (n : Int) := by omega
      have hjp : (j : Int) > 0 := by omega
      have KM : Hid (∀ w' : World, w'.heap = wr.heap → KQ (w'.setCell ⟨H, q * 5 + 1, none⟩ (.int .i64 (max (E q) (E j) : Nat))) B G H n l (places l (moveE E q j))) := fun w' h' => (hk.keeps (w' := w') (by rw [h']) (by rw [h']) (by rw [h'])).move HA.out (by rw [HL.out]; omega)
      have EM : Hid (EndInv l (j - 1) (moveE E q j)) := ends_step HF.out E1.out hj0 (by rw [HL.out]; exact hj) HQ.out
      obtain ⟨a, ha⟩ : ∃ a, E j = a := ⟨_, rfl⟩
      obtain ⟨b, hb⟩ : ∃ b, E q = b := ⟨_, rfl⟩
      rw [ha] at j1
      rw [hb] at q1
      rw [ha, hb] at KM
      clear hk pj pq hq ha hb
      obtain ⟨j', hj1⟩ : ∃ j', j = j' + 1 := ⟨j - 1, by omega⟩
      have hjm : (j : Int) - 1 = (j' : Int) := by omega
      have hj2 : Hid (j - 1 = j' ∧ j' < j) := by constructor <;> omega
      clear hj1
      go_wp2_with fail
      go_quiet (fail)
      go_wp2_with fail
      obtain ⟨V, hV⟩ : ∃ V, V = wr.drewN nq := ⟨_, rfl⟩
      have vd1 : V.cell? ⟨B, 1, none⟩ = some (.slice (some ⟨H, 0, none⟩) n n) := by rw [hV]; exact d1
      have vj1 : V.cell? ⟨H, j * 5 + 1, none⟩ = some (.int .i64 (a : Int)) := by rw [hV]; exact j1
      have vq1 : V.cell? ⟨H, q * 5 + 1, none⟩ = some (.int .i64 (b : Int)) := by rw [hV]; exact q1
      have vfz : ∀ o, V.frozen? ⟨H, o, none⟩ = false := by rw [hV]; exact hfz
      have VH : Hid (V.heap = wr.heap) := by rw [hV]; rfl
      have TV : Hid (Turns H w V) := by rw [hV]; exact Moves.newer T1.out (Go.Joins.below_draws _ _ _)
      rw [← hV]
      clear hV d1 j1 q1 hfz j0
      refine wp_region_still_tail 16 (by kernel_rfl) (by kernel_rfl) ?_
      simp only [List.take_succ_cons, List.take_zero, List.drop_succ_cons, List.drop_zero]
      still_step
      still_step
      still_step
      still_step
      still_step
      still_step
      still_step
      still_step
      still_step
      still_step
      still_step
      still_step
      still_step
      still_step
      still_step
      still_step
      refine wpStill_nil ?_
      go_wp2_with fail
      have hm : ((max b a : Nat) : Int) = if b < a then (a : Int) else (b : Int) := by split <;> omega
      have hkm := KM.out V VH.out
      rw [hm] at hkm
      refine ⟨⟨j', moveE E q j, rfl, by have := hj2.out; omega, hkm.keeps rfl rfl rfl, by rw [← hj2.out.1]; exact EM.out, ?_⟩, by have := hj2.out; simp [intOf]; omega⟩
      exact Moves.newer (TV.out.trans (Turns.set V H _ _)) (Below.drew (Below.refl _ _))
    · obtain rfl : j = 0 := by omega
      have e1 : Hid (places l E = places l (endN l)) := by
        unfold Hid places
        refine List.map_congr_left fun m hm => ?_
        have hm' := List.mem_range.1 hm
        unfold plE
        rw [ends_known HF.out E1.out (Nat.zero_le m) hm']
      clear hk
      go_wp2_with fail
      go_end0
      rw [← e1.out]
      exact ⟨rfl, K1.out, T1.out⟩
end Go.Proofs.YtngeaigkafamiaaGreat
namespace Go.Proofs.YtngeaigkafamiaaGreat
open Go.ChangeShapes Go.WideShapes Go.ChangeAt Go.RowKit
set_option maxRecDepth 100000
def ShapedP (l : List Nd) : Prop := 0 < l.length ∧ ∀ i, i < l.length → okAt l i
instance (l : List Nd) : Decidable (ShapedP l) := by unfold ShapedP; infer_instance
def shapedB (l : List Nd) : Bool := decide (ShapedP l)
theorem shaped_no {l : List Nd} (h : ¬ ShapedP l) : false = shapedB l := (decide_eq_false h).symm
theorem okAt_above (l : List Nd) {i : Nat} (h : 0 < i) : okAt l i ↔ (0 ≤ (nd l i).p ∧ aboveB l (nd l i).p ((i : Int) - 1) = true) := by
  rw [okAtS l h]; unfold aboveB; rw [beq_iff_eq]
set_option maxHeartbeats 4000000 in
theorem shaped_any (ad : Option Addr) (n c : Nat) (l : List Nd) (w : World) (h : NS w ad n l) (hn : n ≤ 1099511627776) :
    Calls Tryz.prog 34 #[.slice ad n c] w fun e w' => e = .returned (.bool (shapedB l)) ∧ w' = w := by
  have HN : Hid (l.length = n) := h.1
  have HS := Lib.hid h
  rcases Nat.eq_zero_or_pos n with h0 | h0
  · subst h0
    clear h
    go_enter Tryz.func34, Tryz.ntmps34
    go_wp2_with fail
    go_ret
    exact ⟨ret_bool (shaped_no fun h => by have := h.1; have := HN.out; omega), rfl⟩
  · obtain ⟨b, off, rfl, hc⟩ := h.pars h0
    have c0 := hc 0 h0
    rw [Nat.zero_mul, Nat.add_zero] at c0
    have HC := Lib.hid hc
    have hn0 : ((n : Int) == 0) = false := by simp; omega
    obtain ⟨P0, hP0⟩ : ∃ P0, (nd l 0).p = P0 := ⟨_, rfl⟩
    rw [hP0] at c0
    have HP0 := Lib.hid hP0
    clear h hc hP0
    cases hq0 : (P0 == -1)
    · go_enter Tryz.func34, Tryz.ntmps34
      go_wp2_with fail
      go_ret
      refine ⟨ret_bool (shaped_no fun h => ?_), rfl⟩
      have := (okAt0 l).1 (h.2 0 (by have := HN.out; omega))
      rw [HP0.out] at this
      simp at hq0
      omega
    · obtain rfl : P0 = -1 := by simpa using hq0
      clear hq0
      go_enter Tryz.func34, Tryz.ntmps34
      go_wp2_with fail
      go_loopw [3] (fun i wr => ∃ k : Nat, 1 ≤ k ∧ k ≤ n ∧ i = .int .i64 k ∧ wr = w ∧ ∀ j, j < k → okAt l j) (fun i _ => n - (intOf i).toNat)
      case atStart =>
        refine ⟨1, Nat.le_refl _, h0, rfl, rfl, fun j hj => ?_⟩
        obtain rfl : j = 0 := by omega
        rw [okAt0, HP0.out]
      case round =>
        obtain ⟨k, hk1, hkn, rfl, rfl, hall⟩ := hrel
        have HA := Lib.hid hall
        clear hall
        by_cases hlt : k < n
        · have hk' : (k : Int) < (n : Int) := by omega
          have ck := HC.out k hlt
          obtain ⟨P, hP⟩ : ∃ P, (nd l k).p = P := ⟨_, rfl⟩
          rw [hP] at ck
          have HL : Hid (Low l k) := low_of (by have := HN.out; omega) HA.out
          have HK : Hid (okAt l k ↔ (0 ≤ P ∧ aboveB l P ((k : Int) - 1) = true)) := by
            have := okAt_above l (i := k) hk1
            rw [hP] at this
            exact this
          clear hP
          by_cases hp0 : P < 0
          · go_wp2_with fail
            go_ret
            exact ⟨ret_bool (shaped_no fun h => by have := (HK.out.1 (h.2 k (by have := HN.out; omega))).1; omega), rfl⟩
          · by_cases hpk : (k : Int) ≤ P
            · go_wp2_with fail
              go_ret
              refine ⟨ret_bool (shaped_no fun h => ?_), rfl⟩
              have h1 := HK.out.1 (h.2 k (by have := HN.out; omega))
              have h2 := h1.2
              unfold aboveB at h2
              rw [beq_iff_eq] at h2
              have h3 := (HL.out.up (m := (k : Int) - 1) (by omega) (by omega) (stepsTo l ((k : Int) - 1) P)).2.1
              omega
            · obtain ⟨m, hm⟩ : ∃ m : Int, (k : Int) - 1 = m := ⟨_, rfl⟩
              have hm0 : 0 ≤ m := by omega
              have hmn : m < n := by omega
              have hmk : m.toNat + 1 = k := by omega
              rw [hm] at HK
              have HAB := Lib.hid (above_any (some ⟨b, off, none⟩) n c l P m wr HS.out (by omega) hm0 hmn hn (HL.out.less (by omega)))
              cases hb : aboveB l P m
              · rw [hb] at HAB
                go_wp2_with (go_at_call 60; refine HAB.out.mono ?_; rintro e w1 ⟨rfl, rfl⟩)
                go_ret
                exact ⟨ret_bool (shaped_no fun h => by have := (HK.out.1 (h.2 k (by have := HN.out; omega))).2; rw [hb] at this; cases this), rfl⟩
              · rw [hb] at HAB
                go_wp2_with (go_at_call 60; refine HAB.out.mono ?_; rintro e w1 ⟨rfl, rfl⟩)
                refine ⟨⟨k + 1, by omega, by omega, by go_num, trivial, fun j hj => ?_⟩, by simp [intOf]; omega⟩
                rcases Nat.lt_or_ge j k with h | h
                · exact HA.out j h
                · obtain rfl : j = k := by omega
                  exact HK.out.2 ⟨by omega, hb⟩
        · have hk' : ¬ (k : Int) < (n : Int) := by omega
          obtain rfl : k = n := by omega
          go_wp2_with fail
          go_ret
          exact ⟨ret_bool (Eq.symm (decide_eq_true ⟨by have := HN.out; omega, fun i hi => HA.out i (by have := HN.out; omega)⟩)), rfl⟩
end Go.Proofs.YtngeaigkafamiaaGreat
namespace Go.Proofs.YtngeaigkafamiaaGreat
open Go.ChangeShapes Go.WideShapes Go.ChangeAt Go.RowKit
set_option maxRecDepth 100000
theorem formedT_no {l : List Nd} (h : ¬ FormedT l) : false = formedT l := (decide_eq_false h).symm
set_option maxHeartbeats 8000000 in
theorem formedTree_any (ad : Option Addr) (n c : Nat) (l : List Nd) (w : World) (h : NS w ad n l) (hn : n ≤ 1099511627776) :
    Calls Tryz.prog 37 #[.slice ad n c] w fun e w' => e = .returned (.bool (formedT l)) ∧ Seen w w' := by
  have HN : Hid (l.length = n) := h.1
  have HS := Lib.hid h
  rcases Nat.eq_zero_or_pos n with h0 | h0
  · subst h0
    clear h
    go_enter Tryz.func37, Tryz.ntmps37
    go_wp2_with fail
    go_loopw [9] (fun i wr => i = .int .i64 0 ∧ wr = w) (fun _ _ => 0)
    case atStart => exact ⟨rfl, rfl⟩
    case round =>
      obtain ⟨rfl, rfl⟩ := hrel
      go_wp2_with fail
      go_ret
      exact ⟨ret_bool (formedT_no fun h => by have := h.1; have := HN.out; omega), Seen.refl _⟩
  · obtain ⟨b, off, rfl, hc⟩ := h.ats h0
    have HC := Lib.hid hc
    clear h hc
    go_enter Tryz.func37, Tryz.ntmps37
    go_wp2_with fail
    go_loopw [9] (fun i wr => ∃ k : Nat, k ≤ n ∧ i = .int .i64 k ∧ Seen w wr ∧ ∀ j, j < k → okAt l j ∧ formedB (nd l j).s = true) (fun i _ => n - (intOf i).toNat)
    case atStart => exact ⟨0, Nat.zero_le _, rfl, Seen.refl _, fun j hj => absurd hj (by omega)⟩
    case round =>
      obtain ⟨k, hk, rfl, hs, hall⟩ := hrel
      have S1 := Lib.hid hs
      have HA := Lib.hid hall
      clear hs hall
      by_cases hlt : k < n
      · have hk' : (k : Int) < (n : Int) := by omega
        have HL : Hid (Low l k) := low_of (by have := HN.out; omega) fun i hi => (HA.out i hi).1
        have A1 : Hid (At wr b (off + k * 49) (nd l k)) := (HC.out k hlt).seen S1.out
        have HST : Hid (∀ w', Seen w w' → Calls Tryz.prog 61 #[.slice (some ⟨b, off, none⟩) n c, .int .i64 k] w' fun e w'' => e = .returned (.tuple #[.int .i64 (stepsV l k : Nat), .bool (decide (okAt l k))]) ∧ w'' = w') := fun w' h' => stepsUp_any _ n c l k w' (HS.out.seen h') hlt hn HL.out
        obtain ⟨V, hV⟩ : ∃ V, V = wr.alloc (.cells (ndl zeroN).toArray 69) := ⟨_, rfl⟩
        have HZ : Hid (Hn V wr.heap.size zeroN) := by rw [hV]; exact hn_new wr zeroN
        have HVS : Hid (∀ w2, Turns wr.heap.size V w2 → Seen w w2) := by rw [hV]; exact fun w2 h2 => S1.out.fresh h2
        cases hok : decide (okAt l k)
        · rw [hok] at HST
          go_wp2_with (first
            | (refine wpList_loadN rfl (.tmp 12) rfl b (off + k * 49) (nd l k) rfl A1.out ?_; clear A1)
            | (rw [zeroN_lit, ← hV]; clear hV; refine wpList_storeN rfl (.tmp 4) (.tmp 13) rfl wr.heap.size zeroN (nd l k) rfl rfl HZ.out ?_; intro w2 h2 t2; have R2 := Lib.hid (And.intro h2 (HVS.out w2 t2)); clear h2 t2)
            | (go_at_call 61; refine (HST.out w2 R2.out.2).mono ?_; clear HST; rintro e w3 ⟨rfl, rfl⟩))
          go_ret
          exact ⟨ret_bool (formedT_no fun h => of_decide_eq_false hok (h.2 k (by have := HN.out; omega)).1), R2.out.2⟩
        · rw [hok] at HST
          have HFM := Lib.hid (formed_any (nd l k).s (nd l k).full)
          cases hfm : formedB (nd l k).s
          all_goals
            rw [hfm] at HFM
            go_wp2_with (first
              | (refine wpList_loadN rfl (.tmp 12) rfl b (off + k * 49) (nd l k) rfl A1.out ?_; clear A1)
              | (rw [zeroN_lit, ← hV]; clear hV; refine wpList_storeN rfl (.tmp 4) (.tmp 13) rfl wr.heap.size zeroN (nd l k) rfl rfl HZ.out ?_; intro w2 h2 t2; have R2 := Lib.hid (And.intro h2 (HVS.out w2 t2)); clear h2 t2 HZ)
              | (go_at_call 61; refine (HST.out w2 R2.out.2).mono ?_; clear HST; rintro e w3 ⟨rfl, rfl⟩)
              | (refine wpList_loadNSg ?_ (.tmp 23) rfl wr.heap.size 0 (nd l k) rfl R2.out.1.at ?_; focus (go_simp; done))
              | (go_at_call 62; refine (HFM.out w3).mono ?_; clear HFM; rintro e w4 ⟨rfl, hs4⟩; have S4 := Lib.hid (R2.out.2.trans hs4); clear hs4))
          · go_ret
            exact ⟨ret_bool (formedT_no fun h => by have := (h.2 k (by have := HN.out; omega)).2; rw [hfm] at this; cases this), S4.out⟩
          · refine ⟨⟨k + 1, by omega, by go_num, S4.out, fun j hj => ?_⟩, by simp [intOf]; omega⟩
            rcases Nat.lt_or_ge j k with h | h
            · exact HA.out j h
            · obtain rfl : j = k := by omega
              exact ⟨of_decide_eq_true hok, hfm⟩
      · have hk' : ¬ (k : Int) < (n : Int) := by omega
        obtain rfl : k = n := by omega
        have hk0 : (k : Int) > 0 := by omega
        go_wp2_with fail
        go_ret
        exact ⟨ret_bool (Eq.symm (decide_eq_true ⟨by have := HN.out; omega, fun i hi => HA.out i (by have := HN.out; omega)⟩)), S1.out⟩
end Go.Proofs.YtngeaigkafamiaaGreat
namespace Go.Proofs.YtngeaigkafamiaaGreat
open Go.ChangeShapes Go.WideShapes Go.ChangeAt Go.RowKit
set_option maxRecDepth 100000
theorem withinT_no {l : List Nd} (h : ¬ WithinT l) : false = withinT l := (decide_eq_false h).symm
def depthAt (l : List Nd) (k : Nat) : Int := if k = 0 then 0 else deep l ((k : Int) - 1)
theorem depth_next {l : List Nd} (hf : FormedT l) {k : Nat} (hk : k < l.length) : depthAt l k + (1 - (stepsV l k : Int)) = deep l k ∧ 0 ≤ depthAt l k ∧ depthAt l k ≤ k ∧ stepsV l k ≤ k := by
  have hl : Low l (k + 1) := hf.low.less (by omega)
  have hok := (hf.2 k hk).1
  unfold depthAt stepsV
  rcases Nat.eq_zero_or_pos k with h0 | h0
  · subst h0
    rw [if_pos rfl, if_pos rfl, deep_zero hk hok]
    omega
  · rw [if_neg (by omega), if_neg (by omega), if_neg (by have := (ok_pos h0 hok).1; omega)]
    obtain ⟨h1, h2⟩ := deep_next h0 hk hl hok
    have h3 := deep_le (m := (k : Int) - 1) (n := k + 1) (by omega) hl (by omega) (by omega)
    omega
theorem depthAt_succ (l : List Nd) (k : Nat) : depthAt l (k + 1) = deep l k := by
  unfold depthAt
  rw [if_neg (by omega), show ((k + 1 : Nat) : Int) - 1 = k by omega]
set_option maxHeartbeats 8000000 in
theorem withinTree_any (ad : Option Addr) (n c : Nat) (l : List Nd) (w : World) (h : NS w ad n l) (hn : n ≤ 1099511627776) (hf : FormedT l) :
    Calls Tryz.prog 38 #[.slice ad n c] w fun e w' => e = .returned (.bool (withinT l)) ∧ Seen w w' := by
  have HN : Hid (l.length = n) := h.1
  have HS := Lib.hid h
  have HF := Lib.hid hf
  have h0 : 0 < n := by have := hf.1; have := HN.out; omega
  obtain ⟨b, off, rfl, hc⟩ := h.ats h0
  have HC := Lib.hid hc
  clear h hc hf
  by_cases hbig : (n : Int) > 65535
  · go_enter Tryz.func38, Tryz.ntmps38
    go_wp2_with fail
    go_ret
    exact ⟨ret_bool (withinT_no fun h => by have := h.1; have := HN.out; omega), Seen.refl _⟩
  · go_enter Tryz.func38, Tryz.ntmps38
    go_wp2_with fail
    go_loopw [3, 13] (fun d i wr => ∃ k : Nat, k ≤ n ∧ d = .int .i64 (depthAt l k) ∧ i = .int .i64 k ∧ Seen w wr ∧ ∀ j, j < k → deep l j ≤ 256 ∧ withinB (nd l j).s = true) (fun _ i _ => n - (intOf i).toNat)
    case atStart => exact ⟨0, Nat.zero_le _, rfl, rfl, Seen.refl _, fun j hj => absurd hj (by omega)⟩
    case round =>
      obtain ⟨k, hk, rfl, rfl, hs, hall⟩ := hrel
      have S1 := Lib.hid hs
      have HA := Lib.hid hall
      clear hs hall
      by_cases hlt : k < n
      · have hk' : (k : Int) < (n : Int) := by omega
        have HL : Hid (Low l k) := HF.out.low.less (by have := HN.out; omega)
        have A1 : Hid (At wr b (off + k * 49) (nd l k)) := (HC.out k hlt).seen S1.out
        obtain ⟨hd1, hd2, hd3, hd4⟩ := depth_next HF.out (k := k) (by have := HN.out; omega)
        have HST : Hid (∀ w', Seen w w' → Calls Tryz.prog 61 #[.slice (some ⟨b, off, none⟩) n c, .int .i64 k] w' fun e w'' => e = .returned (.tuple #[.int .i64 (stepsV l k : Nat), .bool (decide (okAt l k))]) ∧ w'' = w') := fun w' h' => stepsUp_any _ n c l k w' (HS.out.seen h') hlt hn HL.out
        obtain ⟨T, hT⟩ : ∃ T, stepsV l k = T := ⟨_, rfl⟩
        obtain ⟨D, hD⟩ : ∃ D, depthAt l k = D := ⟨_, rfl⟩
        obtain ⟨E, hE⟩ : ∃ E, deep l k = E := ⟨_, rfl⟩
        rw [hT] at HST hd1 hd4
        rw [hD] at hd1 hd2 hd3
        rw [hE] at hd1
        rw [hD]
        have HE := Lib.hid hE
        clear hT hD hE
        obtain ⟨okb, hokb⟩ : ∃ okb, decide (okAt l k) = okb := ⟨_, rfl⟩
        rw [hokb] at HST
        clear hokb
        obtain ⟨V, hV⟩ : ∃ V, V = wr.alloc (.cells (ndl zeroN).toArray 69) := ⟨_, rfl⟩
        have HZ : Hid (Hn V wr.heap.size zeroN) := by rw [hV]; exact hn_new wr zeroN
        have HVS : Hid (∀ w2, Turns wr.heap.size V w2 → Seen w w2) := by rw [hV]; exact fun w2 h2 => S1.out.fresh h2
        by_cases hE256 : (E : Int) > 256
        · go_wp2_with (first
            | (refine wpList_loadN rfl (.tmp 16) rfl b (off + k * 49) (nd l k) rfl A1.out ?_; clear A1)
            | (rw [zeroN_lit, ← hV]; clear hV; refine wpList_storeN rfl (.tmp 5) (.tmp 17) rfl wr.heap.size zeroN (nd l k) rfl rfl HZ.out ?_; intro w2 h2 t2; have R2 := Lib.hid (And.intro h2 (HVS.out w2 t2)); clear h2 t2 HZ)
            | (go_at_call 61; refine (HST.out w2 R2.out.2).mono ?_; clear HST; rintro e w3 ⟨rfl, rfl⟩))
          go_ret
          exact ⟨ret_bool (withinT_no fun h => by have := (h.2 k (by have := HN.out; omega)).1; rw [HE.out] at this; omega), R2.out.2⟩
        · have HFM := Lib.hid (styWithin_any (nd l k).s (nd l k).full)
          cases hfm : withinB (nd l k).s
          all_goals
            rw [hfm] at HFM
            go_wp2_with (first
              | (refine wpList_loadN rfl (.tmp 16) rfl b (off + k * 49) (nd l k) rfl A1.out ?_; clear A1)
              | (rw [zeroN_lit, ← hV]; clear hV; refine wpList_storeN rfl (.tmp 5) (.tmp 17) rfl wr.heap.size zeroN (nd l k) rfl rfl HZ.out ?_; intro w2 h2 t2; have R2 := Lib.hid (And.intro h2 (HVS.out w2 t2)); clear h2 t2 HZ)
              | (go_at_call 61; refine (HST.out w2 R2.out.2).mono ?_; clear HST; rintro e w3 ⟨rfl, rfl⟩)
              | (refine wpList_loadNSg ?_ (.tmp 31) rfl wr.heap.size 0 (nd l k) rfl R2.out.1.at ?_; focus (go_simp; done))
              | (go_at_call 63; refine (HFM.out w3).mono ?_; clear HFM; rintro e w4 ⟨rfl, hs4⟩; have S4 := Lib.hid (R2.out.2.trans hs4); clear hs4))
          · go_ret
            exact ⟨ret_bool (withinT_no fun h => by have := (h.2 k (by have := HN.out; omega)).2; rw [hfm] at this; cases this), S4.out⟩
          · refine ⟨⟨k + 1, by omega, ?_, by go_num, S4.out, fun j hj => ?_⟩, by simp [intOf]; omega⟩
            · rw [depthAt_succ, HE.out]
            · rcases Nat.lt_or_ge j k with h | h
              · exact HA.out j h
              · obtain rfl : j = k := by omega
                exact ⟨by rw [HE.out]; omega, hfm⟩
      · have hk' : ¬ (k : Int) < (n : Int) := by omega
        obtain rfl : k = n := by omega
        go_wp2_with fail
        go_ret
        exact ⟨ret_bool (Eq.symm (decide_eq_true ⟨by have := HN.out; omega, fun i hi => HA.out i (by have := HN.out; omega)⟩)), S1.out⟩
end Go.Proofs.YtngeaigkafamiaaGreat
namespace Go.Proofs.YtngeaigkafamiaaGreat
open Go.ChangeShapes Go.WideShapes Go.ChangeAt Go.RowKit
set_option maxRecDepth 100000
set_option maxHeartbeats 8000000 in
theorem refFormedT_any (ad : Option Addr) (n c : Nat) (l : List Nd) (w : World) (h : NS w ad n l) (hn : n ≤ 1099511627776) :
    Calls Tryz.prog 12 #[.slice ad n c] w fun e w' => e = .returned (.bool (formedT l)) ∧ Seen w w' := by
  have HN : Hid (l.length = n) := h.1
  have HSH := Lib.hid (shaped_any ad n c l w h hn)
  cases hsh : shapedB l
  · rw [hsh] at HSH
    clear h
    go_enter Tryz.func12, Tryz.ntmps12
    go_wp2_with (go_at_call 34; refine HSH.out.mono ?_; clear HSH; rintro e w1 ⟨rfl, rfl⟩)
    go_ret
    exact ⟨ret_bool (formedT_no fun h => of_decide_eq_false hsh ⟨h.1, fun i hi => (h.2 i hi).1⟩), Seen.refl _⟩
  · rw [hsh] at HSH
    have hsp : ShapedP l := of_decide_eq_true hsh
    have h0 : 0 < n := by have := hsp.1; have := HN.out; omega
    have HSP := Lib.hid hsp
    obtain ⟨b, off, rfl, hc⟩ := h.ats h0
    have HC := Lib.hid hc
    clear h hc hsp hsh
    go_enter Tryz.func12, Tryz.ntmps12
    go_wp2_with (go_at_call 34; refine HSH.out.mono ?_; clear HSH; rintro e w1 ⟨rfl, rfl⟩)
    go_loopw [9] (fun i wr => ∃ k : Nat, k ≤ n ∧ i = .int .i64 k ∧ Seen w1 wr ∧ ∀ j, j < k → formedB (nd l j).s = true) (fun i _ => n - (intOf i).toNat)
    case atStart => exact ⟨0, Nat.zero_le _, rfl, Seen.refl _, fun j hj => absurd hj (by omega)⟩
    case round =>
      obtain ⟨k, hk, rfl, hs, hall⟩ := hrel
      have S1 := Lib.hid hs
      have HA := Lib.hid hall
      clear hs hall
      by_cases hlt : k < n
      · have hk' : (k : Int) < (n : Int) := by omega
        have A1 : Hid (At wr b (off + k * 49) (nd l k)) := (HC.out k hlt).seen S1.out
        have HFM := Lib.hid (refFormed_any (nd l k).s (nd l k).full)
        cases hfm : formedB (nd l k).s
        all_goals
          rw [hfm] at HFM
          go_wp2_with (first
            | (refine wpList_loadNS rfl (.tmp 15) rfl b (off + k * 49) (nd l k) rfl A1.out ?_; clear A1)
            | (go_at_call 35; refine (HFM.out wr).mono ?_; clear HFM; rintro e w4 ⟨rfl, hs4⟩; have S4 := Lib.hid (S1.out.trans hs4); clear hs4))
        · go_ret
          exact ⟨ret_bool (formedT_no fun h => by have := (h.2 k (by have := HN.out; omega)).2; rw [hfm] at this; cases this), S4.out⟩
        · refine ⟨⟨k + 1, by omega, by go_num, S4.out, fun j hj => ?_⟩, by simp [intOf]; omega⟩
          rcases Nat.lt_or_ge j k with h | h
          · exact HA.out j h
          · obtain rfl : j = k := by omega
            exact hfm
      · have hk' : ¬ (k : Int) < (n : Int) := by omega
        obtain rfl : k = n := by omega
        go_wp2_with fail
        go_ret
        exact ⟨ret_bool (Eq.symm (decide_eq_true ⟨HSP.out.1, fun i hi => ⟨HSP.out.2 i hi, HA.out i (by have := HN.out; omega)⟩⟩)), S1.out⟩
end Go.Proofs.YtngeaigkafamiaaGreat

