/- Contracts of at, Parent, End, Deep, Made, Out, Below and Style of a Kin; no conditions beyond those written in each theorem. -/
import Derived.Test.YtlnnaegmcopiiaaKinMem
import Derived.Test.YtlnnaegmcopiiaaAwake
namespace Go.Proofs.Ytlnnaegmcopiiaa
open Go.ChangeShapes Go.WideShapes Go.ChangeAt Go.RowKit
set_option maxRecDepth 100000
theorem KV.node {w : World} {v : Value} {l : List Nd} {n : Int} (h : KV w v l) (hb : inB l n = true) : FormedT l ∧ l.length ≤ 65535 ∧ ∃ k : Nat, k < l.length ∧ n = k ∧ ∃ B G H, v = .pointer (some ⟨B, 0, none⟩) ∧ KK w B G H l (endN l) := by
  obtain ⟨k, hk, rfl⟩ := inB_iff.1 hb
  rcases h with ⟨_, rfl⟩ | ⟨h1, h2, h3⟩
  · simp at hk
  · exact ⟨h1, h2, k, hk, rfl, h3⟩
set_option maxHeartbeats 4000000 in
theorem at_any (v : Value) (l : List Nd) (n : Int) (w : World) (h : KV w v l) : Calls Try.prog 33 #[v, .int .i64 n] w fun e w' => e = .returned (plv (plAt l n)) ∧ Seen w w' := by
  have HH : Hid (∀ w', Seen w w' → Calls Try.prog 34 #[v, .int .i64 n] w' fun e w'' => e = .returned (.bool (inB l n)) ∧ w'' = w') := fun w' h' => has_any v l n w' (h.seen h')
  cases hb : inB l n
  · have e1 : Hid (plAt l n = noP) := by unfold Hid plAt; rw [hb]; rfl
    rw [hb] at HH
    clear h hb
    have S1 : Hid (∀ o, Seen w (w.alloc o)) := fun o => (Seen.refl w).alloc o
    go_enter Try.func33, Try.ntmps33
    go_wp2_with (go_at_call 34; refine (HH.out _ (S1.out _)).mono ?_; clear HH; rintro e w1 ⟨rfl, rfl⟩)
    go_returns
    rw [e1.out]
    exact ⟨rfl, S1.out _⟩
  · obtain ⟨_, h65, k, hk, rfl, B, G, H, rfl, hkk⟩ := h.node hb
    have e1 : Hid (plAt l (k : Int) = plE l (endN l) k) := by unfold Hid plAt; rw [hb]; rfl
    rw [hb] at HH
    have S1 : Hid (∀ o, Seen w (w.alloc o)) := fun o => (Seen.refl w).alloc o
    obtain ⟨c0, c1⟩ := hkk.objs
    obtain ⟨p0, p1, p2, p3, p4⟩ := hkk.place hk
    have c1' : ∀ o, (w.alloc o).cell? ⟨B, 1, none⟩ = _ := fun o => (S1.out o).cell c1
    have p0' : ∀ o, (w.alloc o).cell? ⟨H, k * 5, none⟩ = _ := fun o => (S1.out o).cell p0
    have p1' : ∀ o, (w.alloc o).cell? ⟨H, k * 5 + 1, none⟩ = _ := fun o => (S1.out o).cell p1
    have p2' : ∀ o, (w.alloc o).cell? ⟨H, k * 5 + 2, none⟩ = _ := fun o => (S1.out o).cell p2
    have p3' : ∀ o, (w.alloc o).cell? ⟨H, k * 5 + 3, none⟩ = _ := fun o => (S1.out o).cell p3
    have p4' : ∀ o, (w.alloc o).cell? ⟨H, k * 5 + 4, none⟩ = _ := fun o => (S1.out o).cell p4
    clear h hb hkk c0 c1 p0 p1 p2 p3 p4
    have hk' : (k : Int) < (l.length : Int) := by omega
    go_enter Try.func33, Try.ntmps33
    go_wp2_with (go_at_call 34; refine (HH.out _ (S1.out _)).mono ?_; clear HH; rintro e w1 ⟨rfl, rfl⟩)
    go_returns
    rw [e1.out]
    exact ⟨rfl, S1.out _⟩
theorem at_lit (v : Value) (l : List Nd) (n : Int) (w : World) (h : KV w v l) (P : Pl) (hP : plAt l n = P) : Calls Try.prog 33 #[v, .int .i64 n] w fun e w' => e = .returned (.agg #[.int .i64 P.par, .int .i64 P.stop, .int .i64 P.deep, .bool P.made, .bool P.out]) ∧ Seen w w' := by
  subst hP
  exact at_any v l n w h
theorem fieldP0 (a b c : Int) (d e : Bool) (w : World) : (Instr.field 53 (.agg #[.int .i64 a, .int .i64 b, .int .i64 c, .bool d, .bool e]) 0).run Try.prog w = .ok (.int .i64 a) w := by kernel_rfl
theorem fieldP1 (a b c : Int) (d e : Bool) (w : World) : (Instr.field 53 (.agg #[.int .i64 a, .int .i64 b, .int .i64 c, .bool d, .bool e]) 1).run Try.prog w = .ok (.int .i64 b) w := by kernel_rfl
theorem fieldP2 (a b c : Int) (d e : Bool) (w : World) : (Instr.field 53 (.agg #[.int .i64 a, .int .i64 b, .int .i64 c, .bool d, .bool e]) 2).run Try.prog w = .ok (.int .i64 c) w := by kernel_rfl
theorem fieldP3 (a b c : Int) (d e : Bool) (w : World) : (Instr.field 53 (.agg #[.int .i64 a, .int .i64 b, .int .i64 c, .bool d, .bool e]) 3).run Try.prog w = .ok (.bool d) w := by kernel_rfl
theorem fieldP4 (a b c : Int) (d e : Bool) (w : World) : (Instr.field 53 (.agg #[.int .i64 a, .int .i64 b, .int .i64 c, .bool d, .bool e]) 4).run Try.prog w = .ok (.bool e) w := by kernel_rfl
theorem end_kin (v : Value) (l : List Nd) (n : Int) (w : World) (h : KV w v l) : Calls Try.prog 47 #[v, .int .i64 n] w fun e w' => e = .returned (.int .i64 (plAt l n).stop) ∧ Seen w w' := by
  obtain ⟨P, hP⟩ : ∃ P, plAt l n = P := ⟨_, rfl⟩
  have HA := Lib.hid (at_lit v l n w h P hP)
  rw [hP]
  clear h hP
  have hf := fieldP1 P.par P.stop P.deep P.made P.out
  go_enter Try.func47, Try.ntmps47
  go_wp2_with (go_at_call 33; refine HA.out.mono ?_; clear HA; rintro e w1 ⟨rfl, hs⟩; have S1 := Lib.hid hs; clear hs)
  go_ret
  exact ⟨rfl, S1.out⟩
theorem made_kin (v : Value) (l : List Nd) (n : Int) (w : World) (h : KV w v l) : Calls Try.prog 17 #[v, .int .i64 n] w fun e w' => e = .returned (.bool (plAt l n).made) ∧ Seen w w' := by
  obtain ⟨P, hP⟩ : ∃ P, plAt l n = P := ⟨_, rfl⟩
  have HA := Lib.hid (at_lit v l n w h P hP)
  rw [hP]
  clear h hP
  have hf := fieldP3 P.par P.stop P.deep P.made P.out
  go_enter Try.func17, Try.ntmps17
  go_wp2_with (go_at_call 33; refine HA.out.mono ?_; clear HA; rintro e w1 ⟨rfl, hs⟩; have S1 := Lib.hid hs; clear hs)
  go_ret
  exact ⟨rfl, S1.out⟩
theorem out_kin (v : Value) (l : List Nd) (n : Int) (w : World) (h : KV w v l) : Calls Try.prog 37 #[v, .int .i64 n] w fun e w' => e = .returned (.bool (plAt l n).out) ∧ Seen w w' := by
  obtain ⟨P, hP⟩ : ∃ P, plAt l n = P := ⟨_, rfl⟩
  have HA := Lib.hid (at_lit v l n w h P hP)
  rw [hP]
  clear h hP
  have hf := fieldP4 P.par P.stop P.deep P.made P.out
  go_enter Try.func37, Try.ntmps37
  go_wp2_with (go_at_call 33; refine HA.out.mono ?_; clear HA; rintro e w1 ⟨rfl, hs⟩; have S1 := Lib.hid hs; clear hs)
  go_ret
  exact ⟨rfl, S1.out⟩
theorem plAt_in {l : List Nd} {n : Int} (h : inB l n = true) : plAt l n = plE l (endN l) n.toNat := by unfold plAt; rw [h]; rfl
theorem plAt_no {l : List Nd} {n : Int} (h : inB l n = false) : plAt l n = noP := by unfold plAt; rw [h]; rfl
theorem plAt_nat {l : List Nd} {n : Nat} (h : n < l.length) : plAt l n = plE l (endN l) n := by rw [plAt_in (inB_nat h), Int.toNat_natCast]
theorem plAt_stop (l : List Nd) (n : Int) : (plAt l n).stop = endV l n := by
  unfold endV
  cases h : inB l n
  · rw [plAt_no h]; rfl
  · rw [plAt_in h]; rfl
theorem below_kin (v : Value) (l : List Nd) (a n : Int) (w : World) (h : KV w v l) : Calls Try.prog 46 #[v, .int .i64 a, .int .i64 n] w fun e w' => e = .returned (.bool (belV l a n)) ∧ Seen w w' := by
  have HH := Lib.hid (has_any v l a w h)
  have HE := Lib.hid (end_kin v l a w h)
  rw [plAt_stop] at HE
  clear h
  unfold belV
  obtain ⟨E, hE⟩ : ∃ E, endV l a = E := ⟨_, rfl⟩
  rw [hE] at HE ⊢
  clear hE
  obtain ⟨b, hb⟩ : ∃ b, inB l a = b := ⟨_, rfl⟩
  rw [hb] at HH ⊢
  clear hb
  cases b
  · go_enter Try.func46, Try.ntmps46
    go_wp2_with (go_at_call 34; refine HH.out.mono ?_; clear HH; rintro e w1 ⟨rfl, rfl⟩)
    go_ret
    exact ⟨rfl, Seen.refl _⟩
  · by_cases hle : a ≤ n
    · go_enter Try.func46, Try.ntmps46
      go_wp2_with (first
        | (go_at_call 34; refine HH.out.mono ?_; clear HH; rintro e w1 ⟨rfl, rfl⟩)
        | (go_at_call 47; refine HE.out.mono ?_; clear HE; rintro e w1 ⟨rfl, hs⟩; have S1 := Lib.hid hs; clear hs))
      go_ret
      exact ⟨by simp [hle], S1.out⟩
    · go_enter Try.func46, Try.ntmps46
      go_wp2_with (go_at_call 34; refine HH.out.mono ?_; clear HH; rintro e w1 ⟨rfl, rfl⟩)
      go_ret
      exact ⟨by simp; omega, Seen.refl _⟩
set_option maxHeartbeats 4000000 in
theorem style_kin (v : Value) (l : List Nd) (n : Int) (w : World) (h : KV w v l) : Calls Try.prog 18 #[v, .int .i64 n] w fun e w' => e = .returned (sv (styAt l n)) ∧ Seen w w' := by
  obtain ⟨W, hW⟩ : ∃ W, W = w.alloc (.cells (stl zeroS).toArray 39) := ⟨_, rfl⟩
  have HZ : Hid (Hs W w.heap.size zeroS) := by rw [hW]; exact hs_new w zeroS
  have SW : Hid (Seen w W) := by rw [hW]; exact (Seen.refl w).alloc _
  have HH := Lib.hid (has_any v l n W (h.seen SW.out))
  cases hb : inB l n
  · have e1 : Hid (styAt l n = zeroS) := by unfold Hid styAt; rw [hb]; rfl
    rw [hb] at HH
    clear h hb
    go_enter Try.func18, Try.ntmps18
    go_wp2_with (first
      | (rw [zero_lit, ← hW]; clear hW; go_at_call 34; refine HH.out.mono ?_; clear HH; rintro e w1 ⟨rfl, rfl⟩)
      | (rw [zero_lit]; refine wpList_storeS rfl _ _ rfl w.heap.size zeroS zeroS rfl rfl zero_full zero_full HZ.out ?_; intro w2 hs2 ht2; have R2 := Lib.hid (And.intro hs2 ht2); clear hs2 ht2))
    refine bodyPost_ret (results_cell Try.results18 rfl (run_loadS R2.out.1 zero_full)) rfl ?_
    rw [e1.out]
    exact ⟨rfl, SW.out.turns R2.out.2 (Nat.le_refl _)⟩
  · obtain ⟨_, h65, k, hk, rfl, B, G, H, rfl, hkk⟩ := h.node hb
    have e1 : Hid (styAt l (k : Int) = (nd l k).s) := by unfold Hid styAt; rw [hb]; rfl
    rw [hb] at HH
    obtain ⟨c0, c1⟩ := (hkk.seen SW.out).objs
    have ST : Hid (W.rangeAt G (k * 48) (stl (nd l k).s)) := (hkk.seen SW.out).style hk
    have hk' : (k : Int) < (l.length : Int) := by omega
    clear h hb hkk c1
    go_enter Try.func18, Try.ntmps18
    go_wp2_with (first
      | (rw [zero_lit, ← hW]; clear hW; go_at_call 34; refine HH.out.mono ?_; clear HH; rintro e w1 ⟨rfl, rfl⟩)
      | (refine wpList_load_mid rfl 39 (.tmp 15) rfl G (k * 48) rfl (stl (nd l k).s) _ ST.out Try.underlying39 rfl (by rw [(nd l k).full.len]; exact info27) ?_; clear ST)
      | (refine wpList_storeS rfl (.tmp 4) (.tmp 16) rfl w.heap.size zeroS (nd l k).s rfl rfl (nd l k).full zero_full HZ.out ?_; intro w2 hs2 ht2; have R2 := Lib.hid (And.intro hs2 ht2); clear hs2 ht2))
    refine bodyPost_ret (results_cell Try.results18 rfl (run_loadS R2.out.1 (nd l k).full)) rfl ?_
    rw [e1.out]
    exact ⟨rfl, SW.out.turns R2.out.2 (Nat.le_refl _)⟩
end Go.Proofs.Ytlnnaegmcopiiaa
