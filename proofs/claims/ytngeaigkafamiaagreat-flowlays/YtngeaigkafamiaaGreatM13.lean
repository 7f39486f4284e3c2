/- Texts of the proof, merged: KinAt, HandS, FR0, FR1, FFr0. -/
import Derived.Test.YtngeaigkafamiaaGreatM4
import Derived.Test.YtngeaigkafamiaaGreatM12
import Derived.Test.YtngeaigkafamiaaGreatM10
import Derived.Deep.DeepCutAuto
import Derived.Test.YtngeaigkafamiaaGreatM6
namespace Go.Proofs.YtngeaigkafamiaaGreat
open Go.ChangeShapes Go.WideShapes Go.ChangeAt Go.RowKit
set_option maxRecDepth 100000
theorem KV.node {w : World} {v : Value} {l : List Nd} {n : Int} (h : KV w v l) (hb : inB l n = true) : FormedT l ∧ l.length ≤ 65535 ∧ ∃ k : Nat, k < l.length ∧ n = k ∧ ∃ B G H, v = .pointer (some ⟨B, 0, none⟩) ∧ KK w B G H l (endN l) := by
  obtain ⟨k, hk, rfl⟩ := inB_iff.1 hb
  rcases h with ⟨_, rfl⟩ | ⟨h1, h2, h3⟩
  · simp at hk
  · exact ⟨h1, h2, k, hk, rfl, h3⟩
set_option maxHeartbeats 4000000 in
theorem at_any (v : Value) (l : List Nd) (n : Int) (w : World) (h : KV w v l) : Calls Tryz.prog 39 #[v, .int .i64 n] w fun e w' => e = .returned (plv (plAt l n)) ∧ Seen w w' := by
  have HH : Hid (∀ w', Seen w w' → Calls Tryz.prog 64 #[v, .int .i64 n] w' fun e w'' => e = .returned (.bool (inB l n)) ∧ w'' = w') := fun w' h' => has_any v l n w' (h.seen h')
  cases hb : inB l n
  · have e1 : Hid (plAt l n = noP) := by unfold Hid plAt; rw [hb]; rfl
    rw [hb] at HH
    clear h hb
    have S1 : Hid (∀ o, Seen w (w.alloc o)) := fun o => (Seen.refl w).alloc o
    go_enter Tryz.func39, Tryz.ntmps39
    go_wp2_with (go_at_call 64; refine (HH.out _ (S1.out _)).mono ?_; clear HH; rintro e w1 ⟨rfl, rfl⟩)
    go_returns
    rw [e1.out]
    exact ⟨rfl, S1.out _⟩
  · obtain ⟨_, h65, k, hk, rfl, B, G, H, rfl, hkk⟩ := h.node hb
    have e1 : Hid (plAt l (k : Int) = plE l (endN l) k) := by unfold Hid plAt; rw [hb]; rfl
    rw [hb] at HH
    have S1 : Hid (∀ o, Seen w (w.alloc o)) := fun o => (Seen.refl w).alloc o
    obtain ⟨c0, c1⟩ := hkk.objs
    obtain ⟨p0, p1, p2, p3, p4⟩ := hkk.place hk
    have c1' : ∀ o, (w.alloc o).cell? ⟨B, 1, none⟩ = _ := fun o => (S1.out o).cell c1
    have p0' : ∀ o, (w.alloc o).cell? ⟨H, k * 5, none⟩ = _ := fun o => (S1.out o).cell p0
    have p1' : ∀ o, (w.alloc o).cell? ⟨H, k * 5 + 1, none⟩ = _ := fun o => (S1.out o).cell p1
    have p2' : ∀ o, (w.alloc o).cell? ⟨H, k * 5 + 2, none⟩ = _ := fun o => (S1.out o).cell p2
    have p3' : ∀ o, (w.alloc o).cell? ⟨H, k * 5 + 3, none⟩ = _ := fun o => (S1.out o).cell p3
    have p4' : ∀ o, (w.alloc o).cell? ⟨H, k * 5 + 4, none⟩ = _ := fun o => (S1.out o).cell p4
    clear h hb hkk c0 c1 p0 p1 p2 p3 p4
    have hk' : (k : Int) < (l.length : Int) := by omega
    go_enter Tryz.func39, Tryz.ntmps39
    go_wp2_with (go_at_call 64; refine (HH.out _ (S1.out _)).mono ?_; clear HH; rintro e w1 ⟨rfl, rfl⟩)
    go_returns
    rw [e1.out]
    exact ⟨rfl, S1.out _⟩
theorem at_lit (v : Value) (l : List Nd) (n : Int) (w : World) (h : KV w v l) (P : Pl) (hP : plAt l n = P) : Calls Tryz.prog 39 #[v, .int .i64 n] w fun e w' => e = .returned (.agg #[.int .i64 P.par, .int .i64 P.stop, .int .i64 P.deep, .bool P.made, .bool P.out]) ∧ Seen w w' := by
  subst hP
  exact at_any v l n w h
theorem fieldP1 (a b c : Int) (d e : Bool) (w : World) : (Instr.field 79 (.agg #[.int .i64 a, .int .i64 b, .int .i64 c, .bool d, .bool e]) 1).run Tryz.prog w = .ok (.int .i64 b) w := by kernel_rfl
theorem fieldP3 (a b c : Int) (d e : Bool) (w : World) : (Instr.field 79 (.agg #[.int .i64 a, .int .i64 b, .int .i64 c, .bool d, .bool e]) 3).run Tryz.prog w = .ok (.bool d) w := by kernel_rfl
theorem fieldP4 (a b c : Int) (d e : Bool) (w : World) : (Instr.field 79 (.agg #[.int .i64 a, .int .i64 b, .int .i64 c, .bool d, .bool e]) 4).run Tryz.prog w = .ok (.bool e) w := by kernel_rfl
theorem end_kin (v : Value) (l : List Nd) (n : Int) (w : World) (h : KV w v l) : Calls Tryz.prog 97 #[v, .int .i64 n] w fun e w' => e = .returned (.int .i64 (plAt l n).stop) ∧ Seen w w' := by
  obtain ⟨P, hP⟩ : ∃ P, plAt l n = P := ⟨_, rfl⟩
  have HA := Lib.hid (at_lit v l n w h P hP)
  rw [hP]
  clear h hP
  have hf := fieldP1 P.par P.stop P.deep P.made P.out
  go_enter Tryz.func97, Tryz.ntmps97
  go_wp2_with (go_at_call 39; refine HA.out.mono ?_; clear HA; rintro e w1 ⟨rfl, hs⟩; have S1 := Lib.hid hs; clear hs)
  go_ret
  exact ⟨rfl, S1.out⟩
theorem made_kin (v : Value) (l : List Nd) (n : Int) (w : World) (h : KV w v l) : Calls Tryz.prog 18 #[v, .int .i64 n] w fun e w' => e = .returned (.bool (plAt l n).made) ∧ Seen w w' := by
  obtain ⟨P, hP⟩ : ∃ P, plAt l n = P := ⟨_, rfl⟩
  have HA := Lib.hid (at_lit v l n w h P hP)
  rw [hP]
  clear h hP
  have hf := fieldP3 P.par P.stop P.deep P.made P.out
  go_enter Tryz.func18, Tryz.ntmps18
  go_wp2_with (go_at_call 39; refine HA.out.mono ?_; clear HA; rintro e w1 ⟨rfl, hs⟩; have S1 := Lib.hid hs; clear hs)
  go_ret
  exact ⟨rfl, S1.out⟩
theorem out_kin (v : Value) (l : List Nd) (n : Int) (w : World) (h : KV w v l) : Calls Tryz.prog 73 #[v, .int .i64 n] w fun e w' => e = .returned (.bool (plAt l n).out) ∧ Seen w w' := by
  obtain ⟨P, hP⟩ : ∃ P, plAt l n = P := ⟨_, rfl⟩
  have HA := Lib.hid (at_lit v l n w h P hP)
  rw [hP]
  clear h hP
  have hf := fieldP4 P.par P.stop P.deep P.made P.out
  go_enter Tryz.func73, Tryz.ntmps73
  go_wp2_with (go_at_call 39; refine HA.out.mono ?_; clear HA; rintro e w1 ⟨rfl, hs⟩; have S1 := Lib.hid hs; clear hs)
  go_ret
  exact ⟨rfl, S1.out⟩
theorem plAt_in {l : List Nd} {n : Int} (h : inB l n = true) : plAt l n = plE l (endN l) n.toNat := by unfold plAt; rw [h]; rfl
theorem plAt_no {l : List Nd} {n : Int} (h : inB l n = false) : plAt l n = noP := by unfold plAt; rw [h]; rfl
theorem plAt_nat {l : List Nd} {n : Nat} (h : n < l.length) : plAt l n = plE l (endN l) n := by rw [plAt_in (inB_nat h), Int.toNat_natCast]
theorem plAt_stop (l : List Nd) (n : Int) : (plAt l n).stop = endV l n := by
  unfold endV
  cases h : inB l n
  · rw [plAt_no h]; rfl
  · rw [plAt_in h]; rfl
theorem below_kin (v : Value) (l : List Nd) (a n : Int) (w : World) (h : KV w v l) : Calls Tryz.prog 96 #[v, .int .i64 a, .int .i64 n] w fun e w' => e = .returned (.bool (belV l a n)) ∧ Seen w w' := by
  have HH := Lib.hid (has_any v l a w h)
  have HE := Lib.hid (end_kin v l a w h)
  rw [plAt_stop] at HE
  clear h
  unfold belV
  obtain ⟨E, hE⟩ : ∃ E, endV l a = E := ⟨_, rfl⟩
  rw [hE] at HE ⊢
  clear hE
  obtain ⟨b, hb⟩ : ∃ b, inB l a = b := ⟨_, rfl⟩
  rw [hb] at HH ⊢
  clear hb
  cases b
  · go_enter Tryz.func96, Tryz.ntmps96
    go_wp2_with (go_at_call 64; refine HH.out.mono ?_; clear HH; rintro e w1 ⟨rfl, rfl⟩)
    go_ret
    exact ⟨rfl, Seen.refl _⟩
  · by_cases hle : a ≤ n
    · go_enter Tryz.func96, Tryz.ntmps96
      go_wp2_with (first
        | (go_at_call 64; refine HH.out.mono ?_; clear HH; rintro e w1 ⟨rfl, rfl⟩)
        | (go_at_call 97; refine HE.out.mono ?_; clear HE; rintro e w1 ⟨rfl, hs⟩; have S1 := Lib.hid hs; clear hs))
      go_ret
      exact ⟨by simp [hle], S1.out⟩
    · go_enter Tryz.func96, Tryz.ntmps96
      go_wp2_with (go_at_call 64; refine HH.out.mono ?_; clear HH; rintro e w1 ⟨rfl, rfl⟩)
      go_ret
      exact ⟨by simp; omega, Seen.refl _⟩
set_option maxHeartbeats 4000000 in
theorem style_kin (v : Value) (l : List Nd) (n : Int) (w : World) (h : KV w v l) : Calls Tryz.prog 41 #[v, .int .i64 n] w fun e w' => e = .returned (sv (styAt l n)) ∧ Seen w w' := by
  obtain ⟨W, hW⟩ : ∃ W, W = w.alloc (.cells (stl zeroS).toArray 66) := ⟨_, rfl⟩
  have HZ : Hid (Hs W w.heap.size zeroS) := by rw [hW]; exact hs_new w zeroS
  have SW : Hid (Seen w W) := by rw [hW]; exact (Seen.refl w).alloc _
  have HH := Lib.hid (has_any v l n W (h.seen SW.out))
  cases hb : inB l n
  · have e1 : Hid (styAt l n = zeroS) := by unfold Hid styAt; rw [hb]; rfl
    rw [hb] at HH
    clear h hb
    go_enter Tryz.func41, Tryz.ntmps41
    go_wp2_with (first
      | (rw [zero_lit, ← hW]; clear hW; go_at_call 64; refine HH.out.mono ?_; clear HH; rintro e w1 ⟨rfl, rfl⟩)
      | (rw [zero_lit]; refine wpList_storeS rfl _ _ rfl w.heap.size zeroS zeroS rfl rfl zero_full zero_full HZ.out ?_; intro w2 hs2 ht2; have R2 := Lib.hid (And.intro hs2 ht2); clear hs2 ht2))
    refine bodyPost_ret (results_cell Tryz.results41 rfl (run_loadS R2.out.1 zero_full)) rfl ?_
    rw [e1.out]
    exact ⟨rfl, SW.out.turns R2.out.2 (Nat.le_refl _)⟩
  · obtain ⟨_, h65, k, hk, rfl, B, G, H, rfl, hkk⟩ := h.node hb
    have e1 : Hid (styAt l (k : Int) = (nd l k).s) := by unfold Hid styAt; rw [hb]; rfl
    rw [hb] at HH
    obtain ⟨c0, c1⟩ := (hkk.seen SW.out).objs
    have ST : Hid (W.rangeAt G (k * 48) (stl (nd l k).s)) := (hkk.seen SW.out).style hk
    have hk' : (k : Int) < (l.length : Int) := by omega
    clear h hb hkk c1
    go_enter Tryz.func41, Tryz.ntmps41
    go_wp2_with (first
      | (rw [zero_lit, ← hW]; clear hW; go_at_call 64; refine HH.out.mono ?_; clear HH; rintro e w1 ⟨rfl, rfl⟩)
      | (refine wpList_load_mid rfl 66 (.tmp 15) rfl G (k * 48) rfl (stl (nd l k).s) _ ST.out Tryz.underlying66 rfl (by rw [(nd l k).full.len]; exact info27) ?_; clear ST)
      | (refine wpList_storeS rfl (.tmp 4) (.tmp 16) rfl w.heap.size zeroS (nd l k).s rfl rfl (nd l k).full zero_full HZ.out ?_; intro w2 hs2 ht2; have R2 := Lib.hid (And.intro hs2 ht2); clear hs2 ht2))
    refine bodyPost_ret (results_cell Tryz.results41 rfl (run_loadS R2.out.1 (nd l k).full)) rfl ?_
    rw [e1.out]
    exact ⟨rfl, SW.out.turns R2.out.2 (Nat.le_refl _)⟩
end Go.Proofs.YtngeaigkafamiaaGreat
namespace Go.Proofs.YtngeaigkafamiaaGreat
open Go.ChangeShapes Go.WideShapes Go.ChangeAt Go.RowKit
set_option maxRecDepth 100000
end Go.Proofs.YtngeaigkafamiaaGreat
namespace Go.Proofs.YtngeaigkafamiaaGreat
open Go.ChangeShapes Go.WideShapes Go.ChangeAt Go.RowKit
set_option maxRecDepth 100000
theorem rd2 {w : World} {a : Addr} {v : Value} (h : w.cell? a = some v) : (Instr.loadAt 2 (.pointer (some a))).run Tryz.prog w = .ok v w := by
  simp [Instr.loadAt, Instr.sureAddr, loadVar, Tryz.isAgg2, h]
theorem rd3 {w : World} {a : Addr} {v : Value} (h : w.cell? a = some v) : (Instr.loadAt 3 (.pointer (some a))).run Tryz.prog w = .ok v w := by
  simp [Instr.loadAt, Instr.sureAddr, loadVar, Tryz.isAgg3, h]
theorem rd4 {w : World} {a : Addr} {v : Value} (h : w.cell? a = some v) : (Instr.loadAt 4 (.pointer (some a))).run Tryz.prog w = .ok v w := by
  simp [Instr.loadAt, Instr.sureAddr, loadVar, Tryz.isAgg4, h]
theorem rd39 {w : World} {a : Addr} {v : Value} (h : w.cell? a = some v) : (Instr.loadAt 39 (.pointer (some a))).run Tryz.prog w = .ok v w := by
  simp [Instr.loadAt, Instr.sureAddr, loadVar, Tryz.isAgg39, h]
theorem rd51 {w : World} {a : Addr} {v : Value} (h : w.cell? a = some v) : (Instr.loadAt 51 (.pointer (some a))).run Tryz.prog w = .ok v w := by
  simp [Instr.loadAt, Instr.sureAddr, loadVar, Tryz.isAgg51, h]
theorem rd38 {w : World} {a : Addr} {v : Value} (h : w.cell? a = some v) : (Instr.loadAt 38 (.pointer (some a))).run Tryz.prog w = .ok v w := by
  simp [Instr.loadAt, Instr.sureAddr, loadVar, Tryz.isAgg38, h]
theorem zz58 : (Tryz.prog.info? 58).map (·.size) = some 2 := by kernel_rfl
theorem rda58 {w : World} {X o : Nat} {vs : List Value} (h : w.rangeAt X o vs) (hl : vs.length = 2) : (Instr.loadAt 58 (.pointer (some ⟨X, o, none⟩))).run Tryz.prog w = .ok (.agg vs.toArray) w :=
  run_loadAt_mid w X o 58 vs _ h Tryz.underlying58 rfl (by rw [hl]; exact zz58)
theorem zz89 : (Tryz.prog.info? 89).map (·.size) = some 8 := by kernel_rfl
theorem rda89 {w : World} {X o : Nat} {vs : List Value} (h : w.rangeAt X o vs) (hl : vs.length = 8) : (Instr.loadAt 89 (.pointer (some ⟨X, o, none⟩))).run Tryz.prog w = .ok (.agg vs.toArray) w :=
  run_loadAt_mid w X o 89 vs _ h Tryz.underlying89 rfl (by rw [hl]; exact zz89)
theorem zz91 : (Tryz.prog.info? 91).map (·.size) = some 24 := by kernel_rfl
theorem rda91 {w : World} {X o : Nat} {vs : List Value} (h : w.rangeAt X o vs) (hl : vs.length = 24) : (Instr.loadAt 91 (.pointer (some ⟨X, o, none⟩))).run Tryz.prog w = .ok (.agg vs.toArray) w :=
  run_loadAt_mid w X o 91 vs _ h Tryz.underlying91 rfl (by rw [hl]; exact zz91)
theorem wr91 {w : World} {X o : Nat} {cs vs : List Value} {t : TypeId} (h : Blk w X cs t) (hl : vs.length = 24) (hn : o + 24 ≤ cs.length) (h1 : ∀ u ∈ vs, u.oneCell' = true) : (Instr.storeAt 91 (.pointer (some ⟨X, o, none⟩)) (.agg vs.toArray)).run Tryz.prog w = .ok () (w.setCells X o vs) :=
  stC (vs := vs) h (by rw [hl]; exact hn) (by rw [hl]; exact zz91) h1
theorem zz50 : (Tryz.prog.info? 50).map (·.size) = some 25 := by kernel_rfl
theorem rda50 {w : World} {X o : Nat} {vs : List Value} (h : w.rangeAt X o vs) (hl : vs.length = 25) : (Instr.loadAt 50 (.pointer (some ⟨X, o, none⟩))).run Tryz.prog w = .ok (.agg vs.toArray) w :=
  run_loadAt_mid w X o 50 vs _ h Tryz.underlying50 rfl (by rw [hl]; exact zz50)
theorem wr50 {w : World} {X o : Nat} {cs vs : List Value} {t : TypeId} (h : Blk w X cs t) (hl : vs.length = 25) (hn : o + 25 ≤ cs.length) (h1 : ∀ u ∈ vs, u.oneCell' = true) : (Instr.storeAt 50 (.pointer (some ⟨X, o, none⟩)) (.agg vs.toArray)).run Tryz.prog w = .ok () (w.setCells X o vs) :=
  stC (vs := vs) h (by rw [hl]; exact hn) (by rw [hl]; exact zz50) h1
theorem zz55 : (Tryz.prog.info? 55).map (·.size) = some 9 := by kernel_rfl
theorem rda55 {w : World} {X o : Nat} {vs : List Value} (h : w.rangeAt X o vs) (hl : vs.length = 9) : (Instr.loadAt 55 (.pointer (some ⟨X, o, none⟩))).run Tryz.prog w = .ok (.agg vs.toArray) w :=
  run_loadAt_mid w X o 55 vs _ h Tryz.underlying55 rfl (by rw [hl]; exact zz55)
theorem wr55 {w : World} {X o : Nat} {cs vs : List Value} {t : TypeId} (h : Blk w X cs t) (hl : vs.length = 9) (hn : o + 9 ≤ cs.length) (h1 : ∀ u ∈ vs, u.oneCell' = true) : (Instr.storeAt 55 (.pointer (some ⟨X, o, none⟩)) (.agg vs.toArray)).run Tryz.prog w = .ok () (w.setCells X o vs) :=
  stC (vs := vs) h (by rw [hl]; exact hn) (by rw [hl]; exact zz55) h1
theorem zz53 : (Tryz.prog.info? 53).map (·.size) = some 7 := by kernel_rfl
theorem rda53 {w : World} {X o : Nat} {vs : List Value} (h : w.rangeAt X o vs) (hl : vs.length = 7) : (Instr.loadAt 53 (.pointer (some ⟨X, o, none⟩))).run Tryz.prog w = .ok (.agg vs.toArray) w :=
  run_loadAt_mid w X o 53 vs _ h Tryz.underlying53 rfl (by rw [hl]; exact zz53)
theorem zz48 : (Tryz.prog.info? 48).map (·.size) = some 8 := by kernel_rfl
theorem rda48 {w : World} {X o : Nat} {vs : List Value} (h : w.rangeAt X o vs) (hl : vs.length = 8) : (Instr.loadAt 48 (.pointer (some ⟨X, o, none⟩))).run Tryz.prog w = .ok (.agg vs.toArray) w :=
  run_loadAt_mid w X o 48 vs _ h Tryz.underlying48 rfl (by rw [hl]; exact zz48)
theorem zz46 : (Tryz.prog.info? 46).map (·.size) = some 2 := by kernel_rfl
theorem rda46 {w : World} {X o : Nat} {vs : List Value} (h : w.rangeAt X o vs) (hl : vs.length = 2) : (Instr.loadAt 46 (.pointer (some ⟨X, o, none⟩))).run Tryz.prog w = .ok (.agg vs.toArray) w :=
  run_loadAt_mid w X o 46 vs _ h Tryz.underlying46 rfl (by rw [hl]; exact zz46)
theorem wr46 {w : World} {X o : Nat} {cs vs : List Value} {t : TypeId} (h : Blk w X cs t) (hl : vs.length = 2) (hn : o + 2 ≤ cs.length) (h1 : ∀ u ∈ vs, u.oneCell' = true) : (Instr.storeAt 46 (.pointer (some ⟨X, o, none⟩)) (.agg vs.toArray)).run Tryz.prog w = .ok () (w.setCells X o vs) :=
  stC (vs := vs) h (by rw [hl]; exact hn) (by rw [hl]; exact zz46) h1
theorem zz63 : (Tryz.prog.info? 63).map (·.size) = some 2 := by kernel_rfl
theorem rda63 {w : World} {X o : Nat} {vs : List Value} (h : w.rangeAt X o vs) (hl : vs.length = 2) : (Instr.loadAt 63 (.pointer (some ⟨X, o, none⟩))).run Tryz.prog w = .ok (.agg vs.toArray) w :=
  run_loadAt_mid w X o 63 vs _ h Tryz.underlying63 rfl (by rw [hl]; exact zz63)
theorem zz31 : (Tryz.prog.info? 31).map (·.size) = some 4 := by kernel_rfl
theorem rda31 {w : World} {X o : Nat} {vs : List Value} (h : w.rangeAt X o vs) (hl : vs.length = 4) : (Instr.loadAt 31 (.pointer (some ⟨X, o, none⟩))).run Tryz.prog w = .ok (.agg vs.toArray) w :=
  run_loadAt_mid w X o 31 vs _ h Tryz.underlying31 rfl (by rw [hl]; exact zz31)
theorem wr31 {w : World} {X o : Nat} {cs vs : List Value} {t : TypeId} (h : Blk w X cs t) (hl : vs.length = 4) (hn : o + 4 ≤ cs.length) (h1 : ∀ u ∈ vs, u.oneCell' = true) : (Instr.storeAt 31 (.pointer (some ⟨X, o, none⟩)) (.agg vs.toArray)).run Tryz.prog w = .ok () (w.setCells X o vs) :=
  stC (vs := vs) h (by rw [hl]; exact hn) (by rw [hl]; exact zz31) h1
theorem zz101 : (Tryz.prog.info? 101).map (·.size) = some 3 := by kernel_rfl
theorem wr2 {w : World} {X o : Nat} {cs : List Value} {t : TypeId} {u : Value} (n : Int) (h : Blk w X cs t) (hc : cs[o]? = some u) : (Instr.storeAt 2 (.pointer (some ⟨X, o, none⟩)) (.int .i64 n)).run Tryz.prog w = .ok () (w.setCell ⟨X, o, none⟩ (.int .i64 n)) := by
  have c : w.cell? ⟨X, o, none⟩ = some u := (h.cell o).trans hc
  have f := h.free o
  go_simp
theorem wr4 {w : World} {X o : Nat} {cs : List Value} {t : TypeId} {u : Value} (b : Bool) (h : Blk w X cs t) (hc : cs[o]? = some u) : (Instr.storeAt 4 (.pointer (some ⟨X, o, none⟩)) (.bool b)).run Tryz.prog w = .ok () (w.setCell ⟨X, o, none⟩ (.bool b)) := by
  have c : w.cell? ⟨X, o, none⟩ = some u := (h.cell o).trans hc
  have f := h.free o
  go_simp
theorem eqn2 (w : World) {x y : Int} {b : Bool} (h : decide (x = y) = b) : (binOp .eql 2 (.int .i64 x) (.int .i64 y)).run Tryz.prog w = .ok (.bool b) w := by
  subst h
  by_cases hx : x = y
  · subst hx; go_simp
  · have hb : (x == y) = false := by simpa using hx
    go_simp
theorem eqn3 (w : World) {x y : Int} {b : Bool} (h : decide (x = y) = b) : (binOp .eql 3 (.int .i64 x) (.int .i64 y)).run Tryz.prog w = .ok (.bool b) w := by
  subst h
  by_cases hx : x = y
  · subst hx; go_simp
  · have hb : (x == y) = false := by simpa using hx
    go_simp
theorem rdLen {w : World} {X : Nat} {s : Sty} (h : Hs w X s) (hf : Full s) {i o : Nat} (hi : i < 18) (ho : o = 2 + i * 2) {k n : Int} (hk : lat s.lens i = ⟨k, n⟩) :
    w.cell? ⟨X, o, none⟩ = some (.int .i64 k) ∧ w.cell? ⟨X, o + 1, none⟩ = some (.int .i64 n) := by
  subst ho
  have e := stl_len hf hi
  rw [hk] at e
  exact ⟨(h.at (2 + i * 2)).trans e.1, (h.at (2 + i * 2 + 1)).trans e.2⟩
theorem rdBord {w : World} {X : Nat} {s : Sty} (h : Hs w X s) (hf : Full s) {i o : Nat} (hi : i < 4) (ho : o = 38 + i) : w.cell? ⟨X, o, none⟩ = some (.int .i64 (bat s.bord i)) := by
  subst ho
  exact (h.at (38 + i)).trans (stl_bord hf hi)
theorem rdClip {w : World} {X : Nat} {s : Sty} (h : Hs w X s) (hf : Full s) : w.cell? ⟨X, 45, none⟩ = some (.bool s.clip) := (h.at 45).trans ((stl_tail hf (j := 3)).trans rfl)
structure Kn where
  mg : S4
  pd : S4
  ht : Hts
  top : Bool
  bot : Bool
  alone : Bool
  empty : Bool
def knl (k : Kn) : List Value :=
  [.bool k.mg.a.au, .int .i64 k.mg.a.n, .bool k.mg.b.au, .int .i64 k.mg.b.n, .bool k.mg.c.au, .int .i64 k.mg.c.n, .bool k.mg.d.au, .int .i64 k.mg.d.n,
   .bool k.pd.a.au, .int .i64 k.pd.a.n, .bool k.pd.b.au, .int .i64 k.pd.b.n, .bool k.pd.c.au, .int .i64 k.pd.c.n, .bool k.pd.d.au, .int .i64 k.pd.d.n,
   .bool k.ht.own.au, .int .i64 k.ht.own.n, .int .i64 k.ht.lo, .int .i64 k.ht.hi, .bool k.top, .bool k.bot, .bool k.alone, .bool k.empty]
def knv (k : Kn) : Value := .agg (knl k).toArray
theorem knl_one (k : Kn) : ∀ u ∈ knl k, u.oneCell' = true := by
  intro u hu
  simp only [knl, List.mem_cons, List.not_mem_nil, or_false] at hu
  rcases hu with rfl | rfl | rfl | rfl | rfl | rfl | rfl | rfl | rfl | rfl | rfl | rfl | rfl | rfl | rfl | rfl | rfl | rfl | rfl | rfl | rfl | rfl | rfl | rfl <;> rfl
def zS4 : S4 := ⟨zSz, zSz, zSz, zSz⟩
def zKn : Kn := ⟨zS4, zS4, zHt, false, false, false, false⟩
theorem knl_ends (k : Kn) (t b : Bool) : ((knl k).set 20 (.bool t)).set 21 (.bool b) = knl { k with top := t, bot := b } := rfl
def knO (l : List Nd) (n : Int) (x : Int) (h : Sz) : Kn :=
  ⟨sds (mg4 (styAt l n)) x, sds (pd4 (styAt l n)) x, htsF (styAt l n) h, decide ((bd4 (styAt l n)).a = 0) && decide ((sds (pd4 (styAt l n)) x).a.n = 0), decide ((bd4 (styAt l n)).c = 0) && decide ((sds (pd4 (styAt l n)) x).c.n = 0), indB (styAt l n) n, decide (((flowV l n).length : Int) = 0)⟩
def knB (s : Sty) (x : Int) (h : Sz) : Bool := sidesB (mg4 s) x && (sidesB (pd4 s) x && htsB s h)
end Go.Proofs.YtngeaigkafamiaaGreat
namespace Go.Proofs.YtngeaigkafamiaaGreat
open Go.ChangeShapes Go.WideShapes Go.ChangeAt Go.RowKit
set_option maxRecDepth 100000
theorem refClamp_any (n l m : Int) (w : World) :
    Calls Tryz.prog 28 #[.int .i64 n, .int .i64 l, .int .i64 m] w fun e w' => e = .returned (.int .i64 (clampI n l m)) ∧ Seen w w' := by
  have H := Lib.hid (show clampI n l m = max (min n m) l from rfl)
  go_enter Tryz.func28, Tryz.ntmps28
  go_wp2
  all_goals
    go_ret
    exact ⟨ret_int (by rw [H.out]; omega), Seen.refl _⟩
set_option maxHeartbeats 1000000 in
theorem may_any (x : Int) (h : Sz) (rtl : Bool) (w : World) :
    Calls Tryz.prog 22 #[.int .i64 x, .agg #[.bool h.au, .int .i64 h.n]] w fun e w' => e = .returned (.bool (rngB ⟨x, h, rtl⟩)) ∧ Seen w w' := by
  have HV := Lib.hid (show rngB ⟨x, h, rtl⟩ = (decide (0 ≤ x) && (decide (x ≤ 1125899906842624) && (decide (0 ≤ orV h 0) && decide (orV h 0 ≤ 1125899906842624)))) from rfl)
  obtain ⟨E, hE⟩ : ∃ E, rngB ⟨x, h, rtl⟩ = E := ⟨_, rfl⟩
  rw [hE] at HV ⊢
  clear hE
  obtain ⟨au, n⟩ := h
  obtain ⟨W, hW⟩ : ∃ W, W = w.alloc (.cells #[.bool au, .int .i64 n] 58) := ⟨_, rfl⟩
  have k : Blk W w.heap.size [.bool au, .int .i64 n] 58 := by rw [hW]; exact Blk.new w _ _
  have SW : Hid (Seen w W) := by rw [hW]; exact (Seen.refl w).alloc _
  have r0 := k.rules2 W (Seen.refl W)
  clear k
  go_enter Tryz.func22, Tryz.ntmps22
  go_upto_region 1 with fail
  rw [← hW]
  clear hW
  by_cases h1 : 0 ≤ x
  · by_cases h2 : x ≤ 1125899906842624
    · cases au
      · by_cases h3 : 0 ≤ n
        · by_cases h4 : n ≤ 1125899906842624
          · have HX : Hid (E = true ∧ True) := ⟨by rw [HV.out]; simp [h1, h2, h3, h4, orV], trivial⟩
            clear HV
            go_wp2_with fail
            go_ret
            exact ⟨by rw [HX.out.1]; rfl, SW.out⟩
          · have HX : Hid (E = false ∧ True) := ⟨by rw [HV.out]; simp [h1, h2, h3, h4, orV], trivial⟩
            clear HV
            go_wp2_with fail
            go_ret
            exact ⟨by rw [HX.out.1]; rfl, SW.out⟩
        · have HX : Hid (E = false ∧ True) := ⟨by rw [HV.out]; simp [h1, h2, h3, orV], trivial⟩
          clear HV
          go_wp2_with fail
          go_ret
          exact ⟨by rw [HX.out.1]; rfl, SW.out⟩
      · have HX : Hid (E = true ∧ True) := ⟨by rw [HV.out]; simp [h1, h2, orV], trivial⟩
        clear HV
        go_wp2_with fail
        go_ret
        exact ⟨by rw [HX.out.1]; rfl, SW.out⟩
    · have HX : Hid (E = false ∧ True) := ⟨by rw [HV.out]; simp [h1, h2], trivial⟩
      clear HV
      go_wp2_with fail
      go_ret
      exact ⟨by rw [HX.out.1]; rfl, SW.out⟩
  · have HX : Hid (E = false ∧ True) := ⟨by rw [HV.out]; simp [h1], trivial⟩
    clear HV
    go_wp2_with fail
    go_ret
    exact ⟨by rw [HX.out.1]; rfl, SW.out⟩
end Go.Proofs.YtngeaigkafamiaaGreat
namespace Go.Proofs.YtngeaigkafamiaaGreat
open Go.ChangeShapes Go.WideShapes Go.ChangeAt Go.RowKit
set_option maxRecDepth 100000
def frK (m p : S4) (b : I4) (k : Int) : Fr :=
  ⟨0, 0, 0, 0, ⟨if 0 < k then orV m.a 0 else 0, if 1 < k then orV m.b 0 else 0, if 2 < k then orV m.c 0 else 0, if 3 < k then orV m.d 0 else 0⟩,
   ⟨if 0 < k then orV p.a 0 else 0, if 1 < k then orV p.b 0 else 0, if 2 < k then orV p.c 0 else 0, if 3 < k then orV p.d 0 else 0⟩, b, false, zeroC⟩
theorem frK_0 (m p : S4) (b : I4) : frK m p b 0 = ⟨0, 0, 0, 0, zI4, zI4, b, false, zeroC⟩ := rfl
theorem frK_4 (m p : S4) (b : I4) : frK m p b 4 = ⟨0, 0, 0, 0, or4 m, or4 p, b, false, zeroC⟩ := rfl
theorem frK_1 (m p : S4) (b : I4) : ((frl (frK m p b 0)).set 4 (.int .i64 (orV m.a 0))).set 8 (.int .i64 (orV p.a 0)) = frl (frK m p b 1) := rfl
theorem frK_2 (m p : S4) (b : I4) : ((frl (frK m p b 1)).set 5 (.int .i64 (orV m.b 0))).set 9 (.int .i64 (orV p.b 0)) = frl (frK m p b 2) := rfl
theorem frK_3 (m p : S4) (b : I4) : ((frl (frK m p b 2)).set 6 (.int .i64 (orV m.c 0))).set 10 (.int .i64 (orV p.c 0)) = frl (frK m p b 3) := rfl
theorem frK_4' (m p : S4) (b : I4) : ((frl (frK m p b 3)).set 7 (.int .i64 (orV m.d 0))).set 11 (.int .i64 (orV p.d 0)) = frl (frK m p b 4) := rfl
theorem withO_set (f : Fr) (o : O3) : ((((frl f).set 0 (.int .i64 o.l)).set 2 (.int .i64 o.w)).set 7 (.int .i64 o.l)).set 5 (.int .i64 o.r) = frl (withO f o) := rfl
theorem sides4 (q : Ln4) (b : Int) (w : World) :
    Calls Tryz.prog 65 #[.agg #[.int .i64 q.a.k, .int .i64 q.a.n, .int .i64 q.b.k, .int .i64 q.b.n, .int .i64 q.c.k, .int .i64 q.c.n, .int .i64 q.d.k, .int .i64 q.d.n], .int .i64 b] w fun e w' => e = .returned (.tuple #[s4v (sds q b), .bool (sidesB q b)]) ∧ Seen w w' := sides_any q b w
theorem Blk.rules16 {w : World} {B : Nat} {s : Sty} (hf : Full s) (h : Blk w B (stl s) 66) : ∀ w', Seen w w' →
    w'.cell? ⟨B, 22, none⟩ = some (.int .i64 (mg4 s).a.k) ∧ w'.cell? ⟨B, 23, none⟩ = some (.int .i64 (mg4 s).a.n) ∧ w'.cell? ⟨B, 24, none⟩ = some (.int .i64 (mg4 s).b.k) ∧ w'.cell? ⟨B, 25, none⟩ = some (.int .i64 (mg4 s).b.n) ∧
    w'.cell? ⟨B, 26, none⟩ = some (.int .i64 (mg4 s).c.k) ∧ w'.cell? ⟨B, 27, none⟩ = some (.int .i64 (mg4 s).c.n) ∧ w'.cell? ⟨B, 28, none⟩ = some (.int .i64 (mg4 s).d.k) ∧ w'.cell? ⟨B, 29, none⟩ = some (.int .i64 (mg4 s).d.n) ∧
    w'.cell? ⟨B, 30, none⟩ = some (.int .i64 (pd4 s).a.k) ∧ w'.cell? ⟨B, 31, none⟩ = some (.int .i64 (pd4 s).a.n) ∧ w'.cell? ⟨B, 32, none⟩ = some (.int .i64 (pd4 s).b.k) ∧ w'.cell? ⟨B, 33, none⟩ = some (.int .i64 (pd4 s).b.n) ∧
    w'.cell? ⟨B, 34, none⟩ = some (.int .i64 (pd4 s).c.k) ∧ w'.cell? ⟨B, 35, none⟩ = some (.int .i64 (pd4 s).c.n) ∧ w'.cell? ⟨B, 36, none⟩ = some (.int .i64 (pd4 s).d.k) ∧ w'.cell? ⟨B, 37, none⟩ = some (.int .i64 (pd4 s).d.n) ∧
    w'.cell? ⟨B, 38, none⟩ = some (.int .i64 (bd4 s).a) ∧ w'.cell? ⟨B, 39, none⟩ = some (.int .i64 (bd4 s).b) ∧ w'.cell? ⟨B, 40, none⟩ = some (.int .i64 (bd4 s).c) ∧ w'.cell? ⟨B, 41, none⟩ = some (.int .i64 (bd4 s).d) := fun w' hs => by
  have k := h.seen hs
  have e := fun j => k.cell j
  have l := fun i (hi : i < 18) => stl_len hf hi
  have b := fun j (hj : j < 4) => stl_bord hf hj
  exact ⟨(e 22).trans (l 10 (by omega)).1, (e 23).trans (l 10 (by omega)).2, (e 24).trans (l 11 (by omega)).1, (e 25).trans (l 11 (by omega)).2, (e 26).trans (l 12 (by omega)).1, (e 27).trans (l 12 (by omega)).2, (e 28).trans (l 13 (by omega)).1, (e 29).trans (l 13 (by omega)).2,
    (e 30).trans (l 14 (by omega)).1, (e 31).trans (l 14 (by omega)).2, (e 32).trans (l 15 (by omega)).1, (e 33).trans (l 15 (by omega)).2, (e 34).trans (l 16 (by omega)).1, (e 35).trans (l 16 (by omega)).2, (e 36).trans (l 17 (by omega)).1, (e 37).trans (l 17 (by omega)).2,
    (e 38).trans (b 0 (by omega)), (e 39).trans (b 1 (by omega)), (e 40).trans (b 2 (by omega)), (e 41).trans (b 3 (by omega))⟩
end Go.Proofs.YtngeaigkafamiaaGreat

