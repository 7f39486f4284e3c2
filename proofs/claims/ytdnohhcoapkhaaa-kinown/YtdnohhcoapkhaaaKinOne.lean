/- Contract of the law's own one, of a Kin and its tree; no conditions beyond those written in each theorem. -/
import Derived.Test.YtdnohhcoapkhaaaKinRows
import Derived.Test.YtdnohhcoapkhaaaRefKin2
import Derived.Test.YtdnohhcoapkhaaaKinOf
import Derived.Test.YtdnohhcoapkhaaaHandS
import Derived.Deep.DeepCutAuto
namespace Go.Proofs.Ytdnohhcoapkhaaa
open Go.ChangeShapes Go.WideShapes Go.ChangeAt Go.RowKit
set_option maxRecDepth 100000
theorem num_neq (x : Int) (p q : Operand) (w : World) : ((do eqGuard .neq 3 p q (.int .i64 x) (.int .i64 x); binOp .neq 3 (.int .i64 x) (.int .i64 x)) : Sem Value).run Try.prog w = .ok (.bool false) w := by
  go_simp
theorem bool_neq (x : Bool) (p q : Operand) (w : World) : ((do eqGuard .neq 4 p q (.bool x) (.bool x); binOp .neq 4 (.bool x) (.bool x)) : Sem Value).run Try.prog w = .ok (.bool false) w := by
  go_simp
theorem plAt_both (l : List Nd) (m : Int) : (plAt l m).made = (inB l m && madeB l m) ∧ (plAt l m).out = (inB l m && outB l m) := by
  cases h : inB l m
  · rw [plAt_no h]; exact ⟨rfl, rfl⟩
  · rw [(plAt_made h).1, (plAt_made h).2.1]; exact ⟨rfl, rfl⟩
theorem run_index22 (b off k n c : Nat) (hk : k < n) (w : World) : (Instr.indexAt 22 (.slice (some ⟨b, off, none⟩) n c) (.int .i64 k)).run Try.prog w = .ok (.pointer (some ⟨b, off + k * 49, none⟩)) w := by
  simp [Instr.indexAt, asIntOf, run_underlying Try.underlying22, Try.sizeOf42, add_plain]
  omega
theorem run_loadSA {w : World} {b o : Nat} {x : Nd} (h : At w b o x) : (Instr.loadAt 40 (.pointer (some ⟨b, o, none⟩))).run Try.prog w = .ok (sv x.s) w := by
  have := run_loadVar_mid w b o 40 (stl x.s) _ h.sty Try.underlying40 rfl (by rw [x.full.len]; exact info27)
  simp only [Instr.loadAt, Instr.sureAddr, Sem.run_bind, Sem.run_pure, Result.andThen_ok, this]
  rfl
set_option maxHeartbeats 8000000 in
theorem one_neg (v : Value) (ad : Option Addr) (n c : Nat) (l : List Nd) (m : Int) (w : World) (h : KV w v l) (hs : NS w ad n l) (hf : FormedT l) (hm : m < 0) :
    Calls Try.prog 10 #[v, .slice ad n c, .int .i64 m] w fun e w' => e = .returned (.bool true) ∧ Seen w w' := by
  have HL : Hid (l.length = n) := hs.1
  have hn : n ≤ 65535 := by have := h.len; have := HL.out; omega
  have hb : inB l m = false := by unfold inB; rw [HL.out]; simp; omega
  have HP : Hid (plAt l m = noP) := plAt_no hb
  have HY : Hid (styAt l m = zeroS) := by unfold Hid styAt; rw [hb]; rfl
  have hm0 : ¬ 0 ≤ m := by omega
  have HS := Lib.hid hs
  have HK := Lib.hid h
  have HF := Lib.hid hf
  have HB := Lib.hid hb
  obtain ⟨W, hW⟩ : ∃ W, W = w.alloc (.cells (stl zeroS).toArray 40) := ⟨_, rfl⟩
  have HZ : Hid (Hs W w.heap.size zeroS) := by rw [hW]; exact hs_new w zeroS
  have SW : Hid (Seen w W) := by rw [hW]; exact (Seen.refl w).alloc _
  clear h hs hf hb
  go_enter Try.func10, Try.ntmps10
  go_wp2_with fail
  rw [zero_lit, ← hW]
  clear hW
  have HST := HZ
  have SC := SW
  clear HZ SW
  obtain ⟨wc, hwc⟩ : ∃ wc, wc = W := ⟨_, rfl⟩
  rw [← hwc] at HST SC ⊢
  clear hwc
  have ST : Hid (∀ w', Seen wc w' → Hs w' w.heap.size zeroS) := fun w' h' => HST.out.seen h'
  have FS : Hid (Full zeroS) := zero_full
  clear HST
  have KC : Hid (∀ w', Seen wc w' → KV w' v l) := fun w' h' => HK.out.seen (SC.out.trans h')
  have NC : Hid (∀ w', Seen wc w' → NS w' ad n l) := fun w' h' => HS.out.seen (SC.out.trans h')
  have C16 : Hid (∀ w', Seen wc w' → Calls Try.prog 16 #[v, .int .i64 m] w' fun e w'' => e = .returned (.int .i64 noP.par) ∧ Seen w' w'') := fun w' h' => by rw [← HP.out]; exact parent_kin v l m w' (KC.out w' h')
  have C20 : Hid (∀ w', Seen wc w' → Calls Try.prog 20 #[v, .int .i64 m] w' fun e w'' => e = .returned (.int .i64 noP.deep) ∧ Seen w' w'') := fun w' h' => by rw [← HP.out]; exact deep_kin v l m w' (KC.out w' h')
  have C21 : Hid (∀ w', Seen wc w' → Calls Try.prog 21 #[v, .int .i64 m] w' fun e w'' => e = .returned (.bool noP.made) ∧ Seen w' w'') := fun w' h' => by rw [← HP.out]; exact made_kin v l m w' (KC.out w' h')
  have C22 : Hid (∀ w', Seen wc w' → Calls Try.prog 22 #[v, .int .i64 m] w' fun e w'' => e = .returned (.bool noP.out) ∧ Seen w' w'') := fun w' h' => by rw [← HP.out]; exact out_kin v l m w' (KC.out w' h')
  have C12 : Hid (∀ w', Seen wc w' → Calls Try.prog 12 #[v, .int .i64 m] w' fun e w'' => e = .returned (.int .i64 noP.stop) ∧ Seen w' w'') := fun w' h' => by rw [← HP.out]; exact end_kin v l m w' (KC.out w' h')
  have C17 : Hid (∀ w', Seen wc w' → Calls Try.prog 17 #[v, .int .i64 m] w' fun e w'' => e = .returned (sv zeroS) ∧ Seen w' w'') := fun w' h' => by rw [← HY.out]; exact style_kin v l m w' (KC.out w' h')
  have C30 : Hid (∀ w', Seen wc w' → Calls Try.prog 30 #[.slice ad n c, .int .i64 m] w' fun e w'' => e = .returned (.bool noP.made) ∧ w'' = w') := fun w' h' => by
    rw [← HP.out, (plAt_both l m).1]; exact refMade_any ad n c l m w' (NC.out w' h') HF.out (by omega)
  have C31 : Hid (∀ w', Seen wc w' → Calls Try.prog 31 #[.slice ad n c, .int .i64 m] w' fun e w'' => e = .returned (.bool noP.out) ∧ w'' = w') := fun w' h' => by
    rw [← HP.out, (plAt_both l m).2]; exact refOut_any ad n c l m w' (NC.out w' h') HF.out (by omega)
  have C32 : Hid (∀ w', Seen wc w' → Calls Try.prog 32 #[.slice ad n c, .int .i64 m] w' fun e w'' => e = .returned (.int .i64 noP.stop) ∧ w'' = w') := fun w' h' => by
    rw [← HP.out, plAt_stop]; exact refEnd_any ad n c l m w' (NC.out w' h') HF.out (by omega)
  have sd : Seen wc wc.drew := (Seen.refl wc).drew
  refine wp_region_held_drew (S := fun w' => Seen wc w') (by kernel_rfl) sd (fun _ => ?_)
  refine hTake 0 (some 32) (v) (by kernel_rfl) (by kernel_rfl) (by kernel_rfl) (by kernel_rfl) (by kernel_rfl) (by kernel_rfl) (fun _ _ _ h => h) (fun w' hS => by kernel_rfl) sd ?_
  simp only [Act.put, List.setIfInBounds_toArray, List.set_cons_zero, List.set_cons_succ]
  refine hTake 1 (some 33) (.int .i64 m) (by kernel_rfl) (by kernel_rfl) (by kernel_rfl) (by kernel_rfl) (by kernel_rfl) (by kernel_rfl) (fun _ _ _ h => h) (fun w' hS => by kernel_rfl) sd ?_
  simp only [Act.put, List.setIfInBounds_toArray, List.set_cons_zero, List.set_cons_succ]
  refine hTake 3 (some 35) (.int .i64 noP.par) (by kernel_rfl) (by kernel_rfl) (by kernel_rfl) (by kernel_rfl) (by kernel_rfl) (by kernel_rfl) (fun _ _ _ h => h) (fun w' hS => by kernel_rfl) sd ?_
  simp only [Act.put, List.setIfInBounds_toArray, List.set_cons_zero, List.set_cons_succ]
  refine hCall 2 (some 34) 16 #[v, .int .i64 m] (by kernel_rfl) (by kernel_rfl) (by kernel_rfl) (by kernel_rfl) (by kernel_rfl) ?_
  refine (C16.out _ sd).mono ?_
  rintro _ x1 ⟨rfl, hx1⟩
  have sx1 : Seen wc x1 := Seen.trans sd hx1
  clear hx1
  refine ⟨_, rfl, sx1, ?_⟩
  simp only [Act.put, List.setIfInBounds_toArray, List.set_cons_zero, List.set_cons_succ]
  refine hTake 4 (some 36) (.bool false) (by kernel_rfl) (by kernel_rfl) (by kernel_rfl) (by kernel_rfl) (by kernel_rfl) (by kernel_rfl) (fun _ _ _ h => h) (fun w' hS => run_by _ (by kernel_rfl) (num_neq (noP.par) (.tmp 34) (.tmp 35) _)) sx1 ?_
  simp only [Act.put, List.setIfInBounds_toArray, List.set_cons_zero, List.set_cons_succ]
  refine hTake 5 (some 37) (.bool false) (by kernel_rfl) (by kernel_rfl) (by kernel_rfl) (by kernel_rfl) (by kernel_rfl) (by kernel_rfl) (fun _ _ _ h => h) (fun w' hS => by kernel_rfl) sx1 ?_
  simp only [Act.put, List.setIfInBounds_toArray, List.set_cons_zero, List.set_cons_succ]
  refine hTake 6 (some 38) (v) (by kernel_rfl) (by kernel_rfl) (by kernel_rfl) (by kernel_rfl) (by kernel_rfl) (by kernel_rfl) (fun _ _ _ h => h) (fun w' hS => by kernel_rfl) sx1 ?_
  simp only [Act.put, List.setIfInBounds_toArray, List.set_cons_zero, List.set_cons_succ]
  refine hTake 7 (some 39) (.int .i64 m) (by kernel_rfl) (by kernel_rfl) (by kernel_rfl) (by kernel_rfl) (by kernel_rfl) (by kernel_rfl) (fun _ _ _ h => h) (fun w' hS => by kernel_rfl) sx1 ?_
  simp only [Act.put, List.setIfInBounds_toArray, List.set_cons_zero, List.set_cons_succ]
  refine hTake 9 (some 41) (sv zeroS) (by kernel_rfl) (by kernel_rfl) (by kernel_rfl) (by kernel_rfl) (by kernel_rfl) (by kernel_rfl) (fun _ _ _ h => h) (fun w' hS => run_by (Instr.loadAt 40 (.pointer (some ⟨w.heap.size, 0, none⟩))) (by kernel_rfl) (run_loadAtS (ST.out _ hS) FS.out)) sx1 ?_
  simp only [Act.put, List.setIfInBounds_toArray, List.set_cons_zero, List.set_cons_succ]
  refine hCall 8 (some 40) 17 #[v, .int .i64 m] (by kernel_rfl) (by kernel_rfl) (by kernel_rfl) (by kernel_rfl) (by kernel_rfl) ?_
  refine (C17.out _ sx1).mono ?_
  rintro _ x2 ⟨rfl, hx2⟩
  have sx2 : Seen wc x2 := Seen.trans sx1 hx2
  clear hx2
  refine ⟨_, rfl, sx2, ?_⟩
  simp only [Act.put, List.setIfInBounds_toArray, List.set_cons_zero, List.set_cons_succ]
  refine hTake 10 (some 42) (.bool false) (by kernel_rfl) (by kernel_rfl) (by kernel_rfl) (by kernel_rfl) (by kernel_rfl) (by kernel_rfl) (fun _ _ _ h => h) (fun w' hS => run_by _ (by kernel_rfl) (sty_neq zeroS FS.out (.tmp 40) (.tmp 41) _)) sx2 ?_
  simp only [Act.put, List.setIfInBounds_toArray, List.set_cons_zero, List.set_cons_succ]
  refine hTake 11 (some 43) (.bool false) (by kernel_rfl) (by kernel_rfl) (by kernel_rfl) (by kernel_rfl) (by kernel_rfl) (by kernel_rfl) (fun _ _ _ h => h) (fun w' hS => by kernel_rfl) sx2 ?_
  simp only [Act.put, List.setIfInBounds_toArray, List.set_cons_zero, List.set_cons_succ]
  refine hTake 12 (some 44) (.bool false) (by kernel_rfl) (by kernel_rfl) (by kernel_rfl) (by kernel_rfl) (by kernel_rfl) (by kernel_rfl) (fun _ _ _ h => h) (fun w' hS => by kernel_rfl) sx2 ?_
  simp only [Act.put, List.setIfInBounds_toArray, List.set_cons_zero, List.set_cons_succ]
  refine hTake 13 (some 45) (v) (by kernel_rfl) (by kernel_rfl) (by kernel_rfl) (by kernel_rfl) (by kernel_rfl) (by kernel_rfl) (fun _ _ _ h => h) (fun w' hS => by kernel_rfl) sx2 ?_
  simp only [Act.put, List.setIfInBounds_toArray, List.set_cons_zero, List.set_cons_succ]
  refine hTake 14 (some 46) (.int .i64 m) (by kernel_rfl) (by kernel_rfl) (by kernel_rfl) (by kernel_rfl) (by kernel_rfl) (by kernel_rfl) (fun _ _ _ h => h) (fun w' hS => by kernel_rfl) sx2 ?_
  simp only [Act.put, List.setIfInBounds_toArray, List.set_cons_zero, List.set_cons_succ]
  refine hTake 16 (some 48) (.int .i64 noP.deep) (by kernel_rfl) (by kernel_rfl) (by kernel_rfl) (by kernel_rfl) (by kernel_rfl) (by kernel_rfl) (fun _ _ _ h => h) (fun w' hS => by kernel_rfl) sx2 ?_
  simp only [Act.put, List.setIfInBounds_toArray, List.set_cons_zero, List.set_cons_succ]
  refine hCall 15 (some 47) 20 #[v, .int .i64 m] (by kernel_rfl) (by kernel_rfl) (by kernel_rfl) (by kernel_rfl) (by kernel_rfl) ?_
  refine (C20.out _ sx2).mono ?_
  rintro _ x3 ⟨rfl, hx3⟩
  have sx3 : Seen wc x3 := Seen.trans sx2 hx3
  clear hx3
  refine ⟨_, rfl, sx3, ?_⟩
  simp only [Act.put, List.setIfInBounds_toArray, List.set_cons_zero, List.set_cons_succ]
  refine hTake 17 (some 49) (.bool false) (by kernel_rfl) (by kernel_rfl) (by kernel_rfl) (by kernel_rfl) (by kernel_rfl) (by kernel_rfl) (fun _ _ _ h => h) (fun w' hS => run_by _ (by kernel_rfl) (num_neq (noP.deep) (.tmp 47) (.tmp 48) _)) sx3 ?_
  simp only [Act.put, List.setIfInBounds_toArray, List.set_cons_zero, List.set_cons_succ]
  refine hTake 18 (some 50) (.bool false) (by kernel_rfl) (by kernel_rfl) (by kernel_rfl) (by kernel_rfl) (by kernel_rfl) (by kernel_rfl) (fun _ _ _ h => h) (fun w' hS => by kernel_rfl) sx3 ?_
  simp only [Act.put, List.setIfInBounds_toArray, List.set_cons_zero, List.set_cons_succ]
  refine hTake 19 (some 51) (.bool false) (by kernel_rfl) (by kernel_rfl) (by kernel_rfl) (by kernel_rfl) (by kernel_rfl) (by kernel_rfl) (fun _ _ _ h => h) (fun w' hS => by kernel_rfl) sx3 ?_
  simp only [Act.put, List.setIfInBounds_toArray, List.set_cons_zero, List.set_cons_succ]
  refine hTake 20 (some 52) (v) (by kernel_rfl) (by kernel_rfl) (by kernel_rfl) (by kernel_rfl) (by kernel_rfl) (by kernel_rfl) (fun _ _ _ h => h) (fun w' hS => by kernel_rfl) sx3 ?_
  simp only [Act.put, List.setIfInBounds_toArray, List.set_cons_zero, List.set_cons_succ]
  refine hTake 21 (some 53) (.int .i64 m) (by kernel_rfl) (by kernel_rfl) (by kernel_rfl) (by kernel_rfl) (by kernel_rfl) (by kernel_rfl) (fun _ _ _ h => h) (fun w' hS => by kernel_rfl) sx3 ?_
  simp only [Act.put, List.setIfInBounds_toArray, List.set_cons_zero, List.set_cons_succ]
  refine hTake 23 (some 55) (.slice ad n c) (by kernel_rfl) (by kernel_rfl) (by kernel_rfl) (by kernel_rfl) (by kernel_rfl) (by kernel_rfl) (fun _ _ _ h => h) (fun w' hS => by kernel_rfl) sx3 ?_
  simp only [Act.put, List.setIfInBounds_toArray, List.set_cons_zero, List.set_cons_succ]
  refine hTake 24 (some 56) (.int .i64 m) (by kernel_rfl) (by kernel_rfl) (by kernel_rfl) (by kernel_rfl) (by kernel_rfl) (by kernel_rfl) (fun _ _ _ h => h) (fun w' hS => by kernel_rfl) sx3 ?_
  simp only [Act.put, List.setIfInBounds_toArray, List.set_cons_zero, List.set_cons_succ]
  refine hCall 22 (some 54) 21 #[v, .int .i64 m] (by kernel_rfl) (by kernel_rfl) (by kernel_rfl) (by kernel_rfl) (by kernel_rfl) ?_
  refine (C21.out _ sx3).mono ?_
  rintro _ x4 ⟨rfl, hx4⟩
  have sx4 : Seen wc x4 := Seen.trans sx3 hx4
  clear hx4
  refine ⟨_, rfl, sx4, ?_⟩
  simp only [Act.put, List.setIfInBounds_toArray, List.set_cons_zero, List.set_cons_succ]
  refine hCall 25 (some 57) 30 #[.slice ad n c, .int .i64 m] (by kernel_rfl) (by kernel_rfl) (by kernel_rfl) (by kernel_rfl) (by kernel_rfl) ?_
  refine (C30.out _ sx4).mono ?_
  rintro _ x5 ⟨rfl, hx5⟩
  rw [hx5]
  clear hx5
  refine ⟨_, rfl, sx4, ?_⟩
  simp only [Act.put, List.setIfInBounds_toArray, List.set_cons_zero, List.set_cons_succ]
  refine hTake 26 (some 58) (.bool false) (by kernel_rfl) (by kernel_rfl) (by kernel_rfl) (by kernel_rfl) (by kernel_rfl) (by kernel_rfl) (fun _ _ _ h => h) (fun w' hS => run_by _ (by kernel_rfl) (bool_neq (noP.made) (.tmp 54) (.tmp 57) _)) sx4 ?_
  simp only [Act.put, List.setIfInBounds_toArray, List.set_cons_zero, List.set_cons_succ]
  refine hTake 27 (some 59) (.bool false) (by kernel_rfl) (by kernel_rfl) (by kernel_rfl) (by kernel_rfl) (by kernel_rfl) (by kernel_rfl) (fun _ _ _ h => h) (fun w' hS => by kernel_rfl) sx4 ?_
  simp only [Act.put, List.setIfInBounds_toArray, List.set_cons_zero, List.set_cons_succ]
  refine hTake 28 (some 60) (.bool false) (by kernel_rfl) (by kernel_rfl) (by kernel_rfl) (by kernel_rfl) (by kernel_rfl) (by kernel_rfl) (fun _ _ _ h => h) (fun w' hS => by kernel_rfl) sx4 ?_
  simp only [Act.put, List.setIfInBounds_toArray, List.set_cons_zero, List.set_cons_succ]
  refine hTake 29 (some 61) (v) (by kernel_rfl) (by kernel_rfl) (by kernel_rfl) (by kernel_rfl) (by kernel_rfl) (by kernel_rfl) (fun _ _ _ h => h) (fun w' hS => by kernel_rfl) sx4 ?_
  simp only [Act.put, List.setIfInBounds_toArray, List.set_cons_zero, List.set_cons_succ]
  refine hTake 30 (some 62) (.int .i64 m) (by kernel_rfl) (by kernel_rfl) (by kernel_rfl) (by kernel_rfl) (by kernel_rfl) (by kernel_rfl) (fun _ _ _ h => h) (fun w' hS => by kernel_rfl) sx4 ?_
  simp only [Act.put, List.setIfInBounds_toArray, List.set_cons_zero, List.set_cons_succ]
  refine hTake 32 (some 64) (.slice ad n c) (by kernel_rfl) (by kernel_rfl) (by kernel_rfl) (by kernel_rfl) (by kernel_rfl) (by kernel_rfl) (fun _ _ _ h => h) (fun w' hS => by kernel_rfl) sx4 ?_
  simp only [Act.put, List.setIfInBounds_toArray, List.set_cons_zero, List.set_cons_succ]
  refine hTake 33 (some 65) (.int .i64 m) (by kernel_rfl) (by kernel_rfl) (by kernel_rfl) (by kernel_rfl) (by kernel_rfl) (by kernel_rfl) (fun _ _ _ h => h) (fun w' hS => by kernel_rfl) sx4 ?_
  simp only [Act.put, List.setIfInBounds_toArray, List.set_cons_zero, List.set_cons_succ]
  refine hCall 31 (some 63) 22 #[v, .int .i64 m] (by kernel_rfl) (by kernel_rfl) (by kernel_rfl) (by kernel_rfl) (by kernel_rfl) ?_
  refine (C22.out _ sx4).mono ?_
  rintro _ x6 ⟨rfl, hx6⟩
  have sx6 : Seen wc x6 := Seen.trans sx4 hx6
  clear hx6
  refine ⟨_, rfl, sx6, ?_⟩
  simp only [Act.put, List.setIfInBounds_toArray, List.set_cons_zero, List.set_cons_succ]
  refine hCall 34 (some 66) 31 #[.slice ad n c, .int .i64 m] (by kernel_rfl) (by kernel_rfl) (by kernel_rfl) (by kernel_rfl) (by kernel_rfl) ?_
  refine (C31.out _ sx6).mono ?_
  rintro _ x7 ⟨rfl, hx7⟩
  rw [hx7]
  clear hx7
  refine ⟨_, rfl, sx6, ?_⟩
  simp only [Act.put, List.setIfInBounds_toArray, List.set_cons_zero, List.set_cons_succ]
  refine hTake 35 (some 67) (.bool false) (by kernel_rfl) (by kernel_rfl) (by kernel_rfl) (by kernel_rfl) (by kernel_rfl) (by kernel_rfl) (fun _ _ _ h => h) (fun w' hS => run_by _ (by kernel_rfl) (bool_neq (noP.out) (.tmp 63) (.tmp 66) _)) sx6 ?_
  simp only [Act.put, List.setIfInBounds_toArray, List.set_cons_zero, List.set_cons_succ]
  refine hTake 36 (some 68) (.bool false) (by kernel_rfl) (by kernel_rfl) (by kernel_rfl) (by kernel_rfl) (by kernel_rfl) (by kernel_rfl) (fun _ _ _ h => h) (fun w' hS => by kernel_rfl) sx6 ?_
  simp only [Act.put, List.setIfInBounds_toArray, List.set_cons_zero, List.set_cons_succ]
  refine hTake 37 (some 69) (.bool false) (by kernel_rfl) (by kernel_rfl) (by kernel_rfl) (by kernel_rfl) (by kernel_rfl) (by kernel_rfl) (fun _ _ _ h => h) (fun w' hS => by kernel_rfl) sx6 ?_
  simp only [Act.put, List.setIfInBounds_toArray, List.set_cons_zero, List.set_cons_succ]
  refine hTake 38 (some 70) (v) (by kernel_rfl) (by kernel_rfl) (by kernel_rfl) (by kernel_rfl) (by kernel_rfl) (by kernel_rfl) (fun _ _ _ h => h) (fun w' hS => by kernel_rfl) sx6 ?_
  simp only [Act.put, List.setIfInBounds_toArray, List.set_cons_zero, List.set_cons_succ]
  refine hTake 39 (some 71) (.int .i64 m) (by kernel_rfl) (by kernel_rfl) (by kernel_rfl) (by kernel_rfl) (by kernel_rfl) (by kernel_rfl) (fun _ _ _ h => h) (fun w' hS => by kernel_rfl) sx6 ?_
  simp only [Act.put, List.setIfInBounds_toArray, List.set_cons_zero, List.set_cons_succ]
  refine hTake 41 (some 73) (.slice ad n c) (by kernel_rfl) (by kernel_rfl) (by kernel_rfl) (by kernel_rfl) (by kernel_rfl) (by kernel_rfl) (fun _ _ _ h => h) (fun w' hS => by kernel_rfl) sx6 ?_
  simp only [Act.put, List.setIfInBounds_toArray, List.set_cons_zero, List.set_cons_succ]
  refine hTake 42 (some 74) (.int .i64 m) (by kernel_rfl) (by kernel_rfl) (by kernel_rfl) (by kernel_rfl) (by kernel_rfl) (by kernel_rfl) (fun _ _ _ h => h) (fun w' hS => by kernel_rfl) sx6 ?_
  simp only [Act.put, List.setIfInBounds_toArray, List.set_cons_zero, List.set_cons_succ]
  refine hCall 40 (some 72) 12 #[v, .int .i64 m] (by kernel_rfl) (by kernel_rfl) (by kernel_rfl) (by kernel_rfl) (by kernel_rfl) ?_
  refine (C12.out _ sx6).mono ?_
  rintro _ x8 ⟨rfl, hx8⟩
  have sx8 : Seen wc x8 := Seen.trans sx6 hx8
  clear hx8
  refine ⟨_, rfl, sx8, ?_⟩
  simp only [Act.put, List.setIfInBounds_toArray, List.set_cons_zero, List.set_cons_succ]
  refine hCall 43 (some 75) 32 #[.slice ad n c, .int .i64 m] (by kernel_rfl) (by kernel_rfl) (by kernel_rfl) (by kernel_rfl) (by kernel_rfl) ?_
  refine (C32.out _ sx8).mono ?_
  rintro _ x9 ⟨rfl, hx9⟩
  rw [hx9]
  clear hx9
  refine ⟨_, rfl, sx8, ?_⟩
  simp only [Act.put, List.setIfInBounds_toArray, List.set_cons_zero, List.set_cons_succ]
  refine hTake 44 (some 76) (.bool false) (by kernel_rfl) (by kernel_rfl) (by kernel_rfl) (by kernel_rfl) (by kernel_rfl) (by kernel_rfl) (fun _ _ _ h => h) (fun w' hS => run_by _ (by kernel_rfl) (num_neq (noP.stop) (.tmp 72) (.tmp 75) _)) sx8 ?_
  simp only [Act.put, List.setIfInBounds_toArray, List.set_cons_zero, List.set_cons_succ]
  refine hTake 45 (some 77) (.bool false) (by kernel_rfl) (by kernel_rfl) (by kernel_rfl) (by kernel_rfl) (by kernel_rfl) (by kernel_rfl) (fun _ _ _ h => h) (fun w' hS => by kernel_rfl) sx8 ?_
  simp only [Act.put, List.setIfInBounds_toArray, List.set_cons_zero, List.set_cons_succ]
  refine wpAnyH_done (by kernel_rfl) ?_ _
  have SX : Hid (Seen wc x8) := sx8
  have SXW : Hid (Seen w x8) := SC.out.trans SX.out
  clear sx1 sx2 sx3 sx4 sx6 sx8 sd C16 C17 C20 C21 C22 C12 C30 C31 C32 ST FS
  have K15 : Hid (∀ w', Seen x8 w' → Calls Try.prog 15 #[v, .int .i64 m] w' (RowI w' (kidsV l m))) := fun w' h' => kids_kin v l m w' (KC.out w' (SX.out.trans h'))
  have K18 : Hid (∀ w', Seen x8 w' → Calls Try.prog 18 #[v, .int .i64 m] w' (RowI w' (flowV l m))) := fun w' h' => flow_kin v l m w' (KC.out w' (SX.out.trans h'))
  have K19 : Hid (∀ w', Seen x8 w' → Calls Try.prog 19 #[v, .int .i64 m] w' (RowI w' (upV l m))) := fun w' h' => up_kin v l m w' (KC.out w' (SX.out.trans h'))
  have e1 : kidsV l m = [] := by unfold kidsV; rw [HB.out]; rfl
  have e2 : flowV l m = [] := by unfold flowV; rw [HB.out]; rfl
  have e3 : upV l m = [] := by unfold upV; rw [HB.out]; rfl
  have none_row : Hid (∀ (w' : World) (e : Ending) (w'' : World), RowI w' [] e w'' → ∃ a c, e = .returned (.slice a 0 c) ∧ Seen w' w'') := fun w' e w'' h => by
    obtain ⟨v, rfl, hr, hs⟩ := h
    obtain ⟨a, c, rfl, _, _⟩ := hr.slice
    exact ⟨a, c, rfl, hs⟩
  rw [e1] at K15
  rw [e2] at K18
  rw [e3] at K19
  have J15 : Hid (∀ w', Seen x8 w' → Calls Try.prog 15 #[v, .int .i64 m] w' fun e w'' => ∃ a c, e = .returned (.slice a 0 c) ∧ Seen w' w'') := fun w' h' => (K15.out w' h').mono fun _ _ h => none_row.out _ _ _ h
  have J18 : Hid (∀ w', Seen x8 w' → Calls Try.prog 18 #[v, .int .i64 m] w' fun e w'' => ∃ a c, e = .returned (.slice a 0 c) ∧ Seen w' w'') := fun w' h' => (K18.out w' h').mono fun _ _ h => none_row.out _ _ _ h
  have J19 : Hid (∀ w', Seen x8 w' → Calls Try.prog 19 #[v, .int .i64 m] w' fun e w'' => ∃ a c, e = .returned (.slice a 0 c) ∧ Seen w' w'') := fun w' h' => (K19.out w' h').mono fun _ _ h => none_row.out _ _ _ h
  clear e1 e2 e3 none_row K15 K18 K19
  go_wp2_with (first
    | (go_at_call 15; refine (J15.out x8 (Seen.refl x8)).mono ?_; clear J15; rintro _ y1 ⟨a1, c1, rfl, hs⟩; have T1 := Lib.hid hs; clear hs)
    | (go_at_call 18; refine (J18.out y1 T1.out).mono ?_; clear J18; rintro _ y2 ⟨a2, c2, rfl, hs⟩; have T2 := Lib.hid (T1.out.trans hs); clear hs)
    | (go_at_call 19; refine (J19.out y2 T2.out).mono ?_; clear J19; rintro _ y3 ⟨a3, c3, rfl, hs⟩; have T3 := Lib.hid (T2.out.trans hs); clear hs))
  go_ret
  exact ⟨rfl, SXW.out.trans T3.out⟩
set_option maxHeartbeats 8000000 in
theorem one_big (v : Value) (ad : Option Addr) (n c : Nat) (l : List Nd) (m : Int) (w : World) (h : KV w v l) (hs : NS w ad n l) (hf : FormedT l) (hm : (n : Int) ≤ m) :
    Calls Try.prog 10 #[v, .slice ad n c, .int .i64 m] w fun e w' => e = .returned (.bool true) ∧ Seen w w' := by
  have HL : Hid (l.length = n) := hs.1
  have hn : n ≤ 65535 := by have := h.len; have := HL.out; omega
  have hb : inB l m = false := by unfold inB; rw [HL.out]; simp; omega
  have HP : Hid (plAt l m = noP) := plAt_no hb
  have HY : Hid (styAt l m = zeroS) := by unfold Hid styAt; rw [hb]; rfl
  have hm0 : 0 ≤ m := by omega
  have hm1 : ¬ m < (n : Int) := by omega
  have HS := Lib.hid hs
  have HK := Lib.hid h
  have HF := Lib.hid hf
  have HB := Lib.hid hb
  obtain ⟨W, hW⟩ : ∃ W, W = w.alloc (.cells (stl zeroS).toArray 40) := ⟨_, rfl⟩
  have HZ : Hid (Hs W w.heap.size zeroS) := by rw [hW]; exact hs_new w zeroS
  have SW : Hid (Seen w W) := by rw [hW]; exact (Seen.refl w).alloc _
  clear h hs hf hb
  go_enter Try.func10, Try.ntmps10
  go_wp2_with fail
  rw [zero_lit, ← hW]
  clear hW
  have HST := HZ
  have SC := SW
  clear HZ SW
  obtain ⟨wc, hwc⟩ : ∃ wc, wc = W := ⟨_, rfl⟩
  rw [← hwc] at HST SC ⊢
  clear hwc
  have ST : Hid (∀ w', Seen wc w' → Hs w' w.heap.size zeroS) := fun w' h' => HST.out.seen h'
  have FS : Hid (Full zeroS) := zero_full
  clear HST
  have KC : Hid (∀ w', Seen wc w' → KV w' v l) := fun w' h' => HK.out.seen (SC.out.trans h')
  have NC : Hid (∀ w', Seen wc w' → NS w' ad n l) := fun w' h' => HS.out.seen (SC.out.trans h')
  have C16 : Hid (∀ w', Seen wc w' → Calls Try.prog 16 #[v, .int .i64 m] w' fun e w'' => e = .returned (.int .i64 noP.par) ∧ Seen w' w'') := fun w' h' => by rw [← HP.out]; exact parent_kin v l m w' (KC.out w' h')
  have C20 : Hid (∀ w', Seen wc w' → Calls Try.prog 20 #[v, .int .i64 m] w' fun e w'' => e = .returned (.int .i64 noP.deep) ∧ Seen w' w'') := fun w' h' => by rw [← HP.out]; exact deep_kin v l m w' (KC.out w' h')
  have C21 : Hid (∀ w', Seen wc w' → Calls Try.prog 21 #[v, .int .i64 m] w' fun e w'' => e = .returned (.bool noP.made) ∧ Seen w' w'') := fun w' h' => by rw [← HP.out]; exact made_kin v l m w' (KC.out w' h')
  have C22 : Hid (∀ w', Seen wc w' → Calls Try.prog 22 #[v, .int .i64 m] w' fun e w'' => e = .returned (.bool noP.out) ∧ Seen w' w'') := fun w' h' => by rw [← HP.out]; exact out_kin v l m w' (KC.out w' h')
  have C12 : Hid (∀ w', Seen wc w' → Calls Try.prog 12 #[v, .int .i64 m] w' fun e w'' => e = .returned (.int .i64 noP.stop) ∧ Seen w' w'') := fun w' h' => by rw [← HP.out]; exact end_kin v l m w' (KC.out w' h')
  have C17 : Hid (∀ w', Seen wc w' → Calls Try.prog 17 #[v, .int .i64 m] w' fun e w'' => e = .returned (sv zeroS) ∧ Seen w' w'') := fun w' h' => by rw [← HY.out]; exact style_kin v l m w' (KC.out w' h')
  have C30 : Hid (∀ w', Seen wc w' → Calls Try.prog 30 #[.slice ad n c, .int .i64 m] w' fun e w'' => e = .returned (.bool noP.made) ∧ w'' = w') := fun w' h' => by
    rw [← HP.out, (plAt_both l m).1]; exact refMade_any ad n c l m w' (NC.out w' h') HF.out (by omega)
  have C31 : Hid (∀ w', Seen wc w' → Calls Try.prog 31 #[.slice ad n c, .int .i64 m] w' fun e w'' => e = .returned (.bool noP.out) ∧ w'' = w') := fun w' h' => by
    rw [← HP.out, (plAt_both l m).2]; exact refOut_any ad n c l m w' (NC.out w' h') HF.out (by omega)
  have C32 : Hid (∀ w', Seen wc w' → Calls Try.prog 32 #[.slice ad n c, .int .i64 m] w' fun e w'' => e = .returned (.int .i64 noP.stop) ∧ w'' = w') := fun w' h' => by
    rw [← HP.out, plAt_stop]; exact refEnd_any ad n c l m w' (NC.out w' h') HF.out (by omega)
  have sd : Seen wc wc.drew := (Seen.refl wc).drew
  refine wp_region_held_drew (S := fun w' => Seen wc w') (by kernel_rfl) sd (fun _ => ?_)
  refine hTake 0 (some 32) (v) (by kernel_rfl) (by kernel_rfl) (by kernel_rfl) (by kernel_rfl) (by kernel_rfl) (by kernel_rfl) (fun _ _ _ h => h) (fun w' hS => by kernel_rfl) sd ?_
  simp only [Act.put, List.setIfInBounds_toArray, List.set_cons_zero, List.set_cons_succ]
  refine hTake 1 (some 33) (.int .i64 m) (by kernel_rfl) (by kernel_rfl) (by kernel_rfl) (by kernel_rfl) (by kernel_rfl) (by kernel_rfl) (fun _ _ _ h => h) (fun w' hS => by kernel_rfl) sd ?_
  simp only [Act.put, List.setIfInBounds_toArray, List.set_cons_zero, List.set_cons_succ]
  refine hTake 3 (some 35) (.int .i64 noP.par) (by kernel_rfl) (by kernel_rfl) (by kernel_rfl) (by kernel_rfl) (by kernel_rfl) (by kernel_rfl) (fun _ _ _ h => h) (fun w' hS => by kernel_rfl) sd ?_
  simp only [Act.put, List.setIfInBounds_toArray, List.set_cons_zero, List.set_cons_succ]
  refine hCall 2 (some 34) 16 #[v, .int .i64 m] (by kernel_rfl) (by kernel_rfl) (by kernel_rfl) (by kernel_rfl) (by kernel_rfl) ?_
  refine (C16.out _ sd).mono ?_
  rintro _ x1 ⟨rfl, hx1⟩
  have sx1 : Seen wc x1 := Seen.trans sd hx1
  clear hx1
  refine ⟨_, rfl, sx1, ?_⟩
  simp only [Act.put, List.setIfInBounds_toArray, List.set_cons_zero, List.set_cons_succ]
  refine hTake 4 (some 36) (.bool false) (by kernel_rfl) (by kernel_rfl) (by kernel_rfl) (by kernel_rfl) (by kernel_rfl) (by kernel_rfl) (fun _ _ _ h => h) (fun w' hS => run_by _ (by kernel_rfl) (num_neq (noP.par) (.tmp 34) (.tmp 35) _)) sx1 ?_
  simp only [Act.put, List.setIfInBounds_toArray, List.set_cons_zero, List.set_cons_succ]
  refine hTake 5 (some 37) (.bool false) (by kernel_rfl) (by kernel_rfl) (by kernel_rfl) (by kernel_rfl) (by kernel_rfl) (by kernel_rfl) (fun _ _ _ h => h) (fun w' hS => by kernel_rfl) sx1 ?_
  simp only [Act.put, List.setIfInBounds_toArray, List.set_cons_zero, List.set_cons_succ]
  refine hTake 6 (some 38) (v) (by kernel_rfl) (by kernel_rfl) (by kernel_rfl) (by kernel_rfl) (by kernel_rfl) (by kernel_rfl) (fun _ _ _ h => h) (fun w' hS => by kernel_rfl) sx1 ?_
  simp only [Act.put, List.setIfInBounds_toArray, List.set_cons_zero, List.set_cons_succ]
  refine hTake 7 (some 39) (.int .i64 m) (by kernel_rfl) (by kernel_rfl) (by kernel_rfl) (by kernel_rfl) (by kernel_rfl) (by kernel_rfl) (fun _ _ _ h => h) (fun w' hS => by kernel_rfl) sx1 ?_
  simp only [Act.put, List.setIfInBounds_toArray, List.set_cons_zero, List.set_cons_succ]
  refine hTake 9 (some 41) (sv zeroS) (by kernel_rfl) (by kernel_rfl) (by kernel_rfl) (by kernel_rfl) (by kernel_rfl) (by kernel_rfl) (fun _ _ _ h => h) (fun w' hS => run_by (Instr.loadAt 40 (.pointer (some ⟨w.heap.size, 0, none⟩))) (by kernel_rfl) (run_loadAtS (ST.out _ hS) FS.out)) sx1 ?_
  simp only [Act.put, List.setIfInBounds_toArray, List.set_cons_zero, List.set_cons_succ]
  refine hCall 8 (some 40) 17 #[v, .int .i64 m] (by kernel_rfl) (by kernel_rfl) (by kernel_rfl) (by kernel_rfl) (by kernel_rfl) ?_
  refine (C17.out _ sx1).mono ?_
  rintro _ x2 ⟨rfl, hx2⟩
  have sx2 : Seen wc x2 := Seen.trans sx1 hx2
  clear hx2
  refine ⟨_, rfl, sx2, ?_⟩
  simp only [Act.put, List.setIfInBounds_toArray, List.set_cons_zero, List.set_cons_succ]
  refine hTake 10 (some 42) (.bool false) (by kernel_rfl) (by kernel_rfl) (by kernel_rfl) (by kernel_rfl) (by kernel_rfl) (by kernel_rfl) (fun _ _ _ h => h) (fun w' hS => run_by _ (by kernel_rfl) (sty_neq zeroS FS.out (.tmp 40) (.tmp 41) _)) sx2 ?_
  simp only [Act.put, List.setIfInBounds_toArray, List.set_cons_zero, List.set_cons_succ]
  refine hTake 11 (some 43) (.bool false) (by kernel_rfl) (by kernel_rfl) (by kernel_rfl) (by kernel_rfl) (by kernel_rfl) (by kernel_rfl) (fun _ _ _ h => h) (fun w' hS => by kernel_rfl) sx2 ?_
  simp only [Act.put, List.setIfInBounds_toArray, List.set_cons_zero, List.set_cons_succ]
  refine hTake 12 (some 44) (.bool false) (by kernel_rfl) (by kernel_rfl) (by kernel_rfl) (by kernel_rfl) (by kernel_rfl) (by kernel_rfl) (fun _ _ _ h => h) (fun w' hS => by kernel_rfl) sx2 ?_
  simp only [Act.put, List.setIfInBounds_toArray, List.set_cons_zero, List.set_cons_succ]
  refine hTake 13 (some 45) (v) (by kernel_rfl) (by kernel_rfl) (by kernel_rfl) (by kernel_rfl) (by kernel_rfl) (by kernel_rfl) (fun _ _ _ h => h) (fun w' hS => by kernel_rfl) sx2 ?_
  simp only [Act.put, List.setIfInBounds_toArray, List.set_cons_zero, List.set_cons_succ]
  refine hTake 14 (some 46) (.int .i64 m) (by kernel_rfl) (by kernel_rfl) (by kernel_rfl) (by kernel_rfl) (by kernel_rfl) (by kernel_rfl) (fun _ _ _ h => h) (fun w' hS => by kernel_rfl) sx2 ?_
  simp only [Act.put, List.setIfInBounds_toArray, List.set_cons_zero, List.set_cons_succ]
  refine hTake 16 (some 48) (.int .i64 noP.deep) (by kernel_rfl) (by kernel_rfl) (by kernel_rfl) (by kernel_rfl) (by kernel_rfl) (by kernel_rfl) (fun _ _ _ h => h) (fun w' hS => by kernel_rfl) sx2 ?_
  simp only [Act.put, List.setIfInBounds_toArray, List.set_cons_zero, List.set_cons_succ]
  refine hCall 15 (some 47) 20 #[v, .int .i64 m] (by kernel_rfl) (by kernel_rfl) (by kernel_rfl) (by kernel_rfl) (by kernel_rfl) ?_
  refine (C20.out _ sx2).mono ?_
  rintro _ x3 ⟨rfl, hx3⟩
  have sx3 : Seen wc x3 := Seen.trans sx2 hx3
  clear hx3
  refine ⟨_, rfl, sx3, ?_⟩
  simp only [Act.put, List.setIfInBounds_toArray, List.set_cons_zero, List.set_cons_succ]
  refine hTake 17 (some 49) (.bool false) (by kernel_rfl) (by kernel_rfl) (by kernel_rfl) (by kernel_rfl) (by kernel_rfl) (by kernel_rfl) (fun _ _ _ h => h) (fun w' hS => run_by _ (by kernel_rfl) (num_neq (noP.deep) (.tmp 47) (.tmp 48) _)) sx3 ?_
  simp only [Act.put, List.setIfInBounds_toArray, List.set_cons_zero, List.set_cons_succ]
  refine hTake 18 (some 50) (.bool false) (by kernel_rfl) (by kernel_rfl) (by kernel_rfl) (by kernel_rfl) (by kernel_rfl) (by kernel_rfl) (fun _ _ _ h => h) (fun w' hS => by kernel_rfl) sx3 ?_
  simp only [Act.put, List.setIfInBounds_toArray, List.set_cons_zero, List.set_cons_succ]
  refine hTake 19 (some 51) (.bool false) (by kernel_rfl) (by kernel_rfl) (by kernel_rfl) (by kernel_rfl) (by kernel_rfl) (by kernel_rfl) (fun _ _ _ h => h) (fun w' hS => by kernel_rfl) sx3 ?_
  simp only [Act.put, List.setIfInBounds_toArray, List.set_cons_zero, List.set_cons_succ]
  refine hTake 20 (some 52) (v) (by kernel_rfl) (by kernel_rfl) (by kernel_rfl) (by kernel_rfl) (by kernel_rfl) (by kernel_rfl) (fun _ _ _ h => h) (fun w' hS => by kernel_rfl) sx3 ?_
  simp only [Act.put, List.setIfInBounds_toArray, List.set_cons_zero, List.set_cons_succ]
  refine hTake 21 (some 53) (.int .i64 m) (by kernel_rfl) (by kernel_rfl) (by kernel_rfl) (by kernel_rfl) (by kernel_rfl) (by kernel_rfl) (fun _ _ _ h => h) (fun w' hS => by kernel_rfl) sx3 ?_
  simp only [Act.put, List.setIfInBounds_toArray, List.set_cons_zero, List.set_cons_succ]
  refine hTake 23 (some 55) (.slice ad n c) (by kernel_rfl) (by kernel_rfl) (by kernel_rfl) (by kernel_rfl) (by kernel_rfl) (by kernel_rfl) (fun _ _ _ h => h) (fun w' hS => by kernel_rfl) sx3 ?_
  simp only [Act.put, List.setIfInBounds_toArray, List.set_cons_zero, List.set_cons_succ]
  refine hTake 24 (some 56) (.int .i64 m) (by kernel_rfl) (by kernel_rfl) (by kernel_rfl) (by kernel_rfl) (by kernel_rfl) (by kernel_rfl) (fun _ _ _ h => h) (fun w' hS => by kernel_rfl) sx3 ?_
  simp only [Act.put, List.setIfInBounds_toArray, List.set_cons_zero, List.set_cons_succ]
  refine hCall 22 (some 54) 21 #[v, .int .i64 m] (by kernel_rfl) (by kernel_rfl) (by kernel_rfl) (by kernel_rfl) (by kernel_rfl) ?_
  refine (C21.out _ sx3).mono ?_
  rintro _ x4 ⟨rfl, hx4⟩
  have sx4 : Seen wc x4 := Seen.trans sx3 hx4
  clear hx4
  refine ⟨_, rfl, sx4, ?_⟩
  simp only [Act.put, List.setIfInBounds_toArray, List.set_cons_zero, List.set_cons_succ]
  refine hCall 25 (some 57) 30 #[.slice ad n c, .int .i64 m] (by kernel_rfl) (by kernel_rfl) (by kernel_rfl) (by kernel_rfl) (by kernel_rfl) ?_
  refine (C30.out _ sx4).mono ?_
  rintro _ x5 ⟨rfl, hx5⟩
  rw [hx5]
  clear hx5
  refine ⟨_, rfl, sx4, ?_⟩
  simp only [Act.put, List.setIfInBounds_toArray, List.set_cons_zero, List.set_cons_succ]
  refine hTake 26 (some 58) (.bool false) (by kernel_rfl) (by kernel_rfl) (by kernel_rfl) (by kernel_rfl) (by kernel_rfl) (by kernel_rfl) (fun _ _ _ h => h) (fun w' hS => run_by _ (by kernel_rfl) (bool_neq (noP.made) (.tmp 54) (.tmp 57) _)) sx4 ?_
  simp only [Act.put, List.setIfInBounds_toArray, List.set_cons_zero, List.set_cons_succ]
  refine hTake 27 (some 59) (.bool false) (by kernel_rfl) (by kernel_rfl) (by kernel_rfl) (by kernel_rfl) (by kernel_rfl) (by kernel_rfl) (fun _ _ _ h => h) (fun w' hS => by kernel_rfl) sx4 ?_
  simp only [Act.put, List.setIfInBounds_toArray, List.set_cons_zero, List.set_cons_succ]
  refine hTake 28 (some 60) (.bool false) (by kernel_rfl) (by kernel_rfl) (by kernel_rfl) (by kernel_rfl) (by kernel_rfl) (by kernel_rfl) (fun _ _ _ h => h) (fun w' hS => by kernel_rfl) sx4 ?_
  simp only [Act.put, List.setIfInBounds_toArray, List.set_cons_zero, List.set_cons_succ]
  refine hTake 29 (some 61) (v) (by kernel_rfl) (by kernel_rfl) (by kernel_rfl) (by kernel_rfl) (by kernel_rfl) (by kernel_rfl) (fun _ _ _ h => h) (fun w' hS => by kernel_rfl) sx4 ?_
  simp only [Act.put, List.setIfInBounds_toArray, List.set_cons_zero, List.set_cons_succ]
  refine hTake 30 (some 62) (.int .i64 m) (by kernel_rfl) (by kernel_rfl) (by kernel_rfl) (by kernel_rfl) (by kernel_rfl) (by kernel_rfl) (fun _ _ _ h => h) (fun w' hS => by kernel_rfl) sx4 ?_
  simp only [Act.put, List.setIfInBounds_toArray, List.set_cons_zero, List.set_cons_succ]
  refine hTake 32 (some 64) (.slice ad n c) (by kernel_rfl) (by kernel_rfl) (by kernel_rfl) (by kernel_rfl) (by kernel_rfl) (by kernel_rfl) (fun _ _ _ h => h) (fun w' hS => by kernel_rfl) sx4 ?_
  simp only [Act.put, List.setIfInBounds_toArray, List.set_cons_zero, List.set_cons_succ]
  refine hTake 33 (some 65) (.int .i64 m) (by kernel_rfl) (by kernel_rfl) (by kernel_rfl) (by kernel_rfl) (by kernel_rfl) (by kernel_rfl) (fun _ _ _ h => h) (fun w' hS => by kernel_rfl) sx4 ?_
  simp only [Act.put, List.setIfInBounds_toArray, List.set_cons_zero, List.set_cons_succ]
  refine hCall 31 (some 63) 22 #[v, .int .i64 m] (by kernel_rfl) (by kernel_rfl) (by kernel_rfl) (by kernel_rfl) (by kernel_rfl) ?_
  refine (C22.out _ sx4).mono ?_
  rintro _ x6 ⟨rfl, hx6⟩
  have sx6 : Seen wc x6 := Seen.trans sx4 hx6
  clear hx6
  refine ⟨_, rfl, sx6, ?_⟩
  simp only [Act.put, List.setIfInBounds_toArray, List.set_cons_zero, List.set_cons_succ]
  refine hCall 34 (some 66) 31 #[.slice ad n c, .int .i64 m] (by kernel_rfl) (by kernel_rfl) (by kernel_rfl) (by kernel_rfl) (by kernel_rfl) ?_
  refine (C31.out _ sx6).mono ?_
  rintro _ x7 ⟨rfl, hx7⟩
  rw [hx7]
  clear hx7
  refine ⟨_, rfl, sx6, ?_⟩
  simp only [Act.put, List.setIfInBounds_toArray, List.set_cons_zero, List.set_cons_succ]
  refine hTake 35 (some 67) (.bool false) (by kernel_rfl) (by kernel_rfl) (by kernel_rfl) (by kernel_rfl) (by kernel_rfl) (by kernel_rfl) (fun _ _ _ h => h) (fun w' hS => run_by _ (by kernel_rfl) (bool_neq (noP.out) (.tmp 63) (.tmp 66) _)) sx6 ?_
  simp only [Act.put, List.setIfInBounds_toArray, List.set_cons_zero, List.set_cons_succ]
  refine hTake 36 (some 68) (.bool false) (by kernel_rfl) (by kernel_rfl) (by kernel_rfl) (by kernel_rfl) (by kernel_rfl) (by kernel_rfl) (fun _ _ _ h => h) (fun w' hS => by kernel_rfl) sx6 ?_
  simp only [Act.put, List.setIfInBounds_toArray, List.set_cons_zero, List.set_cons_succ]
  refine hTake 37 (some 69) (.bool false) (by kernel_rfl) (by kernel_rfl) (by kernel_rfl) (by kernel_rfl) (by kernel_rfl) (by kernel_rfl) (fun _ _ _ h => h) (fun w' hS => by kernel_rfl) sx6 ?_
  simp only [Act.put, List.setIfInBounds_toArray, List.set_cons_zero, List.set_cons_succ]
  refine hTake 38 (some 70) (v) (by kernel_rfl) (by kernel_rfl) (by kernel_rfl) (by kernel_rfl) (by kernel_rfl) (by kernel_rfl) (fun _ _ _ h => h) (fun w' hS => by kernel_rfl) sx6 ?_
  simp only [Act.put, List.setIfInBounds_toArray, List.set_cons_zero, List.set_cons_succ]
  refine hTake 39 (some 71) (.int .i64 m) (by kernel_rfl) (by kernel_rfl) (by kernel_rfl) (by kernel_rfl) (by kernel_rfl) (by kernel_rfl) (fun _ _ _ h => h) (fun w' hS => by kernel_rfl) sx6 ?_
  simp only [Act.put, List.setIfInBounds_toArray, List.set_cons_zero, List.set_cons_succ]
  refine hTake 41 (some 73) (.slice ad n c) (by kernel_rfl) (by kernel_rfl) (by kernel_rfl) (by kernel_rfl) (by kernel_rfl) (by kernel_rfl) (fun _ _ _ h => h) (fun w' hS => by kernel_rfl) sx6 ?_
  simp only [Act.put, List.setIfInBounds_toArray, List.set_cons_zero, List.set_cons_succ]
  refine hTake 42 (some 74) (.int .i64 m) (by kernel_rfl) (by kernel_rfl) (by kernel_rfl) (by kernel_rfl) (by kernel_rfl) (by kernel_rfl) (fun _ _ _ h => h) (fun w' hS => by kernel_rfl) sx6 ?_
  simp only [Act.put, List.setIfInBounds_toArray, List.set_cons_zero, List.set_cons_succ]
  refine hCall 40 (some 72) 12 #[v, .int .i64 m] (by kernel_rfl) (by kernel_rfl) (by kernel_rfl) (by kernel_rfl) (by kernel_rfl) ?_
  refine (C12.out _ sx6).mono ?_
  rintro _ x8 ⟨rfl, hx8⟩
  have sx8 : Seen wc x8 := Seen.trans sx6 hx8
  clear hx8
  refine ⟨_, rfl, sx8, ?_⟩
  simp only [Act.put, List.setIfInBounds_toArray, List.set_cons_zero, List.set_cons_succ]
  refine hCall 43 (some 75) 32 #[.slice ad n c, .int .i64 m] (by kernel_rfl) (by kernel_rfl) (by kernel_rfl) (by kernel_rfl) (by kernel_rfl) ?_
  refine (C32.out _ sx8).mono ?_
  rintro _ x9 ⟨rfl, hx9⟩
  rw [hx9]
  clear hx9
  refine ⟨_, rfl, sx8, ?_⟩
  simp only [Act.put, List.setIfInBounds_toArray, List.set_cons_zero, List.set_cons_succ]
  refine hTake 44 (some 76) (.bool false) (by kernel_rfl) (by kernel_rfl) (by kernel_rfl) (by kernel_rfl) (by kernel_rfl) (by kernel_rfl) (fun _ _ _ h => h) (fun w' hS => run_by _ (by kernel_rfl) (num_neq (noP.stop) (.tmp 72) (.tmp 75) _)) sx8 ?_
  simp only [Act.put, List.setIfInBounds_toArray, List.set_cons_zero, List.set_cons_succ]
  refine hTake 45 (some 77) (.bool false) (by kernel_rfl) (by kernel_rfl) (by kernel_rfl) (by kernel_rfl) (by kernel_rfl) (by kernel_rfl) (fun _ _ _ h => h) (fun w' hS => by kernel_rfl) sx8 ?_
  simp only [Act.put, List.setIfInBounds_toArray, List.set_cons_zero, List.set_cons_succ]
  refine wpAnyH_done (by kernel_rfl) ?_ _
  have SX : Hid (Seen wc x8) := sx8
  have SXW : Hid (Seen w x8) := SC.out.trans SX.out
  clear sx1 sx2 sx3 sx4 sx6 sx8 sd C16 C17 C20 C21 C22 C12 C30 C31 C32 ST FS
  have K15 : Hid (∀ w', Seen x8 w' → Calls Try.prog 15 #[v, .int .i64 m] w' (RowI w' (kidsV l m))) := fun w' h' => kids_kin v l m w' (KC.out w' (SX.out.trans h'))
  have K18 : Hid (∀ w', Seen x8 w' → Calls Try.prog 18 #[v, .int .i64 m] w' (RowI w' (flowV l m))) := fun w' h' => flow_kin v l m w' (KC.out w' (SX.out.trans h'))
  have K19 : Hid (∀ w', Seen x8 w' → Calls Try.prog 19 #[v, .int .i64 m] w' (RowI w' (upV l m))) := fun w' h' => up_kin v l m w' (KC.out w' (SX.out.trans h'))
  have e1 : kidsV l m = [] := by unfold kidsV; rw [HB.out]; rfl
  have e2 : flowV l m = [] := by unfold flowV; rw [HB.out]; rfl
  have e3 : upV l m = [] := by unfold upV; rw [HB.out]; rfl
  have none_row : Hid (∀ (w' : World) (e : Ending) (w'' : World), RowI w' [] e w'' → ∃ a c, e = .returned (.slice a 0 c) ∧ Seen w' w'') := fun w' e w'' h => by
    obtain ⟨v, rfl, hr, hs⟩ := h
    obtain ⟨a, c, rfl, _, _⟩ := hr.slice
    exact ⟨a, c, rfl, hs⟩
  rw [e1] at K15
  rw [e2] at K18
  rw [e3] at K19
  have J15 : Hid (∀ w', Seen x8 w' → Calls Try.prog 15 #[v, .int .i64 m] w' fun e w'' => ∃ a c, e = .returned (.slice a 0 c) ∧ Seen w' w'') := fun w' h' => (K15.out w' h').mono fun _ _ h => none_row.out _ _ _ h
  have J18 : Hid (∀ w', Seen x8 w' → Calls Try.prog 18 #[v, .int .i64 m] w' fun e w'' => ∃ a c, e = .returned (.slice a 0 c) ∧ Seen w' w'') := fun w' h' => (K18.out w' h').mono fun _ _ h => none_row.out _ _ _ h
  have J19 : Hid (∀ w', Seen x8 w' → Calls Try.prog 19 #[v, .int .i64 m] w' fun e w'' => ∃ a c, e = .returned (.slice a 0 c) ∧ Seen w' w'') := fun w' h' => (K19.out w' h').mono fun _ _ h => none_row.out _ _ _ h
  clear e1 e2 e3 none_row K15 K18 K19
  go_wp2_with (first
    | (go_at_call 15; refine (J15.out x8 (Seen.refl x8)).mono ?_; clear J15; rintro _ y1 ⟨a1, c1, rfl, hs⟩; have T1 := Lib.hid hs; clear hs)
    | (go_at_call 18; refine (J18.out y1 T1.out).mono ?_; clear J18; rintro _ y2 ⟨a2, c2, rfl, hs⟩; have T2 := Lib.hid (T1.out.trans hs); clear hs)
    | (go_at_call 19; refine (J19.out y2 T2.out).mono ?_; clear J19; rintro _ y3 ⟨a3, c3, rfl, hs⟩; have T3 := Lib.hid (T2.out.trans hs); clear hs))
  go_ret
  exact ⟨rfl, SXW.out.trans T3.out⟩
set_option maxHeartbeats 8000000 in
theorem one_in (v : Value) (ad : Option Addr) (n c : Nat) (l : List Nd) (k : Nat) (w : World) (h : KV w v l) (hs : NS w ad n l) (hf : FormedT l) (hkn : k < n) :
    Calls Try.prog 10 #[v, .slice ad n c, .int .i64 (k : Int)] w fun e w' => e = .returned (.bool true) ∧ Seen w w' := by
  have HL : Hid (l.length = n) := hs.1
  have hn : n ≤ 65535 := by have := h.len; have := HL.out; omega
  have hb : inB l (k : Int) = true := inB_nat (by have := HL.out; omega)
  have hk0 : 0 ≤ (k : Int) := by omega
  have hk2 : (k : Int) < (n : Int) := by omega
  have HP : Hid (plAt l (k : Int) = plE l (endN l) k) := plAt_nat (by have := HL.out; omega)
  have HY : Hid (styAt l (k : Int) = (nd l k).s) := by unfold Hid styAt; rw [hb]; rfl
  obtain ⟨b, off, rfl, hat⟩ := hs.ats (by omega)
  have HS := Lib.hid hs
  have HK := Lib.hid h
  have HF := Lib.hid hf
  have HB := Lib.hid hb
  obtain ⟨W, hW⟩ : ∃ W, W = w.alloc (.cells (stl zeroS).toArray 40) := ⟨_, rfl⟩
  have HZ : Hid (Hs W w.heap.size zeroS) := by rw [hW]; exact hs_new w zeroS
  have SW : Hid (Seen w W) := by rw [hW]; exact (Seen.refl w).alloc _
  have HA : Hid (∀ w', Seen w w' → At w' b (off + k * 49) (nd l k)) := fun w' h' => (hat k hkn).seen h'
  have HD : Hid (∀ w', Seen w w' → Calls Try.prog 29 #[.slice (some ⟨b, off, none⟩) n c, .int .i64 (k : Int)] w' fun e w'' => e = .returned (.int .i64 (deep l k : Nat)) ∧ w'' = w') := fun w' h' => deep_any _ n c l k w' (HS.out.seen h') hk0 hk2 (by omega) (HF.out.low.less (by have := HL.out; omega))
  clear hat
  clear h hs hf hb
  go_enter Try.func10, Try.ntmps10
  go_wp2_with fail
  rw [zero_lit, ← hW]
  clear hW
  have sd : Seen w W.drew := SW.out.drew
  refine wp_region_held_drew (S := fun w' => Seen w w') (by kernel_rfl) sd (fun _ => ?_)
  refine hTake 0 (some 19) (.slice (some ⟨b, off, none⟩) n c) (by kernel_rfl) (by kernel_rfl) (by kernel_rfl) (by kernel_rfl) (by kernel_rfl) (by kernel_rfl) (fun _ _ _ h => h) (fun w' hS => by kernel_rfl) sd ?_
  simp only [Act.put, List.setIfInBounds_toArray, List.set_cons_zero, List.set_cons_succ]
  refine hTake 1 (some 20) (.int .i64 (k : Int)) (by kernel_rfl) (by kernel_rfl) (by kernel_rfl) (by kernel_rfl) (by kernel_rfl) (by kernel_rfl) (fun _ _ _ h => h) (fun w' hS => by kernel_rfl) sd ?_
  simp only [Act.put, List.setIfInBounds_toArray, List.set_cons_zero, List.set_cons_succ]
  refine hTake 2 (some 21) (.pointer (some ⟨b, off + k * 49, none⟩)) (by kernel_rfl) (by kernel_rfl) (by kernel_rfl) (by kernel_rfl) (by kernel_rfl) (by kernel_rfl) (fun _ _ _ h => h) (fun w' hS => run_by (Instr.indexAt 22 (.slice (some ⟨b, off, none⟩) n c) (.int .i64 (k : Int))) (by kernel_rfl) (run_index22 b off k n c hkn _)) sd ?_
  simp only [Act.put, List.setIfInBounds_toArray, List.set_cons_zero, List.set_cons_succ]
  refine hTake 3 (some 22) (.pointer (some ⟨b, off + k * 49 + 48, none⟩)) (by kernel_rfl) (by kernel_rfl) (by kernel_rfl) (by kernel_rfl) (by kernel_rfl) (by kernel_rfl) (fun _ _ _ h => h) (fun w' hS => by kernel_rfl) sd ?_
  simp only [Act.put, List.setIfInBounds_toArray, List.set_cons_zero, List.set_cons_succ]
  refine hTake 4 (some 23) (.int .i64 (nd l k).p) (by kernel_rfl) (by kernel_rfl) (by kernel_rfl) (by kernel_rfl) (by kernel_rfl) (by kernel_rfl) (fun _ _ _ h => h) (fun w' hS => run_by (Instr.loadAt 3 (.pointer (some ⟨b, off + k * 49 + 48, none⟩))) (by kernel_rfl) (run_load3 (HA.out _ hS).par)) sd ?_
  simp only [Act.put, List.setIfInBounds_toArray, List.set_cons_zero, List.set_cons_succ]
  refine hTake 5 (some 24) (.slice (some ⟨b, off, none⟩) n c) (by kernel_rfl) (by kernel_rfl) (by kernel_rfl) (by kernel_rfl) (by kernel_rfl) (by kernel_rfl) (fun _ _ _ h => h) (fun w' hS => by kernel_rfl) sd ?_
  simp only [Act.put, List.setIfInBounds_toArray, List.set_cons_zero, List.set_cons_succ]
  refine hTake 6 (some 25) (.int .i64 (k : Int)) (by kernel_rfl) (by kernel_rfl) (by kernel_rfl) (by kernel_rfl) (by kernel_rfl) (by kernel_rfl) (fun _ _ _ h => h) (fun w' hS => by kernel_rfl) sd ?_
  simp only [Act.put, List.setIfInBounds_toArray, List.set_cons_zero, List.set_cons_succ]
  refine hTake 7 (some 26) (.pointer (some ⟨b, off + k * 49, none⟩)) (by kernel_rfl) (by kernel_rfl) (by kernel_rfl) (by kernel_rfl) (by kernel_rfl) (by kernel_rfl) (fun _ _ _ h => h) (fun w' hS => run_by (Instr.indexAt 22 (.slice (some ⟨b, off, none⟩) n c) (.int .i64 (k : Int))) (by kernel_rfl) (run_index22 b off k n c hkn _)) sd ?_
  simp only [Act.put, List.setIfInBounds_toArray, List.set_cons_zero, List.set_cons_succ]
  refine hTake 8 (some 27) (.pointer (some ⟨b, off + k * 49, none⟩)) (by kernel_rfl) (by kernel_rfl) (by kernel_rfl) (by kernel_rfl) (by kernel_rfl) (by kernel_rfl) (fun _ _ _ h => h) (fun w' hS => by kernel_rfl) sd ?_
  simp only [Act.put, List.setIfInBounds_toArray, List.set_cons_zero, List.set_cons_succ]
  refine hTake 9 (some 28) (sv (nd l k).s) (by kernel_rfl) (by kernel_rfl) (by kernel_rfl) (by kernel_rfl) (by kernel_rfl) (by kernel_rfl) (fun _ _ _ h => h) (fun w' hS => run_by (Instr.loadAt 40 (.pointer (some ⟨b, off + k * 49, none⟩))) (by kernel_rfl) (run_loadSA (HA.out _ hS))) sd ?_
  simp only [Act.put, List.setIfInBounds_toArray, List.set_cons_zero, List.set_cons_succ]
  refine hTake 10 (some 29) (.slice (some ⟨b, off, none⟩) n c) (by kernel_rfl) (by kernel_rfl) (by kernel_rfl) (by kernel_rfl) (by kernel_rfl) (by kernel_rfl) (fun _ _ _ h => h) (fun w' hS => by kernel_rfl) sd ?_
  simp only [Act.put, List.setIfInBounds_toArray, List.set_cons_zero, List.set_cons_succ]
  refine hTake 11 (some 30) (.int .i64 (k : Int)) (by kernel_rfl) (by kernel_rfl) (by kernel_rfl) (by kernel_rfl) (by kernel_rfl) (by kernel_rfl) (fun _ _ _ h => h) (fun w' hS => by kernel_rfl) sd ?_
  simp only [Act.put, List.setIfInBounds_toArray, List.set_cons_zero, List.set_cons_succ]
  refine hCall 12 (some 31) 29 #[.slice (some ⟨b, off, none⟩) n c, .int .i64 (k : Int)] (by kernel_rfl) (by kernel_rfl) (by kernel_rfl) (by kernel_rfl) (by kernel_rfl) ?_
  refine (HD.out _ sd).mono ?_
  rintro _ w3 ⟨rfl, hw3⟩
  rw [hw3]
  clear hw3
  refine ⟨_, rfl, sd, ?_⟩
  simp only [Act.put, List.setIfInBounds_toArray, List.set_cons_zero, List.set_cons_succ]
  refine hTake 13 (some 7) (.int .i64 (nd l k).p) (by kernel_rfl) (by kernel_rfl) (by kernel_rfl) (by kernel_rfl) (by kernel_rfl) (by kernel_rfl) (fun _ _ _ h => h) (fun w' hS => by kernel_rfl) sd ?_
  simp only [Act.put, List.setIfInBounds_toArray, List.set_cons_zero, List.set_cons_succ]
  have kX : W.drew.heap[w.heap.size]? = some (.cells (stl zeroS).toArray 40) := HZ.out
  have e14 := run_storeC (ty := 40) (o := 0) (vs := stl (nd l k).s) kX (by rw [(nd l k).full.len, zero_full.len]; omega) (by rw [(nd l k).full.len]; exact info27) (stl_one _)
  have t14 := turns_sets W.drew w.heap.size 0 (stl (nd l k).s)
  have b14 := block_sets kX 0 (stl (nd l k).s) (setsL_mid [] (stl zeroS) [] (stl (nd l k).s) (by rw [(nd l k).full.len, zero_full.len]))
  rw [List.nil_append, List.append_nil] at b14
  obtain ⟨wc, hV⟩ : ∃ wc, wc = W.drew.setCells w.heap.size 0 (stl (nd l k).s) := ⟨_, rfl⟩
  rw [← hV] at e14 t14 b14
  have sV : Seen w wc := Seen.turns SW.out.drew t14 (Nat.le_refl _)
  clear hV
  refine hSkip 14 none (by kernel_rfl) (by kernel_rfl) (by kernel_rfl) (by kernel_rfl) (run_skip_by (Instr.storeAt 40 (.pointer (some ⟨w.heap.size, 0, none⟩)) (sv (nd l k).s)) (by kernel_rfl) e14) sV ?_
  simp only [Act.put]
  refine hTake 15 (some 8) (.int .i64 (deep l k : Nat)) (by kernel_rfl) (by kernel_rfl) (by kernel_rfl) (by kernel_rfl) (by kernel_rfl) (by kernel_rfl) (fun _ _ _ h => h) (fun w' hS => by kernel_rfl) sV ?_
  simp only [Act.put, List.setIfInBounds_toArray, List.set_cons_zero, List.set_cons_succ]
  refine wpAnyH_done (by kernel_rfl) ?_ _
  have HST : Hid (Hs wc w.heap.size (nd l k).s) := b14
  have SC : Hid (Seen w wc) := sV
  clear e14 t14 b14 sV kX sd HZ SW HA HD
  go_wp2_with fail
  have ST : Hid (∀ w', Seen wc w' → Hs w' w.heap.size (nd l k).s) := fun w' h' => HST.out.seen h'
  have FS : Hid (Full (nd l k).s) := (nd l k).full
  clear HST
  have KC : Hid (∀ w', Seen wc w' → KV w' v l) := fun w' h' => HK.out.seen (SC.out.trans h')
  have NC : Hid (∀ w', Seen wc w' → NS w' (some ⟨b, off, none⟩) n l) := fun w' h' => HS.out.seen (SC.out.trans h')
  have C16 : Hid (∀ w', Seen wc w' → Calls Try.prog 16 #[v, .int .i64 (k : Int)] w' fun e w'' => e = .returned (.int .i64 (plE l (endN l) k).par) ∧ Seen w' w'') := fun w' h' => by rw [← HP.out]; exact parent_kin v l (k : Int) w' (KC.out w' h')
  have C20 : Hid (∀ w', Seen wc w' → Calls Try.prog 20 #[v, .int .i64 (k : Int)] w' fun e w'' => e = .returned (.int .i64 (plE l (endN l) k).deep) ∧ Seen w' w'') := fun w' h' => by rw [← HP.out]; exact deep_kin v l (k : Int) w' (KC.out w' h')
  have C21 : Hid (∀ w', Seen wc w' → Calls Try.prog 21 #[v, .int .i64 (k : Int)] w' fun e w'' => e = .returned (.bool (plE l (endN l) k).made) ∧ Seen w' w'') := fun w' h' => by rw [← HP.out]; exact made_kin v l (k : Int) w' (KC.out w' h')
  have C22 : Hid (∀ w', Seen wc w' → Calls Try.prog 22 #[v, .int .i64 (k : Int)] w' fun e w'' => e = .returned (.bool (plE l (endN l) k).out) ∧ Seen w' w'') := fun w' h' => by rw [← HP.out]; exact out_kin v l (k : Int) w' (KC.out w' h')
  have C12 : Hid (∀ w', Seen wc w' → Calls Try.prog 12 #[v, .int .i64 (k : Int)] w' fun e w'' => e = .returned (.int .i64 (plE l (endN l) k).stop) ∧ Seen w' w'') := fun w' h' => by rw [← HP.out]; exact end_kin v l (k : Int) w' (KC.out w' h')
  have C17 : Hid (∀ w', Seen wc w' → Calls Try.prog 17 #[v, .int .i64 (k : Int)] w' fun e w'' => e = .returned (sv (nd l k).s) ∧ Seen w' w'') := fun w' h' => by rw [← HY.out]; exact style_kin v l (k : Int) w' (KC.out w' h')
  have C30 : Hid (∀ w', Seen wc w' → Calls Try.prog 30 #[.slice (some ⟨b, off, none⟩) n c, .int .i64 (k : Int)] w' fun e w'' => e = .returned (.bool (plE l (endN l) k).made) ∧ w'' = w') := fun w' h' => by
    rw [← HP.out, (plAt_both l (k : Int)).1]; exact refMade_any (some ⟨b, off, none⟩) n c l (k : Int) w' (NC.out w' h') HF.out (by omega)
  have C31 : Hid (∀ w', Seen wc w' → Calls Try.prog 31 #[.slice (some ⟨b, off, none⟩) n c, .int .i64 (k : Int)] w' fun e w'' => e = .returned (.bool (plE l (endN l) k).out) ∧ w'' = w') := fun w' h' => by
    rw [← HP.out, (plAt_both l (k : Int)).2]; exact refOut_any (some ⟨b, off, none⟩) n c l (k : Int) w' (NC.out w' h') HF.out (by omega)
  have C32 : Hid (∀ w', Seen wc w' → Calls Try.prog 32 #[.slice (some ⟨b, off, none⟩) n c, .int .i64 (k : Int)] w' fun e w'' => e = .returned (.int .i64 (plE l (endN l) k).stop) ∧ w'' = w') := fun w' h' => by
    rw [← HP.out, plAt_stop]; exact refEnd_any (some ⟨b, off, none⟩) n c l (k : Int) w' (NC.out w' h') HF.out (by omega)
  have sd : Seen wc wc.drew := (Seen.refl wc).drew
  refine wp_region_held_drew (S := fun w' => Seen wc w') (by kernel_rfl) sd (fun _ => ?_)
  refine hTake 0 (some 32) (v) (by kernel_rfl) (by kernel_rfl) (by kernel_rfl) (by kernel_rfl) (by kernel_rfl) (by kernel_rfl) (fun _ _ _ h => h) (fun w' hS => by kernel_rfl) sd ?_
  simp only [Act.put, List.setIfInBounds_toArray, List.set_cons_zero, List.set_cons_succ]
  refine hTake 1 (some 33) (.int .i64 (k : Int)) (by kernel_rfl) (by kernel_rfl) (by kernel_rfl) (by kernel_rfl) (by kernel_rfl) (by kernel_rfl) (fun _ _ _ h => h) (fun w' hS => by kernel_rfl) sd ?_
  simp only [Act.put, List.setIfInBounds_toArray, List.set_cons_zero, List.set_cons_succ]
  refine hTake 3 (some 35) (.int .i64 (plE l (endN l) k).par) (by kernel_rfl) (by kernel_rfl) (by kernel_rfl) (by kernel_rfl) (by kernel_rfl) (by kernel_rfl) (fun _ _ _ h => h) (fun w' hS => by kernel_rfl) sd ?_
  simp only [Act.put, List.setIfInBounds_toArray, List.set_cons_zero, List.set_cons_succ]
  refine hCall 2 (some 34) 16 #[v, .int .i64 (k : Int)] (by kernel_rfl) (by kernel_rfl) (by kernel_rfl) (by kernel_rfl) (by kernel_rfl) ?_
  refine (C16.out _ sd).mono ?_
  rintro _ x1 ⟨rfl, hx1⟩
  have sx1 : Seen wc x1 := Seen.trans sd hx1
  clear hx1
  refine ⟨_, rfl, sx1, ?_⟩
  simp only [Act.put, List.setIfInBounds_toArray, List.set_cons_zero, List.set_cons_succ]
  refine hTake 4 (some 36) (.bool false) (by kernel_rfl) (by kernel_rfl) (by kernel_rfl) (by kernel_rfl) (by kernel_rfl) (by kernel_rfl) (fun _ _ _ h => h) (fun w' hS => run_by _ (by kernel_rfl) (num_neq ((plE l (endN l) k).par) (.tmp 34) (.tmp 35) _)) sx1 ?_
  simp only [Act.put, List.setIfInBounds_toArray, List.set_cons_zero, List.set_cons_succ]
  refine hTake 5 (some 37) (.bool false) (by kernel_rfl) (by kernel_rfl) (by kernel_rfl) (by kernel_rfl) (by kernel_rfl) (by kernel_rfl) (fun _ _ _ h => h) (fun w' hS => by kernel_rfl) sx1 ?_
  simp only [Act.put, List.setIfInBounds_toArray, List.set_cons_zero, List.set_cons_succ]
  refine hTake 6 (some 38) (v) (by kernel_rfl) (by kernel_rfl) (by kernel_rfl) (by kernel_rfl) (by kernel_rfl) (by kernel_rfl) (fun _ _ _ h => h) (fun w' hS => by kernel_rfl) sx1 ?_
  simp only [Act.put, List.setIfInBounds_toArray, List.set_cons_zero, List.set_cons_succ]
  refine hTake 7 (some 39) (.int .i64 (k : Int)) (by kernel_rfl) (by kernel_rfl) (by kernel_rfl) (by kernel_rfl) (by kernel_rfl) (by kernel_rfl) (fun _ _ _ h => h) (fun w' hS => by kernel_rfl) sx1 ?_
  simp only [Act.put, List.setIfInBounds_toArray, List.set_cons_zero, List.set_cons_succ]
  refine hTake 9 (some 41) (sv (nd l k).s) (by kernel_rfl) (by kernel_rfl) (by kernel_rfl) (by kernel_rfl) (by kernel_rfl) (by kernel_rfl) (fun _ _ _ h => h) (fun w' hS => run_by (Instr.loadAt 40 (.pointer (some ⟨w.heap.size, 0, none⟩))) (by kernel_rfl) (run_loadAtS (ST.out _ hS) FS.out)) sx1 ?_
  simp only [Act.put, List.setIfInBounds_toArray, List.set_cons_zero, List.set_cons_succ]
  refine hCall 8 (some 40) 17 #[v, .int .i64 (k : Int)] (by kernel_rfl) (by kernel_rfl) (by kernel_rfl) (by kernel_rfl) (by kernel_rfl) ?_
  refine (C17.out _ sx1).mono ?_
  rintro _ x2 ⟨rfl, hx2⟩
  have sx2 : Seen wc x2 := Seen.trans sx1 hx2
  clear hx2
  refine ⟨_, rfl, sx2, ?_⟩
  simp only [Act.put, List.setIfInBounds_toArray, List.set_cons_zero, List.set_cons_succ]
  refine hTake 10 (some 42) (.bool false) (by kernel_rfl) (by kernel_rfl) (by kernel_rfl) (by kernel_rfl) (by kernel_rfl) (by kernel_rfl) (fun _ _ _ h => h) (fun w' hS => run_by _ (by kernel_rfl) (sty_neq (nd l k).s FS.out (.tmp 40) (.tmp 41) _)) sx2 ?_
  simp only [Act.put, List.setIfInBounds_toArray, List.set_cons_zero, List.set_cons_succ]
  refine hTake 11 (some 43) (.bool false) (by kernel_rfl) (by kernel_rfl) (by kernel_rfl) (by kernel_rfl) (by kernel_rfl) (by kernel_rfl) (fun _ _ _ h => h) (fun w' hS => by kernel_rfl) sx2 ?_
  simp only [Act.put, List.setIfInBounds_toArray, List.set_cons_zero, List.set_cons_succ]
  refine hTake 12 (some 44) (.bool false) (by kernel_rfl) (by kernel_rfl) (by kernel_rfl) (by kernel_rfl) (by kernel_rfl) (by kernel_rfl) (fun _ _ _ h => h) (fun w' hS => by kernel_rfl) sx2 ?_
  simp only [Act.put, List.setIfInBounds_toArray, List.set_cons_zero, List.set_cons_succ]
  refine hTake 13 (some 45) (v) (by kernel_rfl) (by kernel_rfl) (by kernel_rfl) (by kernel_rfl) (by kernel_rfl) (by kernel_rfl) (fun _ _ _ h => h) (fun w' hS => by kernel_rfl) sx2 ?_
  simp only [Act.put, List.setIfInBounds_toArray, List.set_cons_zero, List.set_cons_succ]
  refine hTake 14 (some 46) (.int .i64 (k : Int)) (by kernel_rfl) (by kernel_rfl) (by kernel_rfl) (by kernel_rfl) (by kernel_rfl) (by kernel_rfl) (fun _ _ _ h => h) (fun w' hS => by kernel_rfl) sx2 ?_
  simp only [Act.put, List.setIfInBounds_toArray, List.set_cons_zero, List.set_cons_succ]
  refine hTake 16 (some 48) (.int .i64 (plE l (endN l) k).deep) (by kernel_rfl) (by kernel_rfl) (by kernel_rfl) (by kernel_rfl) (by kernel_rfl) (by kernel_rfl) (fun _ _ _ h => h) (fun w' hS => by kernel_rfl) sx2 ?_
  simp only [Act.put, List.setIfInBounds_toArray, List.set_cons_zero, List.set_cons_succ]
  refine hCall 15 (some 47) 20 #[v, .int .i64 (k : Int)] (by kernel_rfl) (by kernel_rfl) (by kernel_rfl) (by kernel_rfl) (by kernel_rfl) ?_
  refine (C20.out _ sx2).mono ?_
  rintro _ x3 ⟨rfl, hx3⟩
  have sx3 : Seen wc x3 := Seen.trans sx2 hx3
  clear hx3
  refine ⟨_, rfl, sx3, ?_⟩
  simp only [Act.put, List.setIfInBounds_toArray, List.set_cons_zero, List.set_cons_succ]
  refine hTake 17 (some 49) (.bool false) (by kernel_rfl) (by kernel_rfl) (by kernel_rfl) (by kernel_rfl) (by kernel_rfl) (by kernel_rfl) (fun _ _ _ h => h) (fun w' hS => run_by _ (by kernel_rfl) (num_neq ((plE l (endN l) k).deep) (.tmp 47) (.tmp 48) _)) sx3 ?_
  simp only [Act.put, List.setIfInBounds_toArray, List.set_cons_zero, List.set_cons_succ]
  refine hTake 18 (some 50) (.bool false) (by kernel_rfl) (by kernel_rfl) (by kernel_rfl) (by kernel_rfl) (by kernel_rfl) (by kernel_rfl) (fun _ _ _ h => h) (fun w' hS => by kernel_rfl) sx3 ?_
  simp only [Act.put, List.setIfInBounds_toArray, List.set_cons_zero, List.set_cons_succ]
  refine hTake 19 (some 51) (.bool false) (by kernel_rfl) (by kernel_rfl) (by kernel_rfl) (by kernel_rfl) (by kernel_rfl) (by kernel_rfl) (fun _ _ _ h => h) (fun w' hS => by kernel_rfl) sx3 ?_
  simp only [Act.put, List.setIfInBounds_toArray, List.set_cons_zero, List.set_cons_succ]
  refine hTake 20 (some 52) (v) (by kernel_rfl) (by kernel_rfl) (by kernel_rfl) (by kernel_rfl) (by kernel_rfl) (by kernel_rfl) (fun _ _ _ h => h) (fun w' hS => by kernel_rfl) sx3 ?_
  simp only [Act.put, List.setIfInBounds_toArray, List.set_cons_zero, List.set_cons_succ]
  refine hTake 21 (some 53) (.int .i64 (k : Int)) (by kernel_rfl) (by kernel_rfl) (by kernel_rfl) (by kernel_rfl) (by kernel_rfl) (by kernel_rfl) (fun _ _ _ h => h) (fun w' hS => by kernel_rfl) sx3 ?_
  simp only [Act.put, List.setIfInBounds_toArray, List.set_cons_zero, List.set_cons_succ]
  refine hTake 23 (some 55) (.slice (some ⟨b, off, none⟩) n c) (by kernel_rfl) (by kernel_rfl) (by kernel_rfl) (by kernel_rfl) (by kernel_rfl) (by kernel_rfl) (fun _ _ _ h => h) (fun w' hS => by kernel_rfl) sx3 ?_
  simp only [Act.put, List.setIfInBounds_toArray, List.set_cons_zero, List.set_cons_succ]
  refine hTake 24 (some 56) (.int .i64 (k : Int)) (by kernel_rfl) (by kernel_rfl) (by kernel_rfl) (by kernel_rfl) (by kernel_rfl) (by kernel_rfl) (fun _ _ _ h => h) (fun w' hS => by kernel_rfl) sx3 ?_
  simp only [Act.put, List.setIfInBounds_toArray, List.set_cons_zero, List.set_cons_succ]
  refine hCall 22 (some 54) 21 #[v, .int .i64 (k : Int)] (by kernel_rfl) (by kernel_rfl) (by kernel_rfl) (by kernel_rfl) (by kernel_rfl) ?_
  refine (C21.out _ sx3).mono ?_
  rintro _ x4 ⟨rfl, hx4⟩
  have sx4 : Seen wc x4 := Seen.trans sx3 hx4
  clear hx4
  refine ⟨_, rfl, sx4, ?_⟩
  simp only [Act.put, List.setIfInBounds_toArray, List.set_cons_zero, List.set_cons_succ]
  refine hCall 25 (some 57) 30 #[.slice (some ⟨b, off, none⟩) n c, .int .i64 (k : Int)] (by kernel_rfl) (by kernel_rfl) (by kernel_rfl) (by kernel_rfl) (by kernel_rfl) ?_
  refine (C30.out _ sx4).mono ?_
  rintro _ x5 ⟨rfl, hx5⟩
  rw [hx5]
  clear hx5
  refine ⟨_, rfl, sx4, ?_⟩
  simp only [Act.put, List.setIfInBounds_toArray, List.set_cons_zero, List.set_cons_succ]
  refine hTake 26 (some 58) (.bool false) (by kernel_rfl) (by kernel_rfl) (by kernel_rfl) (by kernel_rfl) (by kernel_rfl) (by kernel_rfl) (fun _ _ _ h => h) (fun w' hS => run_by _ (by kernel_rfl) (bool_neq ((plE l (endN l) k).made) (.tmp 54) (.tmp 57) _)) sx4 ?_
  simp only [Act.put, List.setIfInBounds_toArray, List.set_cons_zero, List.set_cons_succ]
  refine hTake 27 (some 59) (.bool false) (by kernel_rfl) (by kernel_rfl) (by kernel_rfl) (by kernel_rfl) (by kernel_rfl) (by kernel_rfl) (fun _ _ _ h => h) (fun w' hS => by kernel_rfl) sx4 ?_
  simp only [Act.put, List.setIfInBounds_toArray, List.set_cons_zero, List.set_cons_succ]
  refine hTake 28 (some 60) (.bool false) (by kernel_rfl) (by kernel_rfl) (by kernel_rfl) (by kernel_rfl) (by kernel_rfl) (by kernel_rfl) (fun _ _ _ h => h) (fun w' hS => by kernel_rfl) sx4 ?_
  simp only [Act.put, List.setIfInBounds_toArray, List.set_cons_zero, List.set_cons_succ]
  refine hTake 29 (some 61) (v) (by kernel_rfl) (by kernel_rfl) (by kernel_rfl) (by kernel_rfl) (by kernel_rfl) (by kernel_rfl) (fun _ _ _ h => h) (fun w' hS => by kernel_rfl) sx4 ?_
  simp only [Act.put, List.setIfInBounds_toArray, List.set_cons_zero, List.set_cons_succ]
  refine hTake 30 (some 62) (.int .i64 (k : Int)) (by kernel_rfl) (by kernel_rfl) (by kernel_rfl) (by kernel_rfl) (by kernel_rfl) (by kernel_rfl) (fun _ _ _ h => h) (fun w' hS => by kernel_rfl) sx4 ?_
  simp only [Act.put, List.setIfInBounds_toArray, List.set_cons_zero, List.set_cons_succ]
  refine hTake 32 (some 64) (.slice (some ⟨b, off, none⟩) n c) (by kernel_rfl) (by kernel_rfl) (by kernel_rfl) (by kernel_rfl) (by kernel_rfl) (by kernel_rfl) (fun _ _ _ h => h) (fun w' hS => by kernel_rfl) sx4 ?_
  simp only [Act.put, List.setIfInBounds_toArray, List.set_cons_zero, List.set_cons_succ]
  refine hTake 33 (some 65) (.int .i64 (k : Int)) (by kernel_rfl) (by kernel_rfl) (by kernel_rfl) (by kernel_rfl) (by kernel_rfl) (by kernel_rfl) (fun _ _ _ h => h) (fun w' hS => by kernel_rfl) sx4 ?_
  simp only [Act.put, List.setIfInBounds_toArray, List.set_cons_zero, List.set_cons_succ]
  refine hCall 31 (some 63) 22 #[v, .int .i64 (k : Int)] (by kernel_rfl) (by kernel_rfl) (by kernel_rfl) (by kernel_rfl) (by kernel_rfl) ?_
  refine (C22.out _ sx4).mono ?_
  rintro _ x6 ⟨rfl, hx6⟩
  have sx6 : Seen wc x6 := Seen.trans sx4 hx6
  clear hx6
  refine ⟨_, rfl, sx6, ?_⟩
  simp only [Act.put, List.setIfInBounds_toArray, List.set_cons_zero, List.set_cons_succ]
  refine hCall 34 (some 66) 31 #[.slice (some ⟨b, off, none⟩) n c, .int .i64 (k : Int)] (by kernel_rfl) (by kernel_rfl) (by kernel_rfl) (by kernel_rfl) (by kernel_rfl) ?_
  refine (C31.out _ sx6).mono ?_
  rintro _ x7 ⟨rfl, hx7⟩
  rw [hx7]
  clear hx7
  refine ⟨_, rfl, sx6, ?_⟩
  simp only [Act.put, List.setIfInBounds_toArray, List.set_cons_zero, List.set_cons_succ]
  refine hTake 35 (some 67) (.bool false) (by kernel_rfl) (by kernel_rfl) (by kernel_rfl) (by kernel_rfl) (by kernel_rfl) (by kernel_rfl) (fun _ _ _ h => h) (fun w' hS => run_by _ (by kernel_rfl) (bool_neq ((plE l (endN l) k).out) (.tmp 63) (.tmp 66) _)) sx6 ?_
  simp only [Act.put, List.setIfInBounds_toArray, List.set_cons_zero, List.set_cons_succ]
  refine hTake 36 (some 68) (.bool false) (by kernel_rfl) (by kernel_rfl) (by kernel_rfl) (by kernel_rfl) (by kernel_rfl) (by kernel_rfl) (fun _ _ _ h => h) (fun w' hS => by kernel_rfl) sx6 ?_
  simp only [Act.put, List.setIfInBounds_toArray, List.set_cons_zero, List.set_cons_succ]
  refine hTake 37 (some 69) (.bool false) (by kernel_rfl) (by kernel_rfl) (by kernel_rfl) (by kernel_rfl) (by kernel_rfl) (by kernel_rfl) (fun _ _ _ h => h) (fun w' hS => by kernel_rfl) sx6 ?_
  simp only [Act.put, List.setIfInBounds_toArray, List.set_cons_zero, List.set_cons_succ]
  refine hTake 38 (some 70) (v) (by kernel_rfl) (by kernel_rfl) (by kernel_rfl) (by kernel_rfl) (by kernel_rfl) (by kernel_rfl) (fun _ _ _ h => h) (fun w' hS => by kernel_rfl) sx6 ?_
  simp only [Act.put, List.setIfInBounds_toArray, List.set_cons_zero, List.set_cons_succ]
  refine hTake 39 (some 71) (.int .i64 (k : Int)) (by kernel_rfl) (by kernel_rfl) (by kernel_rfl) (by kernel_rfl) (by kernel_rfl) (by kernel_rfl) (fun _ _ _ h => h) (fun w' hS => by kernel_rfl) sx6 ?_
  simp only [Act.put, List.setIfInBounds_toArray, List.set_cons_zero, List.set_cons_succ]
  refine hTake 41 (some 73) (.slice (some ⟨b, off, none⟩) n c) (by kernel_rfl) (by kernel_rfl) (by kernel_rfl) (by kernel_rfl) (by kernel_rfl) (by kernel_rfl) (fun _ _ _ h => h) (fun w' hS => by kernel_rfl) sx6 ?_
  simp only [Act.put, List.setIfInBounds_toArray, List.set_cons_zero, List.set_cons_succ]
  refine hTake 42 (some 74) (.int .i64 (k : Int)) (by kernel_rfl) (by kernel_rfl) (by kernel_rfl) (by kernel_rfl) (by kernel_rfl) (by kernel_rfl) (fun _ _ _ h => h) (fun w' hS => by kernel_rfl) sx6 ?_
  simp only [Act.put, List.setIfInBounds_toArray, List.set_cons_zero, List.set_cons_succ]
  refine hCall 40 (some 72) 12 #[v, .int .i64 (k : Int)] (by kernel_rfl) (by kernel_rfl) (by kernel_rfl) (by kernel_rfl) (by kernel_rfl) ?_
  refine (C12.out _ sx6).mono ?_
  rintro _ x8 ⟨rfl, hx8⟩
  have sx8 : Seen wc x8 := Seen.trans sx6 hx8
  clear hx8
  refine ⟨_, rfl, sx8, ?_⟩
  simp only [Act.put, List.setIfInBounds_toArray, List.set_cons_zero, List.set_cons_succ]
  refine hCall 43 (some 75) 32 #[.slice (some ⟨b, off, none⟩) n c, .int .i64 (k : Int)] (by kernel_rfl) (by kernel_rfl) (by kernel_rfl) (by kernel_rfl) (by kernel_rfl) ?_
  refine (C32.out _ sx8).mono ?_
  rintro _ x9 ⟨rfl, hx9⟩
  rw [hx9]
  clear hx9
  refine ⟨_, rfl, sx8, ?_⟩
  simp only [Act.put, List.setIfInBounds_toArray, List.set_cons_zero, List.set_cons_succ]
  refine hTake 44 (some 76) (.bool false) (by kernel_rfl) (by kernel_rfl) (by kernel_rfl) (by kernel_rfl) (by kernel_rfl) (by kernel_rfl) (fun _ _ _ h => h) (fun w' hS => run_by _ (by kernel_rfl) (num_neq ((plE l (endN l) k).stop) (.tmp 72) (.tmp 75) _)) sx8 ?_
  simp only [Act.put, List.setIfInBounds_toArray, List.set_cons_zero, List.set_cons_succ]
  refine hTake 45 (some 77) (.bool false) (by kernel_rfl) (by kernel_rfl) (by kernel_rfl) (by kernel_rfl) (by kernel_rfl) (by kernel_rfl) (fun _ _ _ h => h) (fun w' hS => by kernel_rfl) sx8 ?_
  simp only [Act.put, List.setIfInBounds_toArray, List.set_cons_zero, List.set_cons_succ]
  refine wpAnyH_done (by kernel_rfl) ?_ _
  have SX : Hid (Seen wc x8) := sx8
  have SXW : Hid (Seen w x8) := SC.out.trans SX.out
  clear sx1 sx2 sx3 sx4 sx6 sx8 sd C16 C17 C20 C21 C22 C12 C30 C31 C32 ST FS
  have K15 : Hid (∀ w', Seen x8 w' → Calls Try.prog 15 #[v, .int .i64 (k : Int)] w' (RowI w' (kidsV l (k : Int)))) := fun w' h' => kids_kin v l (k : Int) w' (KC.out w' (SX.out.trans h'))
  have K18 : Hid (∀ w', Seen x8 w' → Calls Try.prog 18 #[v, .int .i64 (k : Int)] w' (RowI w' (flowV l (k : Int)))) := fun w' h' => flow_kin v l (k : Int) w' (KC.out w' (SX.out.trans h'))
  have K19 : Hid (∀ w', Seen x8 w' → Calls Try.prog 19 #[v, .int .i64 (k : Int)] w' (RowI w' (upV l (k : Int)))) := fun w' h' => up_kin v l (k : Int) w' (KC.out w' (SX.out.trans h'))
  have R34 : Hid (∀ w', Seen x8 w' → Calls Try.prog 34 #[.slice (some ⟨b, off, none⟩) n c, .int .i64 (k : Int)] w' (RowI w' (kidsV l k))) := fun w' h' => by
    have := refKids_any (some ⟨b, off, none⟩) n c l k w' (NC.out w' (SX.out.trans h')) (by omega)
    unfold kidsV
    rw [HB.out, if_pos rfl, HL.out]
    exact this
  have R35 : Hid (∀ w', Seen x8 w' → Calls Try.prog 35 #[.slice (some ⟨b, off, none⟩) n c, .int .i64 (k : Int)] w' (RowI w' (flowV l k))) := fun w' h' => by
    have := refFlow_any (some ⟨b, off, none⟩) n c l k w' (NC.out w' (SX.out.trans h')) HF.out (by omega)
    unfold flowV
    rw [HB.out, if_pos rfl, HL.out]
    exact this
  have R36 : Hid (∀ w', Seen x8 w' → Calls Try.prog 36 #[.slice (some ⟨b, off, none⟩) n c, .int .i64 (k : Int)] w' (RowI w' (upV l k))) := fun w' h' => by
    have := refUp_any (some ⟨b, off, none⟩) n c l k w' (NC.out w' (SX.out.trans h')) HF.out (by omega) hkn
    rw [upV_in HB.out]
    exact this
  have l1 := kidsV_length l k
  have l2 : (flowV l k).length ≤ l.length := by rw [flowV_kids]; exact Nat.le_trans (List.length_filter_le _ _) l1
  have l3 : (upV l k).length ≤ l.length := by rw [upV_in HB.out, upTo_length]; have := deep_len HF.out (i := k) (by have := HL.out; omega); have := HL.out; omega
  have L1 : Hid ((kidsV l k).length ≤ 1000000) := by have := HL.out; unfold Hid; omega
  have L2 : Hid ((flowV l k).length ≤ 1000000) := by have := HL.out; unfold Hid; omega
  have L3 : Hid ((upV l k).length ≤ 1000000) := by have := HL.out; unfold Hid; omega
  obtain ⟨A, hA⟩ : ∃ A, kidsV l k = A := ⟨_, rfl⟩
  obtain ⟨B, hB⟩ : ∃ B, flowV l k = B := ⟨_, rfl⟩
  obtain ⟨C, hC⟩ : ∃ C, upV l k = C := ⟨_, rfl⟩
  rw [hA] at K15 R34 L1
  rw [hB] at K18 R35 L2
  rw [hC] at K19 R36 L3
  clear hA hB hC l1 l2 l3
  go_wp2_with (first
    | (go_at_call 15; refine (K15.out x8 (Seen.refl x8)).mono ?_; clear K15; rintro _ y1 ⟨v1, rfl, hr, hs⟩; obtain ⟨a1, c1, rfl, hz, _⟩ := hr.slice; have Z1 := Lib.hid hz; have T1 := Lib.hid hs; clear hr hs hz)
    | (go_at_call 34; refine (R34.out y1 T1.out).mono ?_; clear R34; rintro _ y2 ⟨v2, rfl, hr, hs⟩; obtain ⟨a2, c2, rfl, hz, _⟩ := hr.slice; have Z2 := Lib.hid hz; have Y1 := Lib.hid (Z1.out.seen hs); have T2 := Lib.hid (T1.out.trans hs); clear hr hs hz)
    | (go_at_call 33; have gg := L1.out; refine (refSame_ints A a1 a2 c1 c2 y2 Y1.out Z2.out gg).mono ?_; clear L1 gg; rintro _ y3 ⟨rfl, hs⟩; have T3 := Lib.hid (T2.out.trans hs); clear hs)
    | (go_at_call 18; refine (K18.out y3 T3.out).mono ?_; clear K18; rintro _ y4 ⟨v4, rfl, hr, hs⟩; obtain ⟨a4, c4, rfl, hz, _⟩ := hr.slice; have Z4 := Lib.hid hz; have T4 := Lib.hid (T3.out.trans hs); clear hr hs hz)
    | (go_at_call 35; refine (R35.out y4 T4.out).mono ?_; clear R35; rintro _ y5 ⟨v5, rfl, hr, hs⟩; obtain ⟨a5, c5, rfl, hz, _⟩ := hr.slice; have Z5 := Lib.hid hz; have Y4 := Lib.hid (Z4.out.seen hs); have T5 := Lib.hid (T4.out.trans hs); clear hr hs hz)
    | (go_at_call 33; have gg := L2.out; refine (refSame_ints B a4 a5 c4 c5 y5 Y4.out Z5.out gg).mono ?_; clear L2 gg; rintro _ y6 ⟨rfl, hs⟩; have T6 := Lib.hid (T5.out.trans hs); clear hs)
    | (go_at_call 19; refine (K19.out y6 T6.out).mono ?_; clear K19; rintro _ y7 ⟨v7, rfl, hr, hs⟩; obtain ⟨a7, c7, rfl, hz, _⟩ := hr.slice; have Z7 := Lib.hid hz; have T7 := Lib.hid (T6.out.trans hs); clear hr hs hz)
    | (go_at_call 36; refine (R36.out y7 T7.out).mono ?_; clear R36; rintro _ y8 ⟨v8, rfl, hr, hs⟩; obtain ⟨a8, c8, rfl, hz, _⟩ := hr.slice; have Z8 := Lib.hid hz; have Y7 := Lib.hid (Z7.out.seen hs); have T8 := Lib.hid (T7.out.trans hs); clear hr hs hz)
    | (go_at_call 33; have gg := L3.out; refine (refSame_ints C a7 a8 c7 c8 y8 Y7.out Z8.out gg).mono ?_; clear L3 gg; rintro _ y9 ⟨rfl, hs⟩; have T9 := Lib.hid (T8.out.trans hs); clear hs))
  go_ret
  exact ⟨rfl, SXW.out.trans T9.out⟩
theorem one_any (v : Value) (ad : Option Addr) (n c : Nat) (l : List Nd) (m : Int) (w : World) (h : KV w v l) (hs : NS w ad n l) (hf : FormedT l) :
    Calls Try.prog 10 #[v, .slice ad n c, .int .i64 m] w fun e w' => e = .returned (.bool true) ∧ Seen w w' := by
  rcases Int.lt_or_le m 0 with h1 | h1
  · exact one_neg v ad n c l m w h hs hf h1
  · rcases Int.lt_or_le m n with h2 | h2
    · obtain ⟨k, rfl⟩ := Int.eq_ofNat_of_zero_le h1
      exact one_in v ad n c l k w h hs hf (by omega)
    · exact one_big v ad n c l m w h hs hf h2
end Go.Proofs.Ytdnohhcoapkhaaa
