/- Texts of the proof, merged: FR7. -/
import Derived.Test.YtngeaigkafamiaaGreatM33
namespace Go.Proofs.YtngeaigkafamiaaGreat
open Go.ChangeShapes Go.WideShapes Go.ChangeAt Go.RowKit
set_option maxRecDepth 100000
theorem zz35 : (Tryz.prog.info? 35).map (·.size) = some 8 := by kernel_rfl
theorem zz41 : (Tryz.prog.info? 41).map (·.size) = some 7 := by kernel_rfl
theorem zz37 : (Tryz.prog.info? 37).map (·.size) = some 25 := by kernel_rfl
theorem rda35q {w : World} {X o : Nat} {vs : List Value} (h : w.rangeAt X o vs) (hl : vs.length = 8) : (Instr.loadAt 35 (.pointer (some ⟨X, o, none⟩))).run Tryz.prog w = .ok (.agg vs.toArray) w :=
  run_loadAt_mid w X o 35 vs _ h Tryz.underlying35 rfl (by rw [hl]; exact zz35)
theorem rda41q {w : World} {X o : Nat} {vs : List Value} (h : w.rangeAt X o vs) (hl : vs.length = 7) : (Instr.loadAt 41 (.pointer (some ⟨X, o, none⟩))).run Tryz.prog w = .ok (.agg vs.toArray) w :=
  run_loadAt_mid w X o 41 vs _ h Tryz.underlying41 rfl (by rw [hl]; exact zz41)
theorem rda37q {w : World} {X o : Nat} {vs : List Value} (h : w.rangeAt X o vs) (hl : vs.length = 25) : (Instr.loadAt 37 (.pointer (some ⟨X, o, none⟩))).run Tryz.prog w = .ok (.agg vs.toArray) w :=
  run_loadAt_mid w X o 37 vs _ h Tryz.underlying37 rfl (by rw [hl]; exact zz37)
theorem eq4_self (w : World) (b : Bool) : (binOp .eql 4 (.bool b) (.bool b)).run Tryz.prog w = .ok (.bool true) w := by cases b <;> rfl
theorem eq31_g (w : World) (a b c d : Int) (s t : Operand) : (do eqGuard .eql 31 s t (.agg #[.int .i64 a, .int .i64 b, .int .i64 c, .int .i64 d]) (.agg #[.int .i64 a, .int .i64 b, .int .i64 c, .int .i64 d]); binOp .eql 31 (.agg #[.int .i64 a, .int .i64 b, .int .i64 c, .int .i64 d]) (.agg #[.int .i64 a, .int .i64 b, .int .i64 c, .int .i64 d]) : Sem Value).run Tryz.prog w = .ok (.bool true) w := by
  rw [Sem.run_bind, run_eqGuard_agg w .eql 31 s t _ _ Tryz.eqGuardType31]
  show (binOp .eql 31 _ _).run Tryz.prog w = _
  have h25 : ∀ (a0 a1 a2 a3 : Int) (w : World), (Op.equalIn 10000 31 (.agg #[.int .i64 a0, .int .i64 a1, .int .i64 a2, .int .i64 a3]) (.agg #[.int .i64 a0, .int .i64 a1, .int .i64 a2, .int .i64 a3])).run Tryz.prog w = .ok true w := fun a0 a1 a2 a3 w => eq25 9997 a0 a1 a2 a3 w
  go_simp
theorem eq48_g (w : World) (c : Ch) (s t : Operand) : (do eqGuard .eql 48 s t (chv c) (chv c); binOp .eql 48 (chv c) (chv c) : Sem Value).run Tryz.prog w = .ok (.bool true) w := by
  rw [Sem.run_bind, run_eqGuard_agg w .eql 48 s t _ _ Tryz.eqGuardType48]
  show (binOp .eql 48 _ _).run Tryz.prog w = _
  go_simp
theorem neq3_self (w : World) (n : Int) : (binOp .neq 3 (.int .i64 n) (.int .i64 n)).run Tryz.prog w = .ok (.bool false) w := by go_simp
theorem neq2_self (w : World) (n : Int) : (binOp .neq 2 (.int .i64 n) (.int .i64 n)).run Tryz.prog w = .ok (.bool false) w := by go_simp
set_option maxHeartbeats 4000000 in
theorem frIs_any (F : Fr) (w : World) : Calls Tryz.prog 9 #[frv F, frv F] w fun e w' => e = .returned (.bool true) ∧ Seen w w' := by
  obtain ⟨W1, hW1⟩ : ∃ q, q = (w.alloc (.cells (frl F).toArray 37)).alloc (.cells (frl F).toArray 50) := ⟨_, rfl⟩
  have K2 := Lib.hid (show Blk W1 w.heap.size (frl F) 37 by rw [hW1]; exact (Blk.new w _ _).alloc _)
  have K3 := Lib.hid (show Blk W1 (w.heap.size + 1) (frl F) 50 by rw [hW1]; simpa using Blk.new (w.alloc (.cells (frl F).toArray 37)) (frl F) 50)
  have SA : Hid (Seen w W1) := by rw [hW1]; exact ((Seen.refl w).alloc _).alloc _
  unfold frv
  go_enter Tryz.func9, Tryz.ntmps9
  go_upto_region 1 with fail
  rw [← hW1]
  clear hW1
  have acc0 : Seen W1 W1.drew := (Seen.refl W1).drew
  refine wp_region_held_drew (S := fun w' => Seen W1 w') (by kernel_rfl) acc0 (fun _ => ?_)
  refine ZT 0 (some 5) (.pointer (some ⟨w.heap.size, 0, none⟩)) acc0 ?_
  simp only [Z1,Z2,Z3,Z4]
  refine ZU 1 (some 6) (.int .i64 F.x) (fun _ hS => run_by (Instr.loadAt 2 (.pointer (some ⟨w.heap.size, 0, none⟩))) (by kernel_rfl) (rd2 ((K2.out.seen hS).cell 0))) acc0 ?_
  simp only [Z1,Z2,Z3,Z4]
  refine ZT 2 (some 7) (.pointer (some ⟨(w.heap.size + 1), 0, none⟩)) acc0 ?_
  simp only [Z1,Z2,Z3,Z4]
  refine ZU 3 (some 8) (.int .i64 F.x) (fun _ hS => run_by (Instr.loadAt 2 (.pointer (some ⟨(w.heap.size + 1), 0, none⟩))) (by kernel_rfl) (rd2 ((K3.out.seen hS).cell 0))) acc0 ?_
  simp only [Z1,Z2,Z3,Z4]
  refine ZU 4 (some 9) (.bool true) (fun _ hS => run_by (binOp .eql 2 (.int .i64 F.x) (.int .i64 F.x)) (by kernel_rfl) (eqn2 _ (decide_eq_true rfl))) acc0 ?_
  simp only [Z1,Z2,Z3,Z4]
  refine ZT 5 (some 10) (.bool true) acc0 ?_
  simp only [Z1,Z2,Z3,Z4]
  refine ZT 6 (some 11) (.pointer (some ⟨w.heap.size, 1, none⟩)) acc0 ?_
  simp only [Z1,Z2,Z3,Z4]
  refine ZU 7 (some 12) (.int .i64 F.y) (fun _ hS => run_by (Instr.loadAt 2 (.pointer (some ⟨w.heap.size, 1, none⟩))) (by kernel_rfl) (rd2 ((K2.out.seen hS).cell 1))) acc0 ?_
  simp only [Z1,Z2,Z3,Z4]
  refine ZT 8 (some 13) (.pointer (some ⟨(w.heap.size + 1), 1, none⟩)) acc0 ?_
  simp only [Z1,Z2,Z3,Z4]
  refine ZU 9 (some 14) (.int .i64 F.y) (fun _ hS => run_by (Instr.loadAt 2 (.pointer (some ⟨(w.heap.size + 1), 1, none⟩))) (by kernel_rfl) (rd2 ((K3.out.seen hS).cell 1))) acc0 ?_
  simp only [Z1,Z2,Z3,Z4]
  refine ZU 10 (some 15) (.bool true) (fun _ hS => run_by (binOp .eql 2 (.int .i64 F.y) (.int .i64 F.y)) (by kernel_rfl) (eqn2 _ (decide_eq_true rfl))) acc0 ?_
  simp only [Z1,Z2,Z3,Z4]
  refine ZT 11 (some 16) (.bool true) acc0 ?_
  simp only [Z1,Z2,Z3,Z4]
  refine ZT 12 (some 17) (.bool true) acc0 ?_
  simp only [Z1,Z2,Z3,Z4]
  refine ZT 13 (some 18) (.pointer (some ⟨w.heap.size, 2, none⟩)) acc0 ?_
  simp only [Z1,Z2,Z3,Z4]
  refine ZU 14 (some 19) (.int .i64 F.w) (fun _ hS => run_by (Instr.loadAt 2 (.pointer (some ⟨w.heap.size, 2, none⟩))) (by kernel_rfl) (rd2 ((K2.out.seen hS).cell 2))) acc0 ?_
  simp only [Z1,Z2,Z3,Z4]
  refine ZT 15 (some 20) (.pointer (some ⟨(w.heap.size + 1), 2, none⟩)) acc0 ?_
  simp only [Z1,Z2,Z3,Z4]
  refine ZU 16 (some 21) (.int .i64 F.w) (fun _ hS => run_by (Instr.loadAt 2 (.pointer (some ⟨(w.heap.size + 1), 2, none⟩))) (by kernel_rfl) (rd2 ((K3.out.seen hS).cell 2))) acc0 ?_
  simp only [Z1,Z2,Z3,Z4]
  refine ZU 17 (some 22) (.bool true) (fun _ hS => run_by (binOp .eql 2 (.int .i64 F.w) (.int .i64 F.w)) (by kernel_rfl) (eqn2 _ (decide_eq_true rfl))) acc0 ?_
  simp only [Z1,Z2,Z3,Z4]
  refine ZT 18 (some 23) (.bool true) acc0 ?_
  simp only [Z1,Z2,Z3,Z4]
  refine ZT 19 (some 24) (.bool true) acc0 ?_
  simp only [Z1,Z2,Z3,Z4]
  refine ZT 20 (some 25) (.pointer (some ⟨w.heap.size, 3, none⟩)) acc0 ?_
  simp only [Z1,Z2,Z3,Z4]
  refine ZU 21 (some 26) (.int .i64 F.h) (fun _ hS => run_by (Instr.loadAt 2 (.pointer (some ⟨w.heap.size, 3, none⟩))) (by kernel_rfl) (rd2 ((K2.out.seen hS).cell 3))) acc0 ?_
  simp only [Z1,Z2,Z3,Z4]
  refine ZT 22 (some 27) (.pointer (some ⟨(w.heap.size + 1), 3, none⟩)) acc0 ?_
  simp only [Z1,Z2,Z3,Z4]
  refine ZU 23 (some 28) (.int .i64 F.h) (fun _ hS => run_by (Instr.loadAt 2 (.pointer (some ⟨(w.heap.size + 1), 3, none⟩))) (by kernel_rfl) (rd2 ((K3.out.seen hS).cell 3))) acc0 ?_
  simp only [Z1,Z2,Z3,Z4]
  refine ZU 24 (some 29) (.bool true) (fun _ hS => run_by (binOp .eql 2 (.int .i64 F.h) (.int .i64 F.h)) (by kernel_rfl) (eqn2 _ (decide_eq_true rfl))) acc0 ?_
  simp only [Z1,Z2,Z3,Z4]
  refine ZT 25 (some 30) (.bool true) acc0 ?_
  simp only [Z1,Z2,Z3,Z4]
  refine ZT 26 (some 31) (.bool true) acc0 ?_
  simp only [Z1,Z2,Z3,Z4]
  refine ZT 27 (some 32) (.pointer (some ⟨w.heap.size, 4, none⟩)) acc0 ?_
  simp only [Z1,Z2,Z3,Z4]
  refine ZU 28 (some 33) (.agg #[.int .i64 F.mg.a, .int .i64 F.mg.b, .int .i64 F.mg.c, .int .i64 F.mg.d]) (fun _ hS => run_by (Instr.loadAt 31 (.pointer (some ⟨w.heap.size, 4, none⟩))) (by kernel_rfl) (rda31 (vs := [.int .i64 F.mg.a, .int .i64 F.mg.b, .int .i64 F.mg.c, .int .i64 F.mg.d]) ((K2.out.seen hS).mid 4 4) rfl)) acc0 ?_
  simp only [Z1,Z2,Z3,Z4]
  refine ZT 29 (some 34) (.pointer (some ⟨(w.heap.size + 1), 4, none⟩)) acc0 ?_
  simp only [Z1,Z2,Z3,Z4]
  refine ZU 30 (some 35) (.agg #[.int .i64 F.mg.a, .int .i64 F.mg.b, .int .i64 F.mg.c, .int .i64 F.mg.d]) (fun _ hS => run_by (Instr.loadAt 31 (.pointer (some ⟨(w.heap.size + 1), 4, none⟩))) (by kernel_rfl) (rda31 (vs := [.int .i64 F.mg.a, .int .i64 F.mg.b, .int .i64 F.mg.c, .int .i64 F.mg.d]) ((K3.out.seen hS).mid 4 4) rfl)) acc0 ?_
  simp only [Z1,Z2,Z3,Z4]
  refine ZU 31 (some 36) (.bool true) (fun _ hS => run_by (do eqGuard .eql 31 (Operand.tmp 33) (Operand.tmp 35) (.agg #[.int .i64 F.mg.a, .int .i64 F.mg.b, .int .i64 F.mg.c, .int .i64 F.mg.d]) (.agg #[.int .i64 F.mg.a, .int .i64 F.mg.b, .int .i64 F.mg.c, .int .i64 F.mg.d]); binOp .eql 31 (.agg #[.int .i64 F.mg.a, .int .i64 F.mg.b, .int .i64 F.mg.c, .int .i64 F.mg.d]) (.agg #[.int .i64 F.mg.a, .int .i64 F.mg.b, .int .i64 F.mg.c, .int .i64 F.mg.d])) (by kernel_rfl) (eq31_g _ _ _ _ _ (Operand.tmp 33) (Operand.tmp 35))) acc0 ?_
  simp only [Z1,Z2,Z3,Z4]
  refine ZT 32 (some 37) (.bool true) acc0 ?_
  simp only [Z1,Z2,Z3,Z4]
  refine ZT 33 (some 38) (.bool true) acc0 ?_
  simp only [Z1,Z2,Z3,Z4]
  refine ZT 34 (some 39) (.pointer (some ⟨w.heap.size, 8, none⟩)) acc0 ?_
  simp only [Z1,Z2,Z3,Z4]
  refine ZU 35 (some 40) (.agg #[.int .i64 F.pd.a, .int .i64 F.pd.b, .int .i64 F.pd.c, .int .i64 F.pd.d]) (fun _ hS => run_by (Instr.loadAt 31 (.pointer (some ⟨w.heap.size, 8, none⟩))) (by kernel_rfl) (rda31 (vs := [.int .i64 F.pd.a, .int .i64 F.pd.b, .int .i64 F.pd.c, .int .i64 F.pd.d]) ((K2.out.seen hS).mid 8 4) rfl)) acc0 ?_
  simp only [Z1,Z2,Z3,Z4]
  refine ZT 36 (some 41) (.pointer (some ⟨(w.heap.size + 1), 8, none⟩)) acc0 ?_
  simp only [Z1,Z2,Z3,Z4]
  refine ZU 37 (some 42) (.agg #[.int .i64 F.pd.a, .int .i64 F.pd.b, .int .i64 F.pd.c, .int .i64 F.pd.d]) (fun _ hS => run_by (Instr.loadAt 31 (.pointer (some ⟨(w.heap.size + 1), 8, none⟩))) (by kernel_rfl) (rda31 (vs := [.int .i64 F.pd.a, .int .i64 F.pd.b, .int .i64 F.pd.c, .int .i64 F.pd.d]) ((K3.out.seen hS).mid 8 4) rfl)) acc0 ?_
  simp only [Z1,Z2,Z3,Z4]
  refine ZU 38 (some 43) (.bool true) (fun _ hS => run_by (do eqGuard .eql 31 (Operand.tmp 40) (Operand.tmp 42) (.agg #[.int .i64 F.pd.a, .int .i64 F.pd.b, .int .i64 F.pd.c, .int .i64 F.pd.d]) (.agg #[.int .i64 F.pd.a, .int .i64 F.pd.b, .int .i64 F.pd.c, .int .i64 F.pd.d]); binOp .eql 31 (.agg #[.int .i64 F.pd.a, .int .i64 F.pd.b, .int .i64 F.pd.c, .int .i64 F.pd.d]) (.agg #[.int .i64 F.pd.a, .int .i64 F.pd.b, .int .i64 F.pd.c, .int .i64 F.pd.d])) (by kernel_rfl) (eq31_g _ _ _ _ _ (Operand.tmp 40) (Operand.tmp 42))) acc0 ?_
  simp only [Z1,Z2,Z3,Z4]
  refine ZT 39 (some 44) (.bool true) acc0 ?_
  simp only [Z1,Z2,Z3,Z4]
  refine ZT 40 (some 45) (.bool true) acc0 ?_
  simp only [Z1,Z2,Z3,Z4]
  refine ZT 41 (some 46) (.pointer (some ⟨w.heap.size, 12, none⟩)) acc0 ?_
  simp only [Z1,Z2,Z3,Z4]
  refine ZU 42 (some 47) (.agg #[.int .i64 F.bd.a, .int .i64 F.bd.b, .int .i64 F.bd.c, .int .i64 F.bd.d]) (fun _ hS => run_by (Instr.loadAt 31 (.pointer (some ⟨w.heap.size, 12, none⟩))) (by kernel_rfl) (rda31 (vs := [.int .i64 F.bd.a, .int .i64 F.bd.b, .int .i64 F.bd.c, .int .i64 F.bd.d]) ((K2.out.seen hS).mid 12 4) rfl)) acc0 ?_
  simp only [Z1,Z2,Z3,Z4]
  refine ZT 43 (some 48) (.pointer (some ⟨(w.heap.size + 1), 12, none⟩)) acc0 ?_
  simp only [Z1,Z2,Z3,Z4]
  refine ZU 44 (some 49) (.agg #[.int .i64 F.bd.a, .int .i64 F.bd.b, .int .i64 F.bd.c, .int .i64 F.bd.d]) (fun _ hS => run_by (Instr.loadAt 31 (.pointer (some ⟨(w.heap.size + 1), 12, none⟩))) (by kernel_rfl) (rda31 (vs := [.int .i64 F.bd.a, .int .i64 F.bd.b, .int .i64 F.bd.c, .int .i64 F.bd.d]) ((K3.out.seen hS).mid 12 4) rfl)) acc0 ?_
  simp only [Z1,Z2,Z3,Z4]
  refine ZU 45 (some 50) (.bool true) (fun _ hS => run_by (do eqGuard .eql 31 (Operand.tmp 47) (Operand.tmp 49) (.agg #[.int .i64 F.bd.a, .int .i64 F.bd.b, .int .i64 F.bd.c, .int .i64 F.bd.d]) (.agg #[.int .i64 F.bd.a, .int .i64 F.bd.b, .int .i64 F.bd.c, .int .i64 F.bd.d]); binOp .eql 31 (.agg #[.int .i64 F.bd.a, .int .i64 F.bd.b, .int .i64 F.bd.c, .int .i64 F.bd.d]) (.agg #[.int .i64 F.bd.a, .int .i64 F.bd.b, .int .i64 F.bd.c, .int .i64 F.bd.d])) (by kernel_rfl) (eq31_g _ _ _ _ _ (Operand.tmp 47) (Operand.tmp 49))) acc0 ?_
  simp only [Z1,Z2,Z3,Z4]
  refine ZT 46 (some 51) (.bool true) acc0 ?_
  simp only [Z1,Z2,Z3,Z4]
  refine ZT 47 (some 52) (.bool true) acc0 ?_
  simp only [Z1,Z2,Z3,Z4]
  refine ZT 48 (some 53) (.pointer (some ⟨w.heap.size, 16, none⟩)) acc0 ?_
  simp only [Z1,Z2,Z3,Z4]
  refine ZU 49 (some 54) (.bool F.kn) (fun _ hS => run_by (Instr.loadAt 4 (.pointer (some ⟨w.heap.size, 16, none⟩))) (by kernel_rfl) (rd4 ((K2.out.seen hS).cell 16))) acc0 ?_
  simp only [Z1,Z2,Z3,Z4]
  refine ZT 50 (some 55) (.pointer (some ⟨(w.heap.size + 1), 16, none⟩)) acc0 ?_
  simp only [Z1,Z2,Z3,Z4]
  refine ZU 51 (some 56) (.bool F.kn) (fun _ hS => run_by (Instr.loadAt 4 (.pointer (some ⟨(w.heap.size + 1), 16, none⟩))) (by kernel_rfl) (rd4 ((K3.out.seen hS).cell 16))) acc0 ?_
  simp only [Z1,Z2,Z3,Z4]
  refine ZU 52 (some 57) (.bool true) (fun _ hS => run_by (binOp .eql 4 (.bool F.kn) (.bool F.kn)) (by kernel_rfl) (eq4_self _ _)) acc0 ?_
  simp only [Z1,Z2,Z3,Z4]
  refine ZT 53 (some 58) (.bool true) acc0 ?_
  simp only [Z1,Z2,Z3,Z4]
  refine ZT 54 (some 59) (.bool true) acc0 ?_
  simp only [Z1,Z2,Z3,Z4]
  refine ZT 55 (some 60) (.pointer (some ⟨w.heap.size, 17, none⟩)) acc0 ?_
  simp only [Z1,Z2,Z3,Z4]
  refine ZU 56 (some 61) (chv F.ch) (fun _ hS => run_by (Instr.loadAt 35 (.pointer (some ⟨w.heap.size, 17, none⟩))) (by kernel_rfl) (rda35q (vs := chl F.ch) ((K2.out.seen hS).mid 17 8) rfl)) acc0 ?_
  simp only [Z1,Z2,Z3,Z4]
  refine ZT 58 (some 63) (.pointer (some ⟨(w.heap.size + 1), 17, none⟩)) acc0 ?_
  simp only [Z1,Z2,Z3,Z4]
  refine ZU 59 (some 64) (chv F.ch) (fun _ hS => run_by (Instr.loadAt 48 (.pointer (some ⟨(w.heap.size + 1), 17, none⟩))) (by kernel_rfl) (rda48 (vs := chl F.ch) ((K3.out.seen hS).mid 17 8) rfl)) acc0 ?_
  simp only [Z1,Z2,Z3,Z4]
  refine ZC 57 (some 62) 32 #[chv F.ch] ?_
  refine (chOf_any F.ch _).mono ?_
  rintro e wd1 ⟨rfl, hb⟩
  have acc1 : Seen W1 wd1 := Seen.next acc0 hb
  clear hb
  refine ⟨_, rfl, acc1, ?_⟩
  simp only [Z1,Z2,Z3,Z4]
  refine ZU 60 (some 65) (.bool true) (fun _ hS => run_by (do eqGuard .eql 48 (Operand.tmp 62) (Operand.tmp 64) (chv F.ch) (chv F.ch); binOp .eql 48 (chv F.ch) (chv F.ch)) (by kernel_rfl) (eq48_g _ F.ch (Operand.tmp 62) (Operand.tmp 64))) acc1 ?_
  simp only [Z1,Z2,Z3,Z4]
  refine ZT 61 (some 66) (.bool true) acc1 ?_
  simp only [Z1,Z2,Z3,Z4]
  refine ZT 62 (some 4) (.bool true) acc1 ?_
  simp only [Z1,Z2,Z3,Z4]
  refine wpAnyH_done (by kernel_rfl) ?_ _
  have z1 := acc1
  go_wp2_with fail
  go_ret
  exact ⟨rfl, SA.out.trans z1⟩
theorem seen_range {W w' : World} {X o : Nat} {vs : List Value} (hs : Seen W w') (h : W.rangeAt X o vs) : w'.rangeAt X o vs := fun j v hj => hs.cell (h j v hj)
theorem run_index38o (g o k n c : Nat) (hk : k < n) (w : World) : (Instr.indexAt 38 (.slice (some ⟨g, o, none⟩) n c) (.int .i64 k)).run Tryz.prog w = .ok (.pointer (some ⟨g, o + k * 26, none⟩)) w := by
  simp [Instr.indexAt, asIntOf, run_underlying Tryz.underlying38, Tryz.sizeOf114, add_plain]
  omega
theorem run_index51o (g o k n c : Nat) (hk : k < n) (w : World) : (Instr.indexAt 51 (.slice (some ⟨g, o, none⟩) n c) (.int .i64 k)).run Tryz.prog w = .ok (.pointer (some ⟨g, o + k * 26, none⟩)) w := by
  simp [Instr.indexAt, asIntOf, run_underlying Tryz.underlying51, Tryz.sizeOf116, add_plain]
  omega
theorem pd_at {w : World} {B off N : Nat} {ps : List Pd} {k : Nat} (hk : k < N) (h : ∀ i, i < N → ∀ j, j < 26 → w.cell? ⟨B, off + i * 26 + j, none⟩ = (pdl (ps.getD i zPd))[j]?) : w.cell? ⟨B, off + k * 26, none⟩ = some (.int .i64 (ps.getD k zPd).n) := h k hk 0 (by omega)
theorem pd_fr {w : World} {B off N : Nat} {ps : List Pd} {k : Nat} (hk : k < N) (h : ∀ i, i < N → ∀ j, j < 26 → w.cell? ⟨B, off + i * 26 + j, none⟩ = (pdl (ps.getD i zPd))[j]?) : w.rangeAt B (off + k * 26 + 1) (frl (ps.getD k zPd).f) := fun j v hj => by
  have hj25 : j < 25 := by
    rcases Nat.lt_or_ge j 25 with h1 | h1
    · exact h1
    · rw [List.getElem?_eq_none (by rw [frl_length]; exact h1)] at hj; cases hj
  have e := h k hk (j + 1) (by omega)
  rw [show off + k * 26 + (j + 1) = off + k * 26 + 1 + j by omega] at e
  rw [e]
  show (Value.int .i64 _ :: frl _)[j + 1]? = some v
  rw [List.getElem?_cons_succ]
  exact hj
set_option maxHeartbeats 4000000 in
theorem layIs_any (va va3 ra ra3 : Option Addr) (N vc vc3 m rc rc3 : Nat) (P : Pi) (hi : Int) (ps : List Pd) (w : World) (hL : SL pdl 26 zPd w va N ps) (hL3 : SL pdl 26 zPd w va3 N ps) (hY : ZI w ra m P.y) (hY3 : ZI w ra3 m P.y) (hN : N ≤ 100000) (hm : m ≤ 1000000) :
    Calls Tryz.prog 10 #[layv (.slice va N vc) (.slice ra m rc) P hi, layv (.slice va3 N vc3) (.slice ra3 m rc3) P hi] w fun e w' => e = .returned (.bool true) ∧ Seen w w' := by
  obtain ⟨W1, hW1⟩ : ∃ q, q = (w.alloc (.cells (layl (.slice va N vc) (.slice ra m rc) P hi).toArray 43)).alloc (.cells (layl (.slice va3 N vc3) (.slice ra3 m rc3) P hi).toArray 55) := ⟨_, rfl⟩
  have K2 := Lib.hid (show Blk W1 w.heap.size (layl (.slice va N vc) (.slice ra m rc) P hi) 43 by rw [hW1]; exact (Blk.new w _ _).alloc _)
  have K3 := Lib.hid (show Blk W1 (w.heap.size + 1) (layl (.slice va3 N vc3) (.slice ra3 m rc3) P hi) 55 by rw [hW1]; simpa using Blk.new (w.alloc (.cells (layl (.slice va N vc) (.slice ra m rc) P hi).toArray 43)) (layl (.slice va3 N vc3) (.slice ra3 m rc3) P hi) 55)
  have SA : Hid (Seen w W1) := by rw [hW1]; exact ((Seen.refl w).alloc _).alloc _
  have HY2 := Lib.hid (ZS_seen hY SA.out)
  have HY3 := Lib.hid (ZS_seen hY3 SA.out)
  have HL2 := Lib.hid hL.2
  have HL3 := Lib.hid hL3.2
  clear hL hL3 hY hY3
  unfold layv layl
  go_enter Tryz.func10, Tryz.ntmps10
  go_upto_region 1 with fail
  rw [show ((w.alloc (.cells #[.slice va N vc, .slice ra m rc, .int .i64 P.edge, .int .i64 P.top.p, .int .i64 P.top.n, .int .i64 P.cur.p, .int .i64 P.cur.n, .bool P.att, .int .i64 hi] 43)).alloc (.cells #[.slice va3 N vc3, .slice ra3 m rc3, .int .i64 P.edge, .int .i64 P.top.p, .int .i64 P.top.n, .int .i64 P.cur.p, .int .i64 P.cur.n, .bool P.att, .int .i64 hi] 55)) = W1 from hW1.symm]
  clear hW1
  refine wp_region_lit ?_
  refine ZR (some 6) (.pointer (some ⟨w.heap.size, 0, none⟩)) W1 ?_
  simp only [Z1,Z2,Z3,Z4]
  refine ZX (some 7) (.slice va N vc) W1 (run_by (Instr.loadAt 38 (.pointer (some ⟨w.heap.size, 0, none⟩))) (by kernel_rfl) (rd38 (((K2.out.seen (Seen.refl W1)).cell 0)))) ?_
  simp only [Z1,Z2,Z3,Z4]
  refine ZR (some 8) (.int .i64 (N : Int)) W1 ?_
  simp only [Z1,Z2,Z3,Z4]
  refine ZR (some 9) (.pointer (some ⟨(w.heap.size + 1), 0, none⟩)) W1 ?_
  simp only [Z1,Z2,Z3,Z4]
  refine ZX (some 10) (.slice va3 N vc3) W1 (run_by (Instr.loadAt 51 (.pointer (some ⟨(w.heap.size + 1), 0, none⟩))) (by kernel_rfl) (rd51 (((K3.out.seen (Seen.refl W1)).cell 0)))) ?_
  simp only [Z1,Z2,Z3,Z4]
  refine ZR (some 11) (.int .i64 (N : Int)) W1 ?_
  simp only [Z1,Z2,Z3,Z4]
  refine ZX (some 12) (.bool false) W1 (run_by (binOp .neq 3 (.int .i64 (N : Int)) (.int .i64 (N : Int))) (by kernel_rfl) (neq3_self _ _)) ?_
  simp only [Z1,Z2,Z3,Z4]
  refine ZR (some 13) (.bool false) W1 ?_
  simp only [Z1,Z2,Z3,Z4]
  refine ZR (some 14) (.pointer (some ⟨w.heap.size, 8, none⟩)) W1 ?_
  simp only [Z1,Z2,Z3,Z4]
  refine ZX (some 15) (.int .i64 hi) W1 (run_by (Instr.loadAt 2 (.pointer (some ⟨w.heap.size, 8, none⟩))) (by kernel_rfl) (rd2 ((K2.out.seen (Seen.refl W1)).cell 8))) ?_
  simp only [Z1,Z2,Z3,Z4]
  refine ZR (some 16) (.pointer (some ⟨(w.heap.size + 1), 8, none⟩)) W1 ?_
  simp only [Z1,Z2,Z3,Z4]
  refine ZX (some 17) (.int .i64 hi) W1 (run_by (Instr.loadAt 2 (.pointer (some ⟨(w.heap.size + 1), 8, none⟩))) (by kernel_rfl) (rd2 ((K3.out.seen (Seen.refl W1)).cell 8))) ?_
  simp only [Z1,Z2,Z3,Z4]
  refine ZX (some 18) (.bool false) W1 (run_by (binOp .neq 2 (.int .i64 hi) (.int .i64 hi)) (by kernel_rfl) (neq2_self _ _)) ?_
  simp only [Z1,Z2,Z3,Z4]
  refine ZR (some 19) (.bool false) W1 ?_
  simp only [Z1,Z2,Z3,Z4]
  refine ZR (some 20) (.bool false) W1 ?_
  simp only [Z1,Z2,Z3,Z4]
  refine ZR (some 21) (.pointer (some ⟨w.heap.size, 1, none⟩)) W1 ?_
  simp only [Z1,Z2,Z3,Z4]
  refine ZX (some 22) (piv (.slice ra m rc) P) W1 (run_by (Instr.loadAt 41 (.pointer (some ⟨w.heap.size, 1, none⟩))) (by kernel_rfl) (rda41q (vs := pil5 (.slice ra m rc) P) ((K2.out.seen (Seen.refl W1)).mid 1 7) rfl)) ?_
  simp only [Z1,Z2,Z3,Z4]
  refine ZR (some 23) (.pointer (some ⟨(w.heap.size + 1), 1, none⟩)) W1 ?_
  simp only [Z1,Z2,Z3,Z4]
  refine ZX (some 24) (piv (.slice ra3 m rc3) P) W1 (run_by (Instr.loadAt 53 (.pointer (some ⟨(w.heap.size + 1), 1, none⟩))) (by kernel_rfl) (rda53 (vs := pil5 (.slice ra3 m rc3) P) ((K3.out.seen (Seen.refl W1)).mid 1 7) rfl)) ?_
  simp only [Z1,Z2,Z3,Z4]
  refine pCall (some 25) 33 #[piv (.slice ra m rc) P, piv (.slice ra3 m rc3) P] rfl (by kernel_rfl) (by kernel_rfl) ?_
  refine (is_any P ra ra3 m rc rc3 W1 HY2.out HY3.out (by omega)).mono ?_
  rintro e w4 ⟨rfl, hb⟩
  have SB : Hid (Seen W1 w4) := hb
  clear hb
  refine ⟨_, rfl, ?_⟩
  simp only [Z1,Z2,Z3,Z4]
  refine ZR (some 26) (.bool false) w4 ?_
  simp only [Z1,Z2,Z3,Z4]
  refine ZR (some 27) (.bool false) w4 ?_
  simp only [Z1,Z2,Z3,Z4]
  refine wpList_nil ?_
  have c2 : w4.cell? ⟨w.heap.size, 0, none⟩ = some (.slice va N vc) := (K2.out.seen SB.out).cell 0
  have hN' : Hid ((N : Int) = (N : Int)) := rfl
  go_upto_region 4 with fail
  go_loopw [31] (fun i wr => ∃ k : Nat, i = .int .i64 (k : Int) ∧ k ≤ N ∧ Seen W1 wr) (fun i _ => N - (intOf i).toNat)
  case atStart => exact ⟨0, rfl, by omega, SB.out⟩
  case round =>
    obtain ⟨k, rfl, hk, hsr⟩ := hrel
    have SR := Lib.hid hsr
    clear hsr c2
    by_cases hlt : k < N
    · have hlt' : (k : Int) < (N : Int) := by omega
      obtain ⟨b2, o2, e2, hc2⟩ := HL2.out (by omega)
      subst e2
      obtain ⟨b3, o3, e3, hc3⟩ := HL3.out (by omega)
      subst e3
      obtain ⟨Q, hQ⟩ : ∃ q, ps.getD k zPd = q := ⟨_, rfl⟩
      have hn2 := SA.out.cell (pd_at hlt hc2)
      have hn3 := SA.out.cell (pd_at hlt hc3)
      have hf2 := seen_range SA.out (pd_fr hlt hc2)
      have hf3 := seen_range SA.out (pd_fr hlt hc3)
      rw [hQ] at hn2 hn3 hf2 hf3
      have HN2 := Lib.hid hn2
      have HN3 := Lib.hid hn3
      have HF2 := Lib.hid hf2
      have HF3 := Lib.hid hf3
      clear hQ hc2 hc3 HL2 HL3 hn2 hn3 hf2 hf3 HY2 HY3
      go_upto_region 6 with fail
      have acc0 : Seen W1 wr.drew := SR.out.drew
      have hn2 := HN2.out
      have hn3 := HN3.out
      have hf2 := HF2.out
      have hf3 := HF3.out
      refine wp_region_held_drew (S := fun w' => Seen W1 w') (by kernel_rfl) acc0 (fun _ => ?_)
      refine ZT 0 (some 34) (.pointer (some ⟨w.heap.size, 0, none⟩)) acc0 ?_
      simp only [Z1,Z2,Z3,Z4]
      refine ZU 1 (some 35) (.slice (some ⟨b2, o2, none⟩) N vc) (fun _ hS => run_by (Instr.loadAt 38 (.pointer (some ⟨w.heap.size, 0, none⟩))) (by kernel_rfl) (rd38 (((K2.out.seen (hS)).cell 0)))) acc0 ?_
      simp only [Z1,Z2,Z3,Z4]
      refine ZT 2 (some 36) (.int .i64 (k : Int)) acc0 ?_
      simp only [Z1,Z2,Z3,Z4]
      refine ZU 3 (some 37) (.pointer (some ⟨b2, o2 + k * 26, none⟩)) (fun _ hS => run_by (Instr.indexAt 38 (.slice (some ⟨b2, o2, none⟩) N vc) (.int .i64 (k : Int))) (by kernel_rfl) (run_index38o b2 o2 k N vc hlt _)) acc0 ?_
      simp only [Z1,Z2,Z3,Z4]
      refine ZT 4 (some 38) (.pointer (some ⟨b2, o2 + k * 26, none⟩)) acc0 ?_
      simp only [Z1,Z2,Z3,Z4]
      refine ZU 5 (some 39) (.int .i64 Q.n) (fun _ hS => run_by (Instr.loadAt 3 (.pointer (some ⟨b2, o2 + k * 26, none⟩))) (by kernel_rfl) (rd3 ((hS).cell hn2))) acc0 ?_
      simp only [Z1,Z2,Z3,Z4]
      refine ZT 6 (some 40) (.pointer (some ⟨(w.heap.size + 1), 0, none⟩)) acc0 ?_
      simp only [Z1,Z2,Z3,Z4]
      refine ZU 7 (some 41) (.slice (some ⟨b3, o3, none⟩) N vc3) (fun _ hS => run_by (Instr.loadAt 51 (.pointer (some ⟨(w.heap.size + 1), 0, none⟩))) (by kernel_rfl) (rd51 (((K3.out.seen (hS)).cell 0)))) acc0 ?_
      simp only [Z1,Z2,Z3,Z4]
      refine ZT 8 (some 42) (.int .i64 (k : Int)) acc0 ?_
      simp only [Z1,Z2,Z3,Z4]
      refine ZU 9 (some 43) (.pointer (some ⟨b3, o3 + k * 26, none⟩)) (fun _ hS => run_by (Instr.indexAt 51 (.slice (some ⟨b3, o3, none⟩) N vc3) (.int .i64 (k : Int))) (by kernel_rfl) (run_index51o b3 o3 k N vc3 hlt _)) acc0 ?_
      simp only [Z1,Z2,Z3,Z4]
      refine ZT 10 (some 44) (.pointer (some ⟨b3, o3 + k * 26, none⟩)) acc0 ?_
      simp only [Z1,Z2,Z3,Z4]
      refine ZU 11 (some 45) (.int .i64 Q.n) (fun _ hS => run_by (Instr.loadAt 3 (.pointer (some ⟨b3, o3 + k * 26, none⟩))) (by kernel_rfl) (rd3 ((hS).cell hn3))) acc0 ?_
      simp only [Z1,Z2,Z3,Z4]
      refine ZU 12 (some 46) (.bool false) (fun _ hS => run_by (binOp .neq 3 (.int .i64 Q.n) (.int .i64 Q.n)) (by kernel_rfl) (neq3_self _ _)) acc0 ?_
      simp only [Z1,Z2,Z3,Z4]
      refine ZT 13 (some 47) (.bool false) acc0 ?_
      simp only [Z1,Z2,Z3,Z4]
      refine ZT 14 (some 48) (.pointer (some ⟨w.heap.size, 0, none⟩)) acc0 ?_
      simp only [Z1,Z2,Z3,Z4]
      refine ZU 15 (some 49) (.slice (some ⟨b2, o2, none⟩) N vc) (fun _ hS => run_by (Instr.loadAt 38 (.pointer (some ⟨w.heap.size, 0, none⟩))) (by kernel_rfl) (rd38 (((K2.out.seen (hS)).cell 0)))) acc0 ?_
      simp only [Z1,Z2,Z3,Z4]
      refine ZT 16 (some 50) (.int .i64 (k : Int)) acc0 ?_
      simp only [Z1,Z2,Z3,Z4]
      refine ZU 17 (some 51) (.pointer (some ⟨b2, o2 + k * 26, none⟩)) (fun _ hS => run_by (Instr.indexAt 38 (.slice (some ⟨b2, o2, none⟩) N vc) (.int .i64 (k : Int))) (by kernel_rfl) (run_index38o b2 o2 k N vc hlt _)) acc0 ?_
      simp only [Z1,Z2,Z3,Z4]
      refine ZT 18 (some 52) (.pointer (some ⟨b2, o2 + k * 26 + 1, none⟩)) acc0 ?_
      simp only [Z1,Z2,Z3,Z4]
      refine ZU 19 (some 53) (frv Q.f) (fun _ hS => run_by (Instr.loadAt 37 (.pointer (some ⟨b2, o2 + k * 26 + 1, none⟩))) (by kernel_rfl) (rda37q (vs := frl Q.f) (seen_range (hS) hf2) rfl)) acc0 ?_
      simp only [Z1,Z2,Z3,Z4]
      refine ZT 20 (some 54) (.pointer (some ⟨(w.heap.size + 1), 0, none⟩)) acc0 ?_
      simp only [Z1,Z2,Z3,Z4]
      refine ZU 21 (some 55) (.slice (some ⟨b3, o3, none⟩) N vc3) (fun _ hS => run_by (Instr.loadAt 51 (.pointer (some ⟨(w.heap.size + 1), 0, none⟩))) (by kernel_rfl) (rd51 (((K3.out.seen (hS)).cell 0)))) acc0 ?_
      simp only [Z1,Z2,Z3,Z4]
      refine ZT 22 (some 56) (.int .i64 (k : Int)) acc0 ?_
      simp only [Z1,Z2,Z3,Z4]
      refine ZU 23 (some 57) (.pointer (some ⟨b3, o3 + k * 26, none⟩)) (fun _ hS => run_by (Instr.indexAt 51 (.slice (some ⟨b3, o3, none⟩) N vc3) (.int .i64 (k : Int))) (by kernel_rfl) (run_index51o b3 o3 k N vc3 hlt _)) acc0 ?_
      simp only [Z1,Z2,Z3,Z4]
      refine ZT 24 (some 58) (.pointer (some ⟨b3, o3 + k * 26 + 1, none⟩)) acc0 ?_
      simp only [Z1,Z2,Z3,Z4]
      refine ZU 25 (some 59) (frv Q.f) (fun _ hS => run_by (Instr.loadAt 50 (.pointer (some ⟨b3, o3 + k * 26 + 1, none⟩))) (by kernel_rfl) (rda50 (vs := frl Q.f) (seen_range (hS) hf3) rfl)) acc0 ?_
      simp only [Z1,Z2,Z3,Z4]
      refine ZC 26 (some 60) 9 #[frv Q.f, frv Q.f] ?_
      refine (frIs_any Q.f _).mono ?_
      rintro e wd1 ⟨rfl, hb⟩
      have acc1 : Seen W1 wd1 := Seen.next acc0 hb
      clear hb
      refine ⟨_, rfl, acc1, ?_⟩
      simp only [Z1,Z2,Z3,Z4]
      refine ZT 27 (some 61) (.bool false) acc1 ?_
      simp only [Z1,Z2,Z3,Z4]
      refine ZT 28 (some 62) (.bool false) acc1 ?_
      simp only [Z1,Z2,Z3,Z4]
      refine wpAnyH_done (by kernel_rfl) ?_ _
      have z1 := acc1
      go_wp2_with fail
      go_roundw
      case rel => exact ⟨k + 1, by go_num, by omega, z1⟩
      case measure => simp [intOf]; omega
    · have hlt' : ¬ (k : Int) < (N : Int) := by omega
      go_wp2_with fail
      go_ret
      exact ⟨rfl, SA.out.trans SR.out⟩
end Go.Proofs.YtngeaigkafamiaaGreat

