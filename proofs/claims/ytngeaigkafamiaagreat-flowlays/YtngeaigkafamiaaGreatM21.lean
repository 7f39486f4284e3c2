/- Texts of the proof, merged: FR3. -/
import Derived.Test.YtngeaigkafamiaaGreatM13
import Derived.Test.YtngeaigkafamiaaGreatM20
import Derived.Test.YtngeaigkafamiaaGreatM15
namespace Go.Proofs.YtngeaigkafamiaaGreat
open Go.ChangeShapes Go.WideShapes Go.ChangeAt Go.RowKit
set_option maxRecDepth 100000
theorem two_one (a b : Int) : ∀ u ∈ [Value.int .i64 a, .int .i64 b], u.oneCell' = true := by intro u hu; simp at hu; rcases hu with rfl | rfl <;> rfl
def refThr (K : Kn) (p : Pi) : Bool := if K.empty then (!K.alone && (K.top && (K.bot && decide (K.ht.lo = 0)))) && (K.ht.own.au || decide (K.ht.own.n = 0)) else (!K.alone && (K.top && (K.bot && decide (K.ht.lo = 0)))) && (K.ht.own.au && p.att)
def refCh (K : Kn) (f : Fr) (p : Pi) (ob : Bool) (high : Int) : Ch :=
  ⟨if refThr K p then joinS (joinS (ofM f.mg.a) p.top) (ofM f.mg.c) else joinS (ofM f.mg.a) p.top,
   if refThr K p then joinS (joinS (ofM f.mg.a) p.top) (ofM f.mg.c) else if ob && !K.empty then joinS (ofM f.mg.c) p.cur else ofM f.mg.c,
   joinS (ofM f.mg.a) p.top, refThr K p, high⟩
theorem wpList_storeX {ops : Array Oper} {rest : List Oper} {op : Oper} {a : Act} {w : World} {Q : Exit → Act → World → Prop} (hgd : op.guard = none) (x y : Operand) (ho : op.op = .store 48 x y) (X : Nat) (cs : List Value) (c : Ch)
    (hx : a.eval x = .pointer (some ⟨X, 0, none⟩)) (hy : a.eval y = chv c) (hl : cs.length = 8) (hb : Blk w X cs 48)
    (h : ∀ w', Blk w' X (chl c) 48 → Turns X w w' → wpList Tryz.prog ops Q rest (a.put op.dst undef) w') : wpList Tryz.prog ops Q (op :: rest) a w :=
  wpList_storeC hgd 48 x y ho X 0 (chl c) hx hy zz48 (chl_one c) hb (by rw [hl]; exact Nat.le_refl _) (sets_all _ _ hl) h
theorem run_loadX {w : World} {X : Nat} {c : Ch} (h : Blk w X (chl c) 48) : (loadVar 48 ⟨X, 0, none⟩).run Tryz.prog w = .ok (chv c) w :=
  run_loadVar_mid w X 0 48 (chl c) _ h.range Tryz.underlying48 rfl zz48
set_option maxHeartbeats 8000000 in
theorem child_any (K : Kn) (f : Fr) (a : Option Addr) (c : Nat) (p : Pi) (ob : Bool) (high : Int) (w : World) :
    Calls Tryz.prog 31 #[knv K, frv f, piv (.slice a p.y.length c) p, .bool ob, .int .i64 high] w fun e w' => e = .returned (chv (refCh K f p ob high)) ∧ Seen w w' := by
  have HV := Lib.hid (show refCh K f p ob high = ⟨if refThr K p then joinS (joinS (ofM f.mg.a) p.top) (ofM f.mg.c) else joinS (ofM f.mg.a) p.top,
     if refThr K p then joinS (joinS (ofM f.mg.a) p.top) (ofM f.mg.c) else if ob && !K.empty then joinS (ofM f.mg.c) p.cur else ofM f.mg.c, joinS (ofM f.mg.a) p.top, refThr K p, high⟩ from rfl)
  have HT := Lib.hid (show refThr K p = if K.empty then (!K.alone && (K.top && (K.bot && decide (K.ht.lo = 0)))) && (K.ht.own.au || decide (K.ht.own.n = 0)) else (!K.alone && (K.top && (K.bot && decide (K.ht.lo = 0)))) && (K.ht.own.au && p.att) from rfl)
  generalize refCh K f p ob high = RC at HV ⊢
  generalize refThr K p = t at HV HT
  obtain ⟨m, q, ⟨⟨au, n⟩, lo, hi⟩, top, bot, alone, empty⟩ := K
  obtain ⟨y, ed, ⟨tp, tn⟩, ⟨up, un⟩, att⟩ := p
  simp only at HV HT
  obtain ⟨FL, hFL⟩ : ∃ q, (!alone && (top && (bot && decide (lo = 0)))) = q := ⟨_, rfl⟩
  have HFL := Lib.hid hFL
  rw [hFL] at HT
  clear hFL
  have AL := Lib.hid (fun m w => refAll1 m w)
  have JA := Lib.hid (fun w => refJoin_any (ofM f.mg.a) ⟨tp, tn⟩ w)
  have KA := Lib.hid (fun w => refJoin_any (joinS (ofM f.mg.a) ⟨tp, tn⟩) (ofM f.mg.c) w)
  have MA := Lib.hid (fun w => refJoin_any (ofM f.mg.c) ⟨up, un⟩ w)
  have ALA := Lib.hid (fun w => refAll1 f.mg.a w)
  have ALC := Lib.hid (fun w => refAll1 f.mg.c w)
  clear AL
  generalize joinS (joinS (ofM f.mg.a) ⟨tp, tn⟩) (ofM f.mg.c) = K at HV KA
  generalize joinS (ofM f.mg.a) ⟨tp, tn⟩ = J at HV JA KA
  generalize joinS (ofM f.mg.c) ⟨up, un⟩ = M at HV MA
  generalize ofM f.mg.a = T at HV ALA JA
  generalize ofM f.mg.c = B at HV ALC KA MA
  obtain ⟨W, hW⟩ : ∃ W, W = ((((w.alloc (.cells (knl ⟨m, q, ⟨⟨au, n⟩, lo, hi⟩, top, bot, alone, empty⟩).toArray 91)).alloc (.cells (frl f).toArray 50)).alloc (.cells #[.slice a y.length c, .int .i64 ed, .int .i64 tp, .int .i64 tn, .int .i64 up, .int .i64 un, .bool att] 53)).alloc (.cells #[.int .i64 0, .int .i64 0, .int .i64 0, .int .i64 0, .int .i64 0, .int .i64 0, .bool false, .int .i64 0] 48)) := ⟨_, rfl⟩
  have k0 : Blk W (w.heap.size) (knl ⟨m, q, ⟨⟨au, n⟩, lo, hi⟩, top, bot, alone, empty⟩) 91 := by rw [hW]; exact (((Blk.new w (knl ⟨m, q, ⟨⟨au, n⟩, lo, hi⟩, top, bot, alone, empty⟩) 91).alloc (.cells (frl f).toArray 50)).alloc (.cells #[.slice a y.length c, .int .i64 ed, .int .i64 tp, .int .i64 tn, .int .i64 up, .int .i64 un, .bool att] 53)).alloc (.cells #[.int .i64 0, .int .i64 0, .int .i64 0, .int .i64 0, .int .i64 0, .int .i64 0, .bool false, .int .i64 0] 48)
  have k1 : Blk W (w.heap.size + 1) (frl f) 50 := by rw [hW]; simpa using ((Blk.new (w.alloc (.cells (knl ⟨m, q, ⟨⟨au, n⟩, lo, hi⟩, top, bot, alone, empty⟩).toArray 91)) (frl f) 50).alloc (.cells #[.slice a y.length c, .int .i64 ed, .int .i64 tp, .int .i64 tn, .int .i64 up, .int .i64 un, .bool att] 53)).alloc (.cells #[.int .i64 0, .int .i64 0, .int .i64 0, .int .i64 0, .int .i64 0, .int .i64 0, .bool false, .int .i64 0] 48)
  have k2 : Blk W (w.heap.size + 1 + 1) [.slice a y.length c, .int .i64 ed, .int .i64 tp, .int .i64 tn, .int .i64 up, .int .i64 un, .bool att] 53 := by rw [hW]; simpa using (Blk.new ((w.alloc (.cells (knl ⟨m, q, ⟨⟨au, n⟩, lo, hi⟩, top, bot, alone, empty⟩).toArray 91)).alloc (.cells (frl f).toArray 50)) [.slice a y.length c, .int .i64 ed, .int .i64 tp, .int .i64 tn, .int .i64 up, .int .i64 un, .bool att] 53).alloc (.cells #[.int .i64 0, .int .i64 0, .int .i64 0, .int .i64 0, .int .i64 0, .int .i64 0, .bool false, .int .i64 0] 48)
  have k3 : Blk W (w.heap.size + 1 + 1 + 1) [.int .i64 0, .int .i64 0, .int .i64 0, .int .i64 0, .int .i64 0, .int .i64 0, .bool false, .int .i64 0] 48 := by rw [hW]; simpa using Blk.new (((w.alloc (.cells (knl ⟨m, q, ⟨⟨au, n⟩, lo, hi⟩, top, bot, alone, empty⟩).toArray 91)).alloc (.cells (frl f).toArray 50)).alloc (.cells #[.slice a y.length c, .int .i64 ed, .int .i64 tp, .int .i64 tn, .int .i64 up, .int .i64 un, .bool att] 53)) [.int .i64 0, .int .i64 0, .int .i64 0, .int .i64 0, .int .i64 0, .int .i64 0, .bool false, .int .i64 0] 48
  have SW : Hid (Seen w W) := by rw [hW]; exact ((((Seen.refl w).alloc _).alloc _).alloc _).alloc _
  have hsz : Hid (W.heap.size = w.heap.size + 1 + 1 + 1 + 1) := by rw [hW]; simp [Hid]
  have K0 := Lib.hid k0
  have K1 := Lib.hid k1
  have K2 := Lib.hid k2
  have K3 := Lib.hid k3
  clear k0 k1 k2 k3
  unfold knv frv
  go_enter Tryz.func31, Tryz.ntmps31
  go_upto_region 1 with fail
  rw [← hW]
  clear hW
  go_upto_region 2 with fail
  obtain ⟨w1, hw1⟩ : ∃ q, q = W.alloc (.cells #[.int .i64 0, .int .i64 0, .int .i64 0, .int .i64 0, .int .i64 0, .int .i64 0, .bool false, .int .i64 high] 48) := ⟨_, rfl⟩
  rw [← hw1]
  have S1 : Hid (Seen W w1) := by rw [hw1]; exact (Seen.refl W).alloc _
  have KC : Hid (Blk w1 W.heap.size (chl ⟨⟨0, 0⟩, ⟨0, 0⟩, ⟨0, 0⟩, false, high⟩) 48) := by rw [hw1]; exact Blk.new W _ _
  clear hw1
  obtain ⟨C, hC⟩ : ∃ q, W.heap.size = q := ⟨_, rfl⟩
  rw [hC] at KC hsz ⊢
  have HCC := Lib.hid hC
  clear hC
  obtain ⟨X5, hX5⟩ : ∃ q, w.heap.size = q := ⟨_, rfl⟩
  obtain ⟨X6, hX6⟩ : ∃ q, w.heap.size + 1 = q := ⟨_, rfl⟩
  obtain ⟨X7, hX7⟩ : ∃ q, w.heap.size + 1 + 1 = q := ⟨_, rfl⟩
  obtain ⟨X10, hX10⟩ : ∃ q, w.heap.size + 1 + 1 + 1 = q := ⟨_, rfl⟩
  rw [hX10] at K3 hsz ⊢
  rw [hX7] at K2 ⊢
  rw [hX6] at K1 ⊢
  rw [hX5] at K0 ⊢
  have o0 : X5 < C := by have := hsz.out; omega
  have o1 : X6 < C := by have := hsz.out; omega
  have o2 : X7 < C := by have := hsz.out; omega
  have o3 : X10 < C := by have := hsz.out; omega
  have gw : w.heap.size ≤ X10 := by omega
  have gW : W.heap.size ≤ C := by have := HCC.out; omega
  clear hX5 hX6 hX7 hX10 hsz
  have d22 : w1.cell? ⟨X5, 22, none⟩ = some (.bool alone) := (K0.out.seen S1.out).cell 22
  have d20 : w1.cell? ⟨X5, 20, none⟩ = some (.bool top) := (K0.out.seen S1.out).cell 20
  have d21 : w1.cell? ⟨X5, 21, none⟩ = some (.bool bot) := (K0.out.seen S1.out).cell 21
  have d18 : w1.cell? ⟨X5, 18, none⟩ = some (.int .i64 lo) := (K0.out.seen S1.out).cell 18
  have d23 : w1.cell? ⟨X5, 23, none⟩ = some (.bool empty) := (K0.out.seen S1.out).cell 23
  have d16 : w1.cell? ⟨X5, 16, none⟩ = some (.bool au) := (K0.out.seen S1.out).cell 16
  have d17 : w1.cell? ⟨X5, 17, none⟩ = some (.int .i64 n) := (K0.out.seen S1.out).cell 17
  have d6 : w1.cell? ⟨X7, 6, none⟩ = some (.bool att) := (K2.out.seen S1.out).cell 6
  go_cut [12] (fun u wx => (u = .bool FL ∧ wx = w1) : Value → World → Prop)
  case first =>
    clear HV HT JA KA MA ALA ALC K0 K1 K2 K3 KC SW S1
    cases alone
    · cases top
      · have HF : Hid (FL = false ∧ True) := ⟨by rw [← HFL.out]; rfl, trivial⟩
        clear HFL
        go_wp2_with fail
        go_meet
        exact ⟨by rw [HF.out.1], rfl⟩
      · cases bot
        · have HF : Hid (FL = false ∧ True) := ⟨by rw [← HFL.out]; rfl, trivial⟩
          clear HFL
          go_wp2_with fail
          go_meet
          exact ⟨by rw [HF.out.1], rfl⟩
        · by_cases h0 : lo = 0
          · subst h0
            have HF : Hid (FL = true ∧ True) := ⟨by rw [← HFL.out]; rfl, trivial⟩
            clear HFL
            go_wp2_with fail
            go_meet
            exact ⟨by rw [HF.out.1], rfl⟩
          · have hb0 : (lo == 0) = false := by simpa using h0
            have HF : Hid (FL = false ∧ True) := ⟨by rw [← HFL.out]; simp [h0], trivial⟩
            clear HFL
            go_wp2_with fail
            go_meet
            exact ⟨by rw [HF.out.1], rfl⟩
    · have HF : Hid (FL = false ∧ True) := ⟨by rw [← HFL.out]; rfl, trivial⟩
      clear HFL
      go_wp2_with fail
      go_meet
      exact ⟨by rw [HF.out.1], rfl⟩
  obtain ⟨rfl, rfl⟩ := hcut
  clear HFL d22 d20 d21 d18
  go_upto_if 33 with fail
  go_cut [] (fun wx => (Blk wx C (chl ⟨⟨0, 0⟩, ⟨0, 0⟩, ⟨0, 0⟩, t, high⟩) 48 ∧ Seen W wx) : World → Prop)
  case first =>
    have gC1 := gW
    have fz := KC.out.free
    have c6 := KC.out.cell 6
    clear HV JA KA MA ALA ALC K0 K1 K2 K3 SW
    cases empty
    · cases FL
      · have HF : Hid (t = false ∧ True) := ⟨by rw [HT.out]; rfl, trivial⟩
        clear HT
        go_wp2_with fail
        go_meet
        exact ⟨by rw [HF.out.1]; exact KC.out.set 6 (.bool false), seen_set (o := 6) (v := .bool false) S1.out gW⟩
      · cases au
        · have HF : Hid (t = false ∧ True) := ⟨by rw [HT.out]; rfl, trivial⟩
          clear HT
          go_wp2_with fail
          go_meet
          exact ⟨by rw [HF.out.1]; exact KC.out.set 6 (.bool false), seen_set (o := 6) (v := .bool false) S1.out gW⟩
        · cases att
          · have HF : Hid (t = false ∧ True) := ⟨by rw [HT.out]; rfl, trivial⟩
            clear HT
            go_wp2_with fail
            go_meet
            exact ⟨by rw [HF.out.1]; exact KC.out.set 6 (.bool false), seen_set (o := 6) (v := .bool false) S1.out gW⟩
          · have HF : Hid (t = true ∧ True) := ⟨by rw [HT.out]; rfl, trivial⟩
            clear HT
            go_wp2_with fail
            go_meet
            exact ⟨by rw [HF.out.1]; exact KC.out.set 6 (.bool true), seen_set (o := 6) (v := .bool true) S1.out gW⟩
    · cases FL
      · have HF : Hid (t = false ∧ True) := ⟨by rw [HT.out]; rfl, trivial⟩
        clear HT
        go_wp2_with fail
        go_meet
        exact ⟨by rw [HF.out.1]; exact KC.out.set 6 (.bool false), seen_set (o := 6) (v := .bool false) S1.out gW⟩
      · cases au
        · by_cases h0 : n = 0
          · subst h0
            have HF : Hid (t = true ∧ True) := ⟨by rw [HT.out]; rfl, trivial⟩
            clear HT
            go_wp2_with fail
            go_meet
            exact ⟨by rw [HF.out.1]; exact KC.out.set 6 (.bool true), seen_set (o := 6) (v := .bool true) S1.out gW⟩
          · have hb0 : (n == 0) = false := by simpa using h0
            have HF : Hid (t = false ∧ True) := ⟨by rw [HT.out]; simp [h0], trivial⟩
            clear HT
            go_wp2_with fail
            go_meet
            exact ⟨by rw [HF.out.1]; exact KC.out.set 6 (.bool false), seen_set (o := 6) (v := .bool false) S1.out gW⟩
        · have HF : Hid (t = true ∧ True) := ⟨by rw [HT.out]; rfl, trivial⟩
          clear HT
          go_wp2_with fail
          go_meet
          exact ⟨by rw [HF.out.1]; exact KC.out.set 6 (.bool true), seen_set (o := 6) (v := .bool true) S1.out gW⟩
  obtain ⟨kC, sC⟩ := hcut
  have SC := Lib.hid sC
  have kC0 := kC.drew
  clear d23 d16 d17 d6 KC S1 HT sC kC
  go_upto_region 6 with fail
  go_cut [] (fun wx => (Blk wx C (chl ⟨⟨0, 0⟩, ⟨0, 0⟩, J, t, high⟩) 48 ∧ Seen W wx) : World → Prop)
  case first =>
    have acc0 : Seen W wc.drew := SC.out.drew
    refine wp_region_held_drew (S := fun w' => Seen W w') (by kernel_rfl) acc0 (fun _ => ?_)
    refine ZT 0 (some 58) (.pointer (some ⟨X6, 4, none⟩)) acc0 ?_
    simp only [Z1,Z2,Z3,Z4]
    refine ZT 1 (some 59) (.pointer (some ⟨X6, 4, none⟩)) acc0 ?_
    simp only [Z1,Z2,Z3,Z4]
    refine ZU 2 (some 60) (.int .i64 f.mg.a) (fun _ hS => run_by (Instr.loadAt 2 (.pointer (some ⟨X6, 4, none⟩))) (by kernel_rfl) (rd2 ((K1.out.seen hS).cell 4))) acc0 ?_
    simp only [Z1,Z2,Z3,Z4]
    refine ZT 5 (some 63) (.pointer (some ⟨X7, 2, none⟩)) acc0 ?_
    simp only [Z1,Z2,Z3,Z4]
    refine ZU 6 (some 64) (.agg #[.int .i64 tp, .int .i64 tn]) (fun _ hS => run_by (Instr.loadAt 46 (.pointer (some ⟨X7, 2, none⟩))) (by kernel_rfl) (rda46 (vs := [.int .i64 tp, .int .i64 tn]) ((K2.out.seen hS).mid 2 2) rfl)) acc0 ?_
    simp only [Z1,Z2,Z3,Z4]
    refine hRun 3 (some 61) (.slice (some ⟨wc.drew.heap.size, 0, none⟩) 1 1) (by kernel_rfl) (by kernel_rfl) (by kernel_rfl) (by kernel_rfl) (by kernel_rfl) (show Seen W (wc.drew.alloc (.cells #[.int .i64 f.mg.a] 2)) from Seen.alloc acc0 _) ?_
    have acc1 := (show Seen W (wc.drew.alloc (.cells #[.int .i64 f.mg.a] 2)) from Seen.alloc acc0 _)
    simp only [Z1,Z2,Z3,Z4]
    refine ZC 4 (some 62) 59 #[.slice (some ⟨wc.drew.heap.size, 0, none⟩) 1 1] ?_
    refine (ALA.out wc.drew).mono ?_
    rintro e wd2 ⟨rfl, hb⟩
    have acc2 : Seen W wd2 := Seen.next acc0 hb
    have kC2 := Blk.seen kC0 hb
    clear hb
    refine ⟨_, rfl, acc2, ?_⟩
    simp only [Z1,Z2,Z3,Z4]
    refine ZC 7 (some 65) 58 #[.agg #[.int .i64 T.p, .int .i64 T.n], .agg #[.int .i64 tp, .int .i64 tn]] ?_
    refine (JA.out _).mono ?_
    rintro e wd3 ⟨rfl, hb⟩
    have acc3 : Seen W wd3 := Seen.next acc2 hb
    have kC3 := Blk.seen kC2 hb
    clear hb
    refine ⟨_, rfl, acc3, ?_⟩
    simp only [Z1,Z2,Z3,Z4]
    refine ZT 8 (some 66) (.pointer (some ⟨C, 4, none⟩)) acc3 ?_
    simp only [Z1,Z2,Z3,Z4]
    refine ZK 9 none (run_skip_by (Instr.storeAt 46 (.pointer (some ⟨C, 4, none⟩)) (.agg #[.int .i64 J.p, .int .i64 J.n])) (by kernel_rfl) (wr46 (vs := [.int .i64 J.p, .int .i64 J.n]) kC3 rfl (by show 4 + 2 ≤ 8; decide) (two_one _ _))) ((Seen.turns acc3 (turns_sets _ (C) 4 [.int .i64 J.p, .int .i64 J.n]) gW)) ?_
    simp only [Act.put]
    refine wpAnyH_done (by kernel_rfl) ?_ _
    have z1 : Blk _ C (chl ⟨⟨0, 0⟩, ⟨0, 0⟩, J, t, high⟩) 48 := (block_sets kC3 4 [.int .i64 J.p, .int .i64 J.n] rfl)
    have z2 := (Seen.turns acc3 (turns_sets _ (C) 4 [.int .i64 J.p, .int .i64 J.n]) gW)
    go_wp2_with fail
    go_meet
    exact ⟨z1, z2⟩
  obtain ⟨kC, sC⟩ := hcut
  have d6c := (K1.out.seen sC).cell 6
  have d6d : wc.cell? ⟨X6, 6, none⟩ = some (.int .i64 f.mg.c) := d6c
  clear d6c SC ALA JA
  have KC := Lib.hid kC
  have SC := Lib.hid sC
  clear kC sC kC0
  go_upto_region 9 with (go_at_call 59; refine (ALC.out wc).mono ?_; clear ALC d6d; rintro e w7 ⟨rfl, hb⟩; have S7 := Lib.hid (show Seen wc w7 from hb); clear hb)
  obtain ⟨V, hV⟩ : ∃ q, q = w7.alloc (.cells #[.int .i64 B.p, .int .i64 B.n] 46) := ⟨_, rfl⟩
  have kB : Blk V w7.heap.size [.int .i64 B.p, .int .i64 B.n] 46 := by rw [hV]; exact Blk.new _ _ _
  have sV : Seen wc V := by rw [hV]; exact S7.out.alloc _
  have lC : C < w7.heap.size := Nat.lt_of_lt_of_le KC.out.lt S7.out.size
  rw [← hV]
  clear hV S7
  obtain ⟨OB, hOB⟩ : ∃ q, w7.heap.size = q := ⟨_, rfl⟩
  rw [hOB] at kB lC ⊢
  clear hOB
  have kCV := KC.out.seen sV
  have aV := SC.out.trans sV
  have hBC : OB ≠ C := by omega
  have hPC : X7 ≠ C := by omega
  have hRC : C ≠ X10 := by omega
  have hRC2 : X10 ≠ C := by omega
  have kRV := K3.out.seen aV
  have kPV := K2.out.seen aV
  have d23 : V.cell? ⟨X5, 23, none⟩ = some (.bool empty) := (K0.out.seen aV).cell 23
  have rC := kCV.rulesCh
  have rB := kB.rules2
  have c0 := rC V (Seen.refl V)
  have c1 := rB V (Seen.refl V)
  have KCV := Lib.hid kCV
  have KB := Lib.hid kB
  have KR := Lib.hid kRV
  have KP := Lib.hid kPV
  have AV := Lib.hid aV
  clear KC SC sV K0 K1 K2 K3 kCV kB kRV kPV aV
  cases t
  · cases ob
    · have HN : Hid (RC = ⟨J, B, J, false, high⟩ ∧ True) := ⟨HV.out, trivial⟩
      clear HV KA rC rB MA
      go_upto_region 8 with fail
      clear c0 c1 d23
      have qC := KCV.out.drew
      have qB := KB.out.drew
      have qP := KP.out.drew
      have qA : Seen W V.drew := AV.out.drew
      have qR := KR.out.drew
      clear KCV KB KP AV KR
      refine wp_region_held_drew (S := fun w' => w'.rangeAt C 4 [.int .i64 J.p, .int .i64 J.n] ∧ w'.rangeAt OB 0 [.int .i64 B.p, .int .i64 B.n] ∧ w'.rangeAt X7 4 [.int .i64 up, .int .i64 un]) (by kernel_rfl) ⟨Blk.mid qC 4 2, Blk.mid qB 0 2, Blk.mid qP 4 2⟩ (fun _ => ?_)
      refine ZT 0 (some 72) (.pointer (some ⟨C, 4, none⟩)) ⟨Blk.mid qC 4 2, Blk.mid qB 0 2, Blk.mid qP 4 2⟩ ?_
      simp only [Z1,Z2,Z3,Z4]
      refine ZU 1 (some 73) (.agg #[.int .i64 J.p, .int .i64 J.n]) (fun _ hS => run_by (Instr.loadAt 46 (.pointer (some ⟨C, 4, none⟩))) (by kernel_rfl) (rda46 (vs := [.int .i64 J.p, .int .i64 J.n]) hS.1 rfl)) ⟨Blk.mid qC 4 2, Blk.mid qB 0 2, Blk.mid qP 4 2⟩ ?_
      simp only [Z1,Z2,Z3,Z4]
      refine ZU 2 (some 74) (.agg #[.int .i64 B.p, .int .i64 B.n]) (fun _ hS => run_by (Instr.loadAt 46 (.pointer (some ⟨OB, 0, none⟩))) (by kernel_rfl) (rda46 (vs := [.int .i64 B.p, .int .i64 B.n]) hS.2.1 rfl)) ⟨Blk.mid qC 4 2, Blk.mid qB 0 2, Blk.mid qP 4 2⟩ ?_
      simp only [Z1,Z2,Z3,Z4]
      refine ZT 3 (some 75) (.pointer (some ⟨C, 0, none⟩)) ⟨Blk.mid qC 4 2, Blk.mid qB 0 2, Blk.mid qP 4 2⟩ ?_
      simp only [Z1,Z2,Z3,Z4]
      refine ZK 4 none (run_skip_by (Instr.storeAt 46 (.pointer (some ⟨C, 0, none⟩)) (.agg #[.int .i64 J.p, .int .i64 J.n])) (by kernel_rfl) (wr46 (vs := [.int .i64 J.p, .int .i64 J.n]) qC rfl (by show 0 + 2 ≤ 8; decide) (two_one _ _))) (⟨Blk.mid (block_sets qC 0 [.int .i64 J.p, .int .i64 J.n] rfl) 4 2, Blk.mid (Blk.turns qB (turns_sets _ (C) 0 [.int .i64 J.p, .int .i64 J.n]) hBC) 0 2, Blk.mid (Blk.turns qP (turns_sets _ (C) 0 [.int .i64 J.p, .int .i64 J.n]) hPC) 4 2⟩) ?_
      simp only [Act.put]
      refine ZT 5 (some 76) (.pointer (some ⟨C, 2, none⟩)) ⟨Blk.mid (block_sets qC 0 [.int .i64 J.p, .int .i64 J.n] rfl) 4 2, Blk.mid (Blk.turns qB (turns_sets _ (C) 0 [.int .i64 J.p, .int .i64 J.n]) hBC) 0 2, Blk.mid (Blk.turns qP (turns_sets _ (C) 0 [.int .i64 J.p, .int .i64 J.n]) hPC) 4 2⟩ ?_
      simp only [Z1,Z2,Z3,Z4]
      refine ZK 6 none (run_skip_by (Instr.storeAt 46 (.pointer (some ⟨C, 2, none⟩)) (.agg #[.int .i64 B.p, .int .i64 B.n])) (by kernel_rfl) (wr46 (vs := [.int .i64 B.p, .int .i64 B.n]) (block_sets qC 0 [.int .i64 J.p, .int .i64 J.n] rfl) rfl (by show 2 + 2 ≤ 8; decide) (two_one _ _))) (⟨Blk.mid (block_sets (block_sets qC 0 [.int .i64 J.p, .int .i64 J.n] rfl) 2 [.int .i64 B.p, .int .i64 B.n] rfl) 4 2, Blk.mid (Blk.turns (Blk.turns qB (turns_sets _ (C) 0 [.int .i64 J.p, .int .i64 J.n]) hBC) (turns_sets _ (C) 2 [.int .i64 B.p, .int .i64 B.n]) hBC) 0 2, Blk.mid (Blk.turns (Blk.turns qP (turns_sets _ (C) 0 [.int .i64 J.p, .int .i64 J.n]) hPC) (turns_sets _ (C) 2 [.int .i64 B.p, .int .i64 B.n]) hPC) 4 2⟩) ?_
      simp only [Act.put]
      refine wpAnyH_done (by kernel_rfl) ?_ _
      have z1 : Blk _ C (chl ⟨J, B, J, false, high⟩) 48 := (block_sets (block_sets qC 0 [.int .i64 J.p, .int .i64 J.n] rfl) 2 [.int .i64 B.p, .int .i64 B.n] rfl)
      have z2 := (Seen.turns (Seen.turns qA (turns_sets _ (C) 0 [.int .i64 J.p, .int .i64 J.n]) gW) (turns_sets _ (C) 2 [.int .i64 B.p, .int .i64 B.n]) gW)
      have z3 := (Blk.turns (Blk.turns qR (turns_sets _ (C) 0 [.int .i64 J.p, .int .i64 J.n]) hRC2) (turns_sets _ (C) 2 [.int .i64 B.p, .int .i64 B.n]) hRC2)
      generalize (World.setCells _ _ _ _) = VV at z1 z2 z3 ⊢
      go_upto_region 14 with fail
      rename_i hKR
      have HX := Lib.hid (Blk.range z1)
      clear z1
      go_wp2_with (first
        | (have gg := HX.out; clear gg; refine wpList_load_mid rfl 48 (.tmp 11) rfl C 0 rfl (chl ⟨J, B, J, false, high⟩) _ HX.out Tryz.underlying48 rfl zz48 ?_; clear HX)
        | (have gg := z3; clear gg; refine wpList_storeX rfl (.tmp 10) (.tmp 103) rfl X10 [.int .i64 0, .int .i64 0, .int .i64 0, .int .i64 0, .int .i64 0, .int .i64 0, .bool false, .int .i64 0] ⟨J, B, J, false, high⟩ rfl rfl rfl z3 ?_; clear z3; intro w9 b9 t9
           refine wpList_nil ?_
           refine hKR _ _ (wp_ret ?_)
           show bodyPost Tryz.prog Tryz.f31 _ Exit.ret _ _
           refine bodyPost_ret (results_cell rfl rfl (run_loadX b9)) rfl ?_
           exact ⟨by rw [HN.out.1], Seen.turns (SW.out.trans z2) t9 (by omega)⟩))
    · cases empty
      · have HN : Hid (RC = ⟨J, M, J, false, high⟩ ∧ True) := ⟨HV.out, trivial⟩
        clear HV KA rC rB
        go_upto_region 13 with fail
        clear c0 c1 d23
        have qC := KCV.out.drew
        have qB := KB.out.drew
        have qP := KP.out.drew
        have qA : Seen W V.drew := AV.out.drew
        have qR := KR.out.drew
        clear KCV KB KP AV KR
        refine wp_region_held_drew (S := fun w' => w'.rangeAt C 4 [.int .i64 J.p, .int .i64 J.n] ∧ w'.rangeAt OB 0 [.int .i64 B.p, .int .i64 B.n] ∧ w'.rangeAt X7 4 [.int .i64 up, .int .i64 un]) (by kernel_rfl) ⟨Blk.mid qC 4 2, Blk.mid qB 0 2, Blk.mid qP 4 2⟩ (fun _ => ?_)
        refine ZT 0 (some 95) (.pointer (some ⟨C, 4, none⟩)) ⟨Blk.mid qC 4 2, Blk.mid qB 0 2, Blk.mid qP 4 2⟩ ?_
        simp only [Z1,Z2,Z3,Z4]
        refine ZU 1 (some 96) (.agg #[.int .i64 J.p, .int .i64 J.n]) (fun _ hS => run_by (Instr.loadAt 46 (.pointer (some ⟨C, 4, none⟩))) (by kernel_rfl) (rda46 (vs := [.int .i64 J.p, .int .i64 J.n]) hS.1 rfl)) ⟨Blk.mid qC 4 2, Blk.mid qB 0 2, Blk.mid qP 4 2⟩ ?_
        simp only [Z1,Z2,Z3,Z4]
        refine ZU 2 (some 97) (.agg #[.int .i64 B.p, .int .i64 B.n]) (fun _ hS => run_by (Instr.loadAt 46 (.pointer (some ⟨OB, 0, none⟩))) (by kernel_rfl) (rda46 (vs := [.int .i64 B.p, .int .i64 B.n]) hS.2.1 rfl)) ⟨Blk.mid qC 4 2, Blk.mid qB 0 2, Blk.mid qP 4 2⟩ ?_
        simp only [Z1,Z2,Z3,Z4]
        refine ZT 3 (some 98) (.pointer (some ⟨X7, 4, none⟩)) ⟨Blk.mid qC 4 2, Blk.mid qB 0 2, Blk.mid qP 4 2⟩ ?_
        simp only [Z1,Z2,Z3,Z4]
        refine ZU 4 (some 99) (.agg #[.int .i64 up, .int .i64 un]) (fun _ hS => run_by (Instr.loadAt 46 (.pointer (some ⟨X7, 4, none⟩))) (by kernel_rfl) (rda46 (vs := [.int .i64 up, .int .i64 un]) hS.2.2 rfl)) ⟨Blk.mid qC 4 2, Blk.mid qB 0 2, Blk.mid qP 4 2⟩ ?_
        simp only [Z1,Z2,Z3,Z4]
        refine ZT 6 (some 101) (.pointer (some ⟨C, 0, none⟩)) ⟨Blk.mid qC 4 2, Blk.mid qB 0 2, Blk.mid qP 4 2⟩ ?_
        simp only [Z1,Z2,Z3,Z4]
        refine ZC 5 (some 100) 58 #[.agg #[.int .i64 B.p, .int .i64 B.n], .agg #[.int .i64 up, .int .i64 un]] ?_
        refine (MA.out _).mono ?_
        rintro e wj ⟨rfl, hb⟩
        have accj : Seen W wj := Seen.next qA hb
        have kCj := Blk.seen qC hb
        have kBj := Blk.seen qB hb
        have kPj := Blk.seen qP hb
        have kRj := Blk.seen qR hb
        clear hb
        refine ⟨_, rfl, ⟨Blk.mid kCj 4 2, Blk.mid kBj 0 2, Blk.mid kPj 4 2⟩, ?_⟩
        simp only [Z1,Z2,Z3,Z4]
        refine ZK 7 none (run_skip_by (Instr.storeAt 46 (.pointer (some ⟨C, 0, none⟩)) (.agg #[.int .i64 J.p, .int .i64 J.n])) (by kernel_rfl) (wr46 (vs := [.int .i64 J.p, .int .i64 J.n]) kCj rfl (by show 0 + 2 ≤ 8; decide) (two_one _ _))) (⟨Blk.mid (block_sets kCj 0 [.int .i64 J.p, .int .i64 J.n] rfl) 4 2, Blk.mid (Blk.turns kBj (turns_sets _ (C) 0 [.int .i64 J.p, .int .i64 J.n]) hBC) 0 2, Blk.mid (Blk.turns kPj (turns_sets _ (C) 0 [.int .i64 J.p, .int .i64 J.n]) hPC) 4 2⟩) ?_
        simp only [Act.put]
        refine ZT 8 (some 102) (.pointer (some ⟨C, 2, none⟩)) ⟨Blk.mid (block_sets kCj 0 [.int .i64 J.p, .int .i64 J.n] rfl) 4 2, Blk.mid (Blk.turns kBj (turns_sets _ (C) 0 [.int .i64 J.p, .int .i64 J.n]) hBC) 0 2, Blk.mid (Blk.turns kPj (turns_sets _ (C) 0 [.int .i64 J.p, .int .i64 J.n]) hPC) 4 2⟩ ?_
        simp only [Z1,Z2,Z3,Z4]
        refine ZK 9 none (run_skip_by (Instr.storeAt 46 (.pointer (some ⟨C, 2, none⟩)) (.agg #[.int .i64 M.p, .int .i64 M.n])) (by kernel_rfl) (wr46 (vs := [.int .i64 M.p, .int .i64 M.n]) (block_sets kCj 0 [.int .i64 J.p, .int .i64 J.n] rfl) rfl (by show 2 + 2 ≤ 8; decide) (two_one _ _))) (⟨Blk.mid (block_sets (block_sets kCj 0 [.int .i64 J.p, .int .i64 J.n] rfl) 2 [.int .i64 M.p, .int .i64 M.n] rfl) 4 2, Blk.mid (Blk.turns (Blk.turns kBj (turns_sets _ (C) 0 [.int .i64 J.p, .int .i64 J.n]) hBC) (turns_sets _ (C) 2 [.int .i64 M.p, .int .i64 M.n]) hBC) 0 2, Blk.mid (Blk.turns (Blk.turns kPj (turns_sets _ (C) 0 [.int .i64 J.p, .int .i64 J.n]) hPC) (turns_sets _ (C) 2 [.int .i64 M.p, .int .i64 M.n]) hPC) 4 2⟩) ?_
        simp only [Act.put]
        refine wpAnyH_done (by kernel_rfl) ?_ _
        have z1 : Blk _ C (chl ⟨J, M, J, false, high⟩) 48 := (block_sets (block_sets kCj 0 [.int .i64 J.p, .int .i64 J.n] rfl) 2 [.int .i64 M.p, .int .i64 M.n] rfl)
        have z2 := (Seen.turns (Seen.turns accj (turns_sets _ (C) 0 [.int .i64 J.p, .int .i64 J.n]) gW) (turns_sets _ (C) 2 [.int .i64 M.p, .int .i64 M.n]) gW)
        have z3 := (Blk.turns (Blk.turns kRj (turns_sets _ (C) 0 [.int .i64 J.p, .int .i64 J.n]) hRC2) (turns_sets _ (C) 2 [.int .i64 M.p, .int .i64 M.n]) hRC2)
        generalize (World.setCells _ _ _ _) = VV at z1 z2 z3 ⊢
        go_upto_region 14 with fail
        rename_i hKR
        have HX := Lib.hid (Blk.range z1)
        clear z1
        go_wp2_with (first
          | (have gg := HX.out; clear gg; refine wpList_load_mid rfl 48 (.tmp 11) rfl C 0 rfl (chl ⟨J, M, J, false, high⟩) _ HX.out Tryz.underlying48 rfl zz48 ?_; clear HX)
          | (have gg := z3; clear gg; refine wpList_storeX rfl (.tmp 10) (.tmp 103) rfl X10 [.int .i64 0, .int .i64 0, .int .i64 0, .int .i64 0, .int .i64 0, .int .i64 0, .bool false, .int .i64 0] ⟨J, M, J, false, high⟩ rfl rfl rfl z3 ?_; clear z3; intro w9 b9 t9
             refine wpList_nil ?_
             refine hKR _ _ (wp_ret ?_)
             show bodyPost Tryz.prog Tryz.f31 _ Exit.ret _ _
             refine bodyPost_ret (results_cell rfl rfl (run_loadX b9)) rfl ?_
             exact ⟨by rw [HN.out.1], Seen.turns (SW.out.trans z2) t9 (by omega)⟩))
      · have HN : Hid (RC = ⟨J, B, J, false, high⟩ ∧ True) := ⟨HV.out, trivial⟩
        clear HV KA rC rB MA
        go_upto_region 8 with fail
        clear c0 c1 d23
        have qC := KCV.out.drew
        have qB := KB.out.drew
        have qP := KP.out.drew
        have qA : Seen W V.drew := AV.out.drew
        have qR := KR.out.drew
        clear KCV KB KP AV KR
        refine wp_region_held_drew (S := fun w' => w'.rangeAt C 4 [.int .i64 J.p, .int .i64 J.n] ∧ w'.rangeAt OB 0 [.int .i64 B.p, .int .i64 B.n] ∧ w'.rangeAt X7 4 [.int .i64 up, .int .i64 un]) (by kernel_rfl) ⟨Blk.mid qC 4 2, Blk.mid qB 0 2, Blk.mid qP 4 2⟩ (fun _ => ?_)
        refine ZT 0 (some 72) (.pointer (some ⟨C, 4, none⟩)) ⟨Blk.mid qC 4 2, Blk.mid qB 0 2, Blk.mid qP 4 2⟩ ?_
        simp only [Z1,Z2,Z3,Z4]
        refine ZU 1 (some 73) (.agg #[.int .i64 J.p, .int .i64 J.n]) (fun _ hS => run_by (Instr.loadAt 46 (.pointer (some ⟨C, 4, none⟩))) (by kernel_rfl) (rda46 (vs := [.int .i64 J.p, .int .i64 J.n]) hS.1 rfl)) ⟨Blk.mid qC 4 2, Blk.mid qB 0 2, Blk.mid qP 4 2⟩ ?_
        simp only [Z1,Z2,Z3,Z4]
        refine ZU 2 (some 74) (.agg #[.int .i64 B.p, .int .i64 B.n]) (fun _ hS => run_by (Instr.loadAt 46 (.pointer (some ⟨OB, 0, none⟩))) (by kernel_rfl) (rda46 (vs := [.int .i64 B.p, .int .i64 B.n]) hS.2.1 rfl)) ⟨Blk.mid qC 4 2, Blk.mid qB 0 2, Blk.mid qP 4 2⟩ ?_
        simp only [Z1,Z2,Z3,Z4]
        refine ZT 3 (some 75) (.pointer (some ⟨C, 0, none⟩)) ⟨Blk.mid qC 4 2, Blk.mid qB 0 2, Blk.mid qP 4 2⟩ ?_
        simp only [Z1,Z2,Z3,Z4]
        refine ZK 4 none (run_skip_by (Instr.storeAt 46 (.pointer (some ⟨C, 0, none⟩)) (.agg #[.int .i64 J.p, .int .i64 J.n])) (by kernel_rfl) (wr46 (vs := [.int .i64 J.p, .int .i64 J.n]) qC rfl (by show 0 + 2 ≤ 8; decide) (two_one _ _))) (⟨Blk.mid (block_sets qC 0 [.int .i64 J.p, .int .i64 J.n] rfl) 4 2, Blk.mid (Blk.turns qB (turns_sets _ (C) 0 [.int .i64 J.p, .int .i64 J.n]) hBC) 0 2, Blk.mid (Blk.turns qP (turns_sets _ (C) 0 [.int .i64 J.p, .int .i64 J.n]) hPC) 4 2⟩) ?_
        simp only [Act.put]
        refine ZT 5 (some 76) (.pointer (some ⟨C, 2, none⟩)) ⟨Blk.mid (block_sets qC 0 [.int .i64 J.p, .int .i64 J.n] rfl) 4 2, Blk.mid (Blk.turns qB (turns_sets _ (C) 0 [.int .i64 J.p, .int .i64 J.n]) hBC) 0 2, Blk.mid (Blk.turns qP (turns_sets _ (C) 0 [.int .i64 J.p, .int .i64 J.n]) hPC) 4 2⟩ ?_
        simp only [Z1,Z2,Z3,Z4]
        refine ZK 6 none (run_skip_by (Instr.storeAt 46 (.pointer (some ⟨C, 2, none⟩)) (.agg #[.int .i64 B.p, .int .i64 B.n])) (by kernel_rfl) (wr46 (vs := [.int .i64 B.p, .int .i64 B.n]) (block_sets qC 0 [.int .i64 J.p, .int .i64 J.n] rfl) rfl (by show 2 + 2 ≤ 8; decide) (two_one _ _))) (⟨Blk.mid (block_sets (block_sets qC 0 [.int .i64 J.p, .int .i64 J.n] rfl) 2 [.int .i64 B.p, .int .i64 B.n] rfl) 4 2, Blk.mid (Blk.turns (Blk.turns qB (turns_sets _ (C) 0 [.int .i64 J.p, .int .i64 J.n]) hBC) (turns_sets _ (C) 2 [.int .i64 B.p, .int .i64 B.n]) hBC) 0 2, Blk.mid (Blk.turns (Blk.turns qP (turns_sets _ (C) 0 [.int .i64 J.p, .int .i64 J.n]) hPC) (turns_sets _ (C) 2 [.int .i64 B.p, .int .i64 B.n]) hPC) 4 2⟩) ?_
        simp only [Act.put]
        refine wpAnyH_done (by kernel_rfl) ?_ _
        have z1 : Blk _ C (chl ⟨J, B, J, false, high⟩) 48 := (block_sets (block_sets qC 0 [.int .i64 J.p, .int .i64 J.n] rfl) 2 [.int .i64 B.p, .int .i64 B.n] rfl)
        have z2 := (Seen.turns (Seen.turns qA (turns_sets _ (C) 0 [.int .i64 J.p, .int .i64 J.n]) gW) (turns_sets _ (C) 2 [.int .i64 B.p, .int .i64 B.n]) gW)
        have z3 := (Blk.turns (Blk.turns qR (turns_sets _ (C) 0 [.int .i64 J.p, .int .i64 J.n]) hRC2) (turns_sets _ (C) 2 [.int .i64 B.p, .int .i64 B.n]) hRC2)
        generalize (World.setCells _ _ _ _) = VV at z1 z2 z3 ⊢
        go_upto_region 14 with fail
        rename_i hKR
        have HX := Lib.hid (Blk.range z1)
        clear z1
        go_wp2_with (first
          | (have gg := HX.out; clear gg; refine wpList_load_mid rfl 48 (.tmp 11) rfl C 0 rfl (chl ⟨J, B, J, false, high⟩) _ HX.out Tryz.underlying48 rfl zz48 ?_; clear HX)
          | (have gg := z3; clear gg; refine wpList_storeX rfl (.tmp 10) (.tmp 103) rfl X10 [.int .i64 0, .int .i64 0, .int .i64 0, .int .i64 0, .int .i64 0, .int .i64 0, .bool false, .int .i64 0] ⟨J, B, J, false, high⟩ rfl rfl rfl z3 ?_; clear z3; intro w9 b9 t9
             refine wpList_nil ?_
             refine hKR _ _ (wp_ret ?_)
             show bodyPost Tryz.prog Tryz.f31 _ Exit.ret _ _
             refine bodyPost_ret (results_cell rfl rfl (run_loadX b9)) rfl ?_
             exact ⟨by rw [HN.out.1], Seen.turns (SW.out.trans z2) t9 (by omega)⟩))
  · clear MA rB d23
    go_upto_region 14 with (go_at_call 58; refine (KA.out _).mono ?_; clear KA; rintro r w5 ⟨rfl, hb⟩; have s5 := Lib.hid (AV.out.next hb); have c5 := rC w5 hb; have kC6 := Blk.set (Blk.set (Blk.set (Blk.set (KCV.out.seen hb) 0 (.int .i64 K.p)) 1 (.int .i64 K.n)) 2 (.int .i64 K.p)) 3 (.int .i64 K.n); have kR6 := Blk.other (p := ⟨C, 3, none⟩) (Blk.other (p := ⟨C, 2, none⟩) (Blk.other (p := ⟨C, 1, none⟩) (Blk.other (p := ⟨C, 0, none⟩) (KR.out.seen hb) hRC (.int .i64 K.p)) hRC (.int .i64 K.n)) hRC (.int .i64 K.p)) hRC (.int .i64 K.n); clear hb)
    have z1 : Blk _ C (chl ⟨K, K, J, true, high⟩) 48 := kC6
    have z2 := seen_set (o := 3) (v := .int .i64 K.n) (seen_set (o := 2) (v := .int .i64 K.p) (seen_set (o := 1) (v := .int .i64 K.n) (seen_set (o := 0) (v := .int .i64 K.p) s5.out gW) gW) gW) gW
    have z3 := kR6
    have HN : Hid (RC = ⟨K, K, J, true, high⟩ ∧ True) := ⟨HV.out, trivial⟩
    clear HV kC6 kR6 c5 s5 rC
    generalize (World.setCell _ _ _) = VV at z1 z2 z3 ⊢
    rename_i hKR
    have HX := Lib.hid (Blk.range z1)
    clear z1
    go_wp2_with (first
      | (have gg := HX.out; clear gg; refine wpList_load_mid rfl 48 (.tmp 11) rfl C 0 rfl (chl ⟨K, K, J, true, high⟩) _ HX.out Tryz.underlying48 rfl zz48 ?_; clear HX)
      | (have gg := z3; clear gg; refine wpList_storeX rfl (.tmp 10) (.tmp 103) rfl X10 [.int .i64 0, .int .i64 0, .int .i64 0, .int .i64 0, .int .i64 0, .int .i64 0, .bool false, .int .i64 0] ⟨K, K, J, true, high⟩ rfl rfl rfl z3 ?_; clear z3; intro w9 b9 t9
         refine wpList_nil ?_
         refine hKR _ _ (wp_ret ?_)
         show bodyPost Tryz.prog Tryz.f31 _ Exit.ret _ _
         refine bodyPost_ret (results_cell rfl rfl (run_loadX b9)) rfl ?_
         exact ⟨by rw [HN.out.1], Seen.turns (SW.out.trans z2) t9 (by omega)⟩))
end Go.Proofs.YtngeaigkafamiaaGreat

