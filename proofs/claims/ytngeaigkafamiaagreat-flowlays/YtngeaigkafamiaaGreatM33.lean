/- Texts of the proof, merged: FR6, OpenI, PArgs, PIs. -/
import Derived.Test.YtngeaigkafamiaaGreatM27
import Derived.Test.YtngeaigkafamiaaGreatM28
import Derived.Test.YtngeaigkafamiaaGreatM32
import Derived.Test.YtngeaigkafamiaaGreatM5
import Derived.Test.YtngeaigkafamiaaGreatM0
import Derived.ShutString
import Derived.ChangeOld
import Derived.Test.YtngeaigkafamiaaGreatM7
import Derived.Test.YtngeaigkafamiaaGreatM16
namespace Go.Proofs.YtngeaigkafamiaaGreat
open Go.ChangeShapes Go.WideShapes Go.ChangeAt Go.RowKit
set_option maxRecDepth 100000
set_option maxHeartbeats 4000000 in
theorem rbox_no {l : List Nd} {w0 : World} {ad : Option Addr} {N cp : Nat} (hf : FormedT l) (hN : N ≤ 1000) (hNS : NS w0 ad N l) (n : Int) (x : Int) (h : Sz) (rtl : Bool) (hno : ((plAt l n).made && rngB ⟨x, h, rtl⟩) = false) (W : World) (hs : Seen w0 W) :
    Calls Tryz.prog 8 #[.slice ad N cp, .int .i64 n, .int .i64 x, .agg #[.bool h.au, .int .i64 h.n], .bool rtl] W fun e w' => e = .returned (.tuple #[frv zFr, layv (.slice none 0 0) (.slice none 0 0) zPi 0, .bool false]) ∧ Seen W w' := by
  have HSW := Lib.hid hs
  have HMD : Hid (∀ w', Seen w0 w' → Calls Tryz.prog 21 #[.slice ad N cp, .int .i64 n] w' fun e w'' => e = .returned (.bool (plAt l n).made) ∧ w'' = w') := fun w' h' => by
    have := refMade_any ad N cp l n w' (hNS.seen h') hf (by omega)
    rwa [show (inB l n && madeB l n) = (plAt l n).made by cases hb : inB l n; (rw [plAt_no hb]; rfl); (rw [(plAt_made hb).1]; rfl)] at this
  have HMAY : Hid (∀ w', Calls Tryz.prog 22 #[.int .i64 x, .agg #[.bool h.au, .int .i64 h.n]] w' fun e w'' => e = .returned (.bool (rngB ⟨x, h, rtl⟩)) ∧ Seen w' w'') := fun w' => may_any x h rtl w'
  obtain ⟨MD, hMD⟩ : ∃ q, (plAt l n).made = q := ⟨_, rfl⟩
  obtain ⟨RG, hRG⟩ : ∃ q, rngB ⟨x, h, rtl⟩ = q := ⟨_, rfl⟩
  rw [hMD, hRG] at hno
  rw [hMD] at HMD
  rw [hRG] at HMAY
  clear hMD hRG hf hN hNS hs
  obtain ⟨W1, hW1⟩ : ∃ q, q = ((W.alloc (.cells #[.bool h.au, .int .i64 h.n] 58)).alloc (.cells #[.int .i64 0, .int .i64 0, .int .i64 0, .int .i64 0, .int .i64 0, .int .i64 0, .int .i64 0, .int .i64 0, .int .i64 0, .int .i64 0, .int .i64 0, .int .i64 0, .int .i64 0, .int .i64 0, .int .i64 0, .int .i64 0, .bool false, .int .i64 0, .int .i64 0, .int .i64 0, .int .i64 0, .int .i64 0, .int .i64 0, .bool false, .int .i64 0] 50)).alloc (.cells #[.slice none 0 0, .slice none 0 0, .int .i64 0, .int .i64 0, .int .i64 0, .int .i64 0, .int .i64 0, .bool false, .int .i64 0] 55) := ⟨_, rfl⟩
  have K8 := Lib.hid (show Blk W1 W.heap.size [.bool h.au, .int .i64 h.n] 58 by rw [hW1]; exact ((Blk.new W _ _).alloc _).alloc _)
  have K10 := Lib.hid (show Blk W1 (W.heap.size + 1) (frl zFr) 50 by rw [hW1]; simpa using (fr_blk (W.alloc (.cells #[.bool h.au, .int .i64 h.n] 58))).alloc (.cells #[.slice none 0 0, .slice none 0 0, .int .i64 0, .int .i64 0, .int .i64 0, .int .i64 0, .int .i64 0, .bool false, .int .i64 0] 55))
  have K11 := Lib.hid (show Blk W1 (W.heap.size + 1 + 1) (layl (.slice none 0 0) (.slice none 0 0) zPi 0) 55 by rw [hW1]; simpa using zl_blk ((W.alloc (.cells #[.bool h.au, .int .i64 h.n] 58)).alloc (.cells #[.int .i64 0, .int .i64 0, .int .i64 0, .int .i64 0, .int .i64 0, .int .i64 0, .int .i64 0, .int .i64 0, .int .i64 0, .int .i64 0, .int .i64 0, .int .i64 0, .int .i64 0, .int .i64 0, .int .i64 0, .int .i64 0, .bool false, .int .i64 0, .int .i64 0, .int .i64 0, .int .i64 0, .int .i64 0, .int .i64 0, .bool false, .int .i64 0] 50)))
  have SA : Hid (Seen W W1) := by rw [hW1]; exact (((Seen.refl W).alloc _).alloc _).alloc _
  go_enter Tryz.func8, Tryz.ntmps8
  go_upto_region 1 with fail
  rw [← hW1]
  clear hW1
  cases MD
  · refine wp_region_lit ?_
    refine ZR (some 34) (.slice ad N cp) W1 ?_
    simp only [Z1,Z2,Z3,Z4]
    refine ZR (some 35) (.int .i64 n) W1 ?_
    simp only [Z1,Z2,Z3,Z4]
    refine pCall (some 36) 21 #[.slice ad N cp, .int .i64 n] rfl (by kernel_rfl) (by kernel_rfl) ?_
    refine (HMD.out _ (HSW.out.trans SA.out)).mono ?_
    rintro e wq ⟨rfl, hw⟩
    rw [hw]
    clear hw
    refine ⟨_, rfl, ?_⟩
    simp only [Z1,Z2,Z3,Z4]
    refine ZR (some 37) (.bool true) W1 ?_
    simp only [Z1,Z2,Z3,Z4]
    refine ZR (some 38) (.bool true) W1 ?_
    simp only [Z1,Z2,Z3,Z4]
    refine pNo (some 39) rfl (by kernel_rfl) ?_
    simp only [Z1,Z2,Z3,Z4]
    refine pNo (some 40) rfl (by kernel_rfl) ?_
    simp only [Z1,Z2,Z3,Z4]
    refine pNo (some 41) rfl (by kernel_rfl) ?_
    simp only [Z1,Z2,Z3,Z4]
    refine pNo (some 42) rfl (by kernel_rfl) ?_
    simp only [Z1,Z2,Z3,Z4]
    refine ZR (some 43) (.bool true) W1 ?_
    simp only [Z1,Z2,Z3,Z4]
    refine wpList_nil ?_
    have f10 := K10.out
    have f11 := K11.out
    have fS : Seen W W1 := SA.out
    skip
    go_upto_region 2 with fail
    rename_i hKR
    refine wp_region_lit ?_
    refine ZR (some 44) (frv zFr) W1 ?_
    simp only [Z1,Z2,Z3,Z4]
    refine ZR (some 45) (layv (.slice none 0 0) (.slice none 0 0) zPi 0) W1 ?_
    simp only [Z1,Z2,Z3,Z4]
    refine pStoreC 50 (W.heap.size + 1) 0 (frl zFr) (cs := frl zFr) (cs' := frl zFr) (t := 50) rfl (by kernel_rfl) (by kernel_rfl) zz50 (frl_one _) f10 (Nat.le_refl _) (sets_all _ _ rfl) ?_
    intro wA bA tA
    simp only [Act.put]
    refine pStoreC 55 (W.heap.size + 1 + 1) 0 (layl (.slice none 0 0) (.slice none 0 0) zPi 0) (cs := layl (.slice none 0 0) (.slice none 0 0) zPi 0) (cs' := layl (.slice none 0 0) (.slice none 0 0) zPi 0) (t := 55) rfl (by kernel_rfl) (by kernel_rfl) zz55 (layl_one rfl rfl _ _) (f11.turns tA (by omega)) (Nat.le_refl _) (sets_all _ _ rfl) ?_
    intro wC bC tC
    have bB := bA.turns tC (by omega)
    simp only [Act.put]
    refine ZR (some 12) (.bool false) wC ?_
    simp only [Z1,Z2,Z3,Z4]
    refine wpList_nil ?_
    refine hKR _ _ (wp_ret ?_)
    go_big_unhide
    simp only [Exit.then]
    show bodyPost Tryz.prog Tryz.f8 _ Exit.ret _ _
    refine bodyPost_ret (results_three (u := .bool false) rfl (by kernel_rfl) (by kernel_rfl) (by kernel_rfl) (run_loadFr bB) (run_loadLr bC)) rfl ?_
    exact ⟨rfl, (fS.turns tA (by omega)).turns tC (by omega)⟩
  · obtain rfl : RG = false := hno
    refine wp_region_lit ?_
    refine ZR (some 34) (.slice ad N cp) W1 ?_
    simp only [Z1,Z2,Z3,Z4]
    refine ZR (some 35) (.int .i64 n) W1 ?_
    simp only [Z1,Z2,Z3,Z4]
    refine pCall (some 36) 21 #[.slice ad N cp, .int .i64 n] rfl (by kernel_rfl) (by kernel_rfl) ?_
    refine (HMD.out _ (HSW.out.trans SA.out)).mono ?_
    rintro e wq ⟨rfl, hw⟩
    rw [hw]
    clear hw
    refine ⟨_, rfl, ?_⟩
    simp only [Z1,Z2,Z3,Z4]
    refine ZR (some 37) (.bool false) W1 ?_
    simp only [Z1,Z2,Z3,Z4]
    refine ZR (some 38) (.bool false) W1 ?_
    simp only [Z1,Z2,Z3,Z4]
    refine ZR (some 39) (.int .i64 x) W1 ?_
    simp only [Z1,Z2,Z3,Z4]
    refine ZX (some 40) (.agg #[.bool h.au, .int .i64 h.n]) W1 (run_by (Instr.loadAt 58 (.pointer (some ⟨W.heap.size, 0, none⟩))) (by kernel_rfl) (rda58 (vs := [.bool h.au, .int .i64 h.n]) (Blk.mid K8.out 0 2) rfl)) ?_
    simp only [Z1,Z2,Z3,Z4]
    refine pCall (some 41) 22 #[.int .i64 x, .agg #[.bool h.au, .int .i64 h.n]] rfl (by kernel_rfl) (by kernel_rfl) ?_
    refine (HMAY.out _).mono ?_
    rintro e w1 ⟨rfl, hb⟩
    have SB : Hid (Seen W1 w1) := hb
    clear hb
    refine ⟨_, rfl, ?_⟩
    simp only [Z1,Z2,Z3,Z4]
    refine ZR (some 42) (.bool true) w1 ?_
    simp only [Z1,Z2,Z3,Z4]
    refine ZR (some 43) (.bool true) w1 ?_
    simp only [Z1,Z2,Z3,Z4]
    refine wpList_nil ?_
    have f10 := (K10.out.seen SB.out)
    have f11 := (K11.out.seen SB.out)
    have fS : Seen W w1 := (SA.out.trans SB.out)
    skip
    go_upto_region 2 with fail
    rename_i hKR
    refine wp_region_lit ?_
    refine ZR (some 44) (frv zFr) w1 ?_
    simp only [Z1,Z2,Z3,Z4]
    refine ZR (some 45) (layv (.slice none 0 0) (.slice none 0 0) zPi 0) w1 ?_
    simp only [Z1,Z2,Z3,Z4]
    refine pStoreC 50 (W.heap.size + 1) 0 (frl zFr) (cs := frl zFr) (cs' := frl zFr) (t := 50) rfl (by kernel_rfl) (by kernel_rfl) zz50 (frl_one _) f10 (Nat.le_refl _) (sets_all _ _ rfl) ?_
    intro wA bA tA
    simp only [Act.put]
    refine pStoreC 55 (W.heap.size + 1 + 1) 0 (layl (.slice none 0 0) (.slice none 0 0) zPi 0) (cs := layl (.slice none 0 0) (.slice none 0 0) zPi 0) (cs' := layl (.slice none 0 0) (.slice none 0 0) zPi 0) (t := 55) rfl (by kernel_rfl) (by kernel_rfl) zz55 (layl_one rfl rfl _ _) (f11.turns tA (by omega)) (Nat.le_refl _) (sets_all _ _ rfl) ?_
    intro wC bC tC
    have bB := bA.turns tC (by omega)
    simp only [Act.put]
    refine ZR (some 12) (.bool false) wC ?_
    simp only [Z1,Z2,Z3,Z4]
    refine wpList_nil ?_
    refine hKR _ _ (wp_ret ?_)
    go_big_unhide
    simp only [Exit.then]
    show bodyPost Tryz.prog Tryz.f8 _ Exit.ret _ _
    refine bodyPost_ret (results_three (u := .bool false) rfl (by kernel_rfl) (by kernel_rfl) (by kernel_rfl) (run_loadFr bB) (run_loadLr bC)) rfl ?_
    exact ⟨rfl, (fS.turns tA (by omega)).turns tC (by omega)⟩
theorem rboxOK_all {l : List Nd} {w0 : World} {b off N cp : Nat} (hf : FormedT l) (hN : N ≤ 1000) (hNS : NS w0 (some ⟨b, off, none⟩) N l) : ∀ k, RBoxOK l w0 (some ⟨b, off, none⟩) N cp k := by
  intro k
  induction k with
  | zero => intro n hn hk; omega
  | succ k ih => exact rbox_step hf hN hNS fun n hn hk x h ot ob fl hr W hs => inside_any hf hN hNS ih n hn hk x h ot ob fl hr W hs
def RefBoxAns (l : List Nd) (n : Int) (c : Ct) (W : World) (e : Ending) (w' : World) : Prop :=
  Seen W w' ∧ ((flowO l n c = none ∧ e = .returned (.tuple #[frv zFr, layv (.slice none 0 0) (.slice none 0 0) zPi 0, .bool false])) ∨
    (∃ b v a cap, flowO l n c = some b ∧ e = .returned (.tuple #[frv b.f, layv v (.slice a b.p.y.length cap) b.p b.hi, .bool true]) ∧ GR pdl 116 26 w' W.heap.size v b.l ∧ RP w' W.heap.size (.slice a b.p.y.length cap) b.p.y))
theorem rbox_any {l : List Nd} {ad : Option Addr} {N cp : Nat} (hf : FormedT l) (hN : N ≤ 1000) (W : World) (hNS : NS W ad N l) (n : Int) (x : Int) (h : Sz) (rtl : Bool) :
    Calls Tryz.prog 8 #[.slice ad N cp, .int .i64 n, .int .i64 x, .agg #[.bool h.au, .int .i64 h.n], .bool rtl] W (RefBoxAns l n ⟨x, h, rtl⟩ W) := by
  cases hm : ((plAt l n).made && rngB ⟨x, h, rtl⟩)
  · refine (rbox_no hf hN hNS n x h rtl hm W (Seen.refl W)).mono ?_
    rintro e w' ⟨rfl, hs⟩
    exact ⟨hs, .inl ⟨by unfold flowO; rw [hm]; rfl, rfl⟩⟩
  · rw [Bool.and_eq_true] at hm
    obtain ⟨h1, h2⟩ := hm
    obtain ⟨m, hm, rfl⟩ := made_nat h1
    have hlen : l.length = N := hNS.1
    have h1' : madeB l m = true := by
      rw [← h1]
      have hb : inB l (m : Int) = true := inB_nat hm
      rw [(plAt_made hb).1]
    obtain ⟨b, off, rfl, -⟩ := hNS.ats (by omega)
    refine (rboxOK_all (cp := cp) hf hN hNS N m (by omega) (by omega) h1' x h rtl h2 W (Seen.refl W)).mono ?_
    have hfl : flowO l m ⟨x, h, rtl⟩ = boxO l N m ⟨x, h, rtl⟩ := by unfold flowO; rw [h1, h2, hlen]; rfl
    rintro e w' ⟨hs, ⟨g1, g2⟩ | ⟨bo, v, a, cap, g1, g2, g3, g4⟩⟩
    · exact ⟨hs, .inl ⟨hfl.trans g1, g2⟩⟩
    · exact ⟨hs, .inr ⟨bo, v, a, cap, hfl.trans g1, g2, g3, g4⟩⟩
end Go.Proofs.YtngeaigkafamiaaGreat
namespace Go.Proofs.YtngeaigkafamiaaGreat
open Go.ChangeShapes Go.WideShapes Go.ChangeAt Go.RowKit Go.Joins
set_option maxRecDepth 100000
def KS (k : IntKind) (w : World) (a : Option Addr) (n : Nat) (zs : List Int) : Prop :=
  zs.length = n ∧ (0 < n → ∃ b off, a = some ⟨b, off, none⟩ ∧ ∀ i, i < n → w.cell? ⟨b, off + i, none⟩ = some (.int k (zs.getD i 0)))
theorem KS.seen {k : IntKind} {w w' : World} {a : Option Addr} {n : Nat} {zs : List Int} (h : KS k w a n zs) (hs : Seen w w') : KS k w' a n zs := by
  refine ⟨h.1, fun h0 => ?_⟩
  obtain ⟨b, off, e, hc⟩ := h.2 h0
  exact ⟨b, off, e, fun i hi => hs.cell (hc i hi)⟩
end Go.Proofs.YtngeaigkafamiaaGreat
namespace Go.Proofs.YtngeaigkafamiaaGreat
open Go.ChangeShapes Go.WideShapes Go.ChangeAt Go.RowKit Go.Joins
set_option maxRecDepth 100000
theorem ZS_seen {w w' : World} {a : Option Addr} {n : Nat} {zs : List Int} (h : ZI w a n zs) (hs : Seen w w') : ZI w' a n zs := by
  refine ⟨h.1, fun h0 => ?_⟩
  obtain ⟨b, off, e, hc⟩ := h.2 h0
  exact ⟨b, off, e, fun i hi => hs.cell (hc i hi)⟩
section
variable {H : Type} {enc : TypeId × Value → H} {w : World} {base : Nat} {spare : Nat → Bool} {held : Bool} {r : Reach} {b0 : Nat} {v : Value} {d : DataW H} {p : List MemPlace}
structure Kids where
  a : Option Addr
  n : Nat
  c : Nat
  l : List Ch
structure Us where
  a : Option Addr
  n : Nat
  c : Nat
  l : List Int
end
end Go.Proofs.YtngeaigkafamiaaGreat
namespace Go.Proofs.YtngeaigkafamiaaGreat
open Go.ChangeShapes Go.WideShapes Go.ChangeAt Go.RowKit
set_option maxRecDepth 100000
set_option linter.unusedVariables false
theorem chOf_any (c : Ch) (w : World) : Calls Tryz.prog 32 #[chv c] w fun e w' => e = .returned (chv c) ∧ Seen w w' := by
  obtain ⟨⟨tp, tn⟩, ⟨bp, bn⟩, ⟨ip, inn⟩, thr, hi⟩ := c
  go_enter Tryz.func32, Tryz.ntmps32
  go_wp2_with fail
  go_returns
  exact ⟨rfl, by unfold Seen; go_grown⟩
theorem neq_st (w : World) (a b : Int) : (binOp .neq 33 (.agg #[.int .i64 a, .int .i64 b]) (.agg #[.int .i64 a, .int .i64 b])).run Tryz.prog w = .ok (.bool false) w := by go_simp
set_option maxHeartbeats 2000000 in
theorem is_any (q : Pi) (a a' : Option Addr) (n c c' : Nat) (w : World) (h : ZI w a n q.y) (h' : ZI w a' n q.y) (hn : n ≤ 1000000) :
    Calls Tryz.prog 33 #[piv (.slice a n c) q, piv (.slice a' n c') q] w fun e w' => e = .returned (.bool true) ∧ Seen w w' := by
  have H := Lib.hid h
  have H' := Lib.hid h'
  clear h h'
  obtain ⟨y, ed, ⟨tp, tn⟩, ⟨cp, cn⟩, att⟩ := q
  simp only at H H'
  have ns := neq_st
  obtain ⟨W, hW⟩ : ∃ W, W = (w.alloc (.cells #[.slice a n c, .int .i64 ed, .int .i64 tp, .int .i64 tn, .int .i64 cp, .int .i64 cn, .bool att] 41)).alloc (.cells #[.slice a' n c', .int .i64 ed, .int .i64 tp, .int .i64 tn, .int .i64 cp, .int .i64 cn, .bool att] 53) := ⟨_, rfl⟩
  have sW : Seen w W := by rw [hW]; exact ((Seen.refl w).alloc _).alloc _
  have k1 : Blk W w.heap.size (pil (.slice a n c) ⟨y, ed, ⟨tp, tn⟩, ⟨cp, cn⟩, att⟩) 41 := by rw [hW]; exact (Blk.new w _ _).alloc _
  have k2 : Blk W (w.heap.size + 1) (pil (.slice a' n c') ⟨y, ed, ⟨tp, tn⟩, ⟨cp, cn⟩, att⟩) 53 := by rw [hW]; simpa using Blk.new (w.alloc (.cells #[.slice a n c, .int .i64 ed, .int .i64 tp, .int .i64 tn, .int .i64 cp, .int .i64 cn, .bool att] 41)) (pil (.slice a' n c') ⟨y, ed, ⟨tp, tn⟩, ⟨cp, cn⟩, att⟩) 53
  have r1 := k1.rulesP
  have r2 := k2.rulesP
  have HS := Lib.hid sW
  have sr := Seen.refl W
  simp only at r1 r2
  clear k1 k2
  go_enter Tryz.func33, Tryz.ntmps33
  go_upto_region 1 with fail
  rw [← hW]
  clear hW sW
  go_cut [40] (fun v wx => (v = .bool false ∧ wx = W) : Value → World → Prop)
  case first =>
    cases att
    · go_wp2_with fail
      go_meet
      exact ⟨rfl, rfl⟩
    · go_wp2_with fail
      go_meet
      exact ⟨rfl, rfl⟩
  obtain ⟨rfl, rfl⟩ := hcut
  go_wp2_with fail
  go_loopw [44] (fun i wr => ∃ k : Nat, k ≤ n ∧ i = .int .i64 k ∧ Seen wc wr) (fun i _ => n - (intOf i).toNat)
  case atStart => exact ⟨0, Nat.zero_le _, rfl, sr⟩
  case round =>
    obtain ⟨k, hk, rfl, hs⟩ := hrel
    have S1 := Lib.hid hs
    by_cases hlt : k < n
    · obtain ⟨b, off, rfl, hc⟩ := H.out.2 (by omega : 0 < n)
      obtain ⟨b', off', rfl, hc'⟩ := H'.out.2 (by omega : 0 < n)
      have c1 := S1.out.cell (HS.out.cell (hc k hlt))
      have c2 := S1.out.cell (HS.out.cell (hc' k hlt))
      obtain ⟨z, hz⟩ : ∃ z, zat y k = z := ⟨_, rfl⟩
      rw [hz] at c1 c2
      obtain ⟨x0, -⟩ := r1 _ hs
      obtain ⟨y0, -⟩ := r2 _ hs
      clear hc hc' hz r1 r2 hs sr
      go_wp2_with fail
      go_quiet (fail)
      go_wp2_with fail
      go_roundw
      case rel => exact ⟨k + 1, by omega, by go_num, Seen.next S1.out (Go.Joins.below_draws _ _ _)⟩
      case measure => simp [intOf]; omega
    · obtain rfl : k = n := by omega
      clear r1 r2 hs sr
      go_wp2_with fail
      go_ret
      exact ⟨rfl, HS.out.trans S1.out⟩
end Go.Proofs.YtngeaigkafamiaaGreat

