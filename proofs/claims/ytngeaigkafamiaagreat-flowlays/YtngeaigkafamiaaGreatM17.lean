/- Texts of the proof, merged: RefFor. -/
import Derived.Test.YtngeaigkafamiaaGreatM12
import Derived.Deep.DeepCutAuto
namespace Go.Proofs.YtngeaigkafamiaaGreat
open Go.ChangeShapes Go.WideShapes Go.ChangeAt Go.RowKit
set_option maxRecDepth 100000
set_option linter.unusedVariables false
def wN (b : Bx) (s : Sz) : Int := if s.au then b.base - b.ar - orV b.lf 0 - orV b.rt 0 else s.n
def refI (b : Bx) (la ra : Bool) (L R n : Int) : O3 :=
  if la && ra then ⟨halfI (b.base - b.ar - n), n, (b.base - b.ar - n) - halfI (b.base - b.ar - n)⟩
  else if la || (!ra && b.rtl) then ⟨b.base - b.ar - n - R, n, R⟩ else ⟨L, n, b.base - b.ar - n - L⟩
def stay (b : Bx) (s : Sz) : Bool := !s.au && !decide (orV b.lf 0 + b.ar + wN b s + orV b.rt 0 > b.base)
def refAO (b : Bx) (s : Sz) : O3 := if fitsB (wN b s) then refI b (stay b s && b.lf.au) (stay b s && b.rt.au) (orV b.lf 0) (orV b.rt 0) (wN b s) else zO
def refB (b : Bx) (s : Sz) : Bool := fitsB (wN b s) && fitsB (refAO b s).l && fitsB (refAO b s).r
structure FS (w0 : World) (b : Bx) (A B : Nat) (s l r : Sz) (wx : World) : Prop where
  kb : Blk wx w0.heap.size (bxl b) 105
  ks : Blk wx (w0.heap.size + 1) [.bool s.au, .int .i64 s.n] 58
  ko : Blk wx (w0.heap.size + 1 + 1) [.int .i64 0, .int .i64 0, .int .i64 0] 101
  ka : Blk wx A [.bool l.au, .int .i64 l.n] 58
  kr : Blk wx B [.bool r.au, .int .i64 r.n] 58
  hA : w0.heap.size + 1 + 1 < A
  hB : w0.heap.size + 1 + 1 < B
  ne : A ≠ B
  seen : Seen w0 wx
theorem FS.next {w0 : World} {b : Bx} {A B : Nat} {s l r : Sz} {wx wy : World} (h : FS w0 b A B s l r wx) (k : Seen wx wy) : FS w0 b A B s l r wy :=
  ⟨h.kb.seen k, h.ks.seen k, h.ko.seen k, h.ka.seen k, h.kr.seen k, h.hA, h.hB, h.ne, h.seen.trans k⟩
theorem Blk.two {w : World} {B : Nat} {t : TypeId} {x y : Value} (h : Blk w B [x, y] t) (u v : Value) : Blk ((w.setCell ⟨B, 0, none⟩ u).setCell ⟨B, 1, none⟩ v) B [u, v] t := (h.set 0 u).set 1 v
theorem Blk.oth2 {w : World} {B C : Nat} {t : TypeId} {l : List Value} (h : Blk w B l t) (hn : C ≠ B) (u v : Value) : Blk ((w.setCell ⟨C, 0, none⟩ u).setCell ⟨C, 1, none⟩ v) B l t := (h.other (p := ⟨C, 0, none⟩) hn u).other (p := ⟨C, 1, none⟩) hn v
theorem Seen.set2 {W w' : World} {A : Nat} {x y : Value} (h : Seen W w') (hA : W.heap.size ≤ A) : Seen W ((w'.setCell ⟨A, 0, none⟩ x).setCell ⟨A, 1, none⟩ y) := (Below.setCell h hA _).setCell hA _
theorem FS.setL {w0 : World} {b : Bx} {A B : Nat} {s l r : Sz} {wx : World} (h : FS w0 b A B s l r wx) (x : Bool) (n : Int) : FS w0 b A B s ⟨x, n⟩ r ((wx.setCell ⟨A, 0, none⟩ (.bool x)).setCell ⟨A, 1, none⟩ (.int .i64 n)) := by
  have h1 := h.hA
  have h2 := h.ne
  exact ⟨h.kb.oth2 (by omega) _ _, h.ks.oth2 (by omega) _ _, h.ko.oth2 (by omega) _ _, h.ka.two _ _, h.kr.oth2 h2 _ _, h.hA, h.hB, h.ne, h.seen.set2 (by omega)⟩
theorem FS.setR {w0 : World} {b : Bx} {A B : Nat} {s l r : Sz} {wx : World} (h : FS w0 b A B s l r wx) (x : Bool) (n : Int) : FS w0 b A B s l ⟨x, n⟩ ((wx.setCell ⟨B, 0, none⟩ (.bool x)).setCell ⟨B, 1, none⟩ (.int .i64 n)) := by
  have h1 := h.hB
  have h2 := h.ne
  exact ⟨h.kb.oth2 (by omega) _ _, h.ks.oth2 (by omega) _ _, h.ko.oth2 (by omega) _ _, h.ka.oth2 (Ne.symm h2) _ _, h.kr.two _ _, h.hA, h.hB, h.ne, h.seen.set2 (by omega)⟩
theorem FS.setS {w0 : World} {b : Bx} {A B : Nat} {s l r : Sz} {wx : World} (h : FS w0 b A B s l r wx) (x : Bool) (n : Int) : FS w0 b A B ⟨x, n⟩ l r ((wx.setCell ⟨w0.heap.size + 1, 0, none⟩ (.bool x)).setCell ⟨w0.heap.size + 1, 1, none⟩ (.int .i64 n)) := by
  have h1 := h.hB
  have h2 := h.hA
  exact ⟨h.kb.oth2 (by omega) _ _, h.ks.two _ _, h.ko.oth2 (by omega) _ _, h.ka.oth2 (by omega) _ _, h.kr.oth2 (by omega) _ _, h.hA, h.hB, h.ne, h.seen.set2 (by omega)⟩
theorem FS.rules {w0 : World} {b : Bx} {A B : Nat} {s l r : Sz} {wx : World} (h : FS w0 b A B s l r wx) : ∀ w', Seen wx w' →
    (w'.cell? ⟨A, 0, none⟩ = some (.bool l.au) ∧ w'.cell? ⟨A, 1, none⟩ = some (.int .i64 l.n) ∧ (∀ o, w'.frozen? ⟨A, o, none⟩ = false)) ∧ (w'.cell? ⟨B, 0, none⟩ = some (.bool r.au) ∧ w'.cell? ⟨B, 1, none⟩ = some (.int .i64 r.n) ∧ (∀ o, w'.frozen? ⟨B, o, none⟩ = false))
    ∧ (w'.cell? ⟨w0.heap.size + 1, 0, none⟩ = some (.bool s.au) ∧ w'.cell? ⟨w0.heap.size + 1, 1, none⟩ = some (.int .i64 s.n) ∧ (∀ o, w'.frozen? ⟨w0.heap.size + 1, o, none⟩ = false)) :=
  fun w' k => ⟨h.ka.rules2 w' k, h.kr.rules2 w' k, h.ks.rules2 w' k⟩
theorem fitsB_iff {n : Int} : fitsB n = true ↔ -1125899906842624 ≤ n ∧ n ≤ 1125899906842624 := by unfold fitsB; simp
theorem okF_parts {b : Bx} (h : okF b = true) : (-1125899906842624 ≤ b.base ∧ b.base ≤ 1125899906842624) ∧ (-1125899906842624 ≤ b.ar ∧ b.ar ≤ 1125899906842624) ∧ (-1125899906842624 ≤ orV b.lf 0 ∧ orV b.lf 0 ≤ 1125899906842624) ∧ (-1125899906842624 ≤ orV b.rt 0 ∧ orV b.rt 0 ≤ 1125899906842624) := by
  unfold okF at h
  simp only [Bool.and_eq_true, fitsB_iff] at h
  exact ⟨h.1.1.1, h.1.1.2, h.1.2, h.2⟩
theorem w64 {n : Int} (h1 : -9223372036854775808 ≤ n) (h2 : n ≤ 9223372036854775807) : wrap64 n = n := by unfold wrap64; omega
theorem wi64 {n : Int} (h1 : -9223372036854775808 ≤ n) (h2 : n ≤ 9223372036854775807) : IntKind.i64.wrap n = n := IntWalk.i64_in _ (by omega)
theorem sz_false {s : Sz} (h : s.au = false) : s = ⟨false, s.n⟩ := by obtain ⟨a, n⟩ := s; simp only at h; subst h; rfl
set_option maxHeartbeats 4000000 in
theorem refFor_any (b : Bx) (s : Sz) (w : World) (hok : okF b = true) :
    Calls Tryz.prog 54 #[bxv b, szv s] w fun e w' => e = .returned (.tuple #[o3v (refAO b s), .bool (refB b s)]) ∧ Seen w w' := by
  have o1 := fun w => refOr_any b.lf 0 w
  have o2 := fun w => refOr_any b.rt 0 w
  obtain ⟨⟨b1, b2⟩, ⟨b3, b4⟩, ⟨b5, b6⟩, ⟨b7, b8⟩⟩ := okF_parts hok
  have HN : Hid (wN b s = if s.au then b.base - b.ar - orV b.lf 0 - orV b.rt 0 else s.n) := rfl
  have HST : Hid (stay b s = (!s.au && !decide (orV b.lf 0 + b.ar + wN b s + orV b.rt 0 > b.base))) := rfl
  have HO : Hid (refAO b s = if fitsB (wN b s) then refI b (stay b s && b.lf.au) (stay b s && b.rt.au) (orV b.lf 0) (orV b.rt 0) (wN b s) else zO) := rfl
  have HB : Hid (refB b s = (fitsB (wN b s) && fitsB (refAO b s).l && fitsB (refAO b s).r)) := rfl
  obtain ⟨L, hL⟩ : ∃ x, orV b.lf 0 = x := ⟨_, rfl⟩
  obtain ⟨R, hR⟩ : ∃ x, orV b.rt 0 = x := ⟨_, rfl⟩
  rw [hL] at o1 HN HST HO b5 b6
  rw [hR] at o2 HN HST HO b7 b8
  obtain ⟨n, hn⟩ : ∃ n, wN b s = n := ⟨_, rfl⟩
  obtain ⟨o, ho⟩ : ∃ o, refAO b s = o := ⟨_, rfl⟩
  obtain ⟨p, hp⟩ : ∃ p, refB b s = p := ⟨_, rfl⟩
  obtain ⟨sy, hsy⟩ : ∃ p, stay b s = p := ⟨_, rfl⟩
  rw [hn] at HN HST HO HB
  rw [ho] at HO HB ⊢
  rw [hp] at HB ⊢
  rw [hsy] at HST HO
  have HL := Lib.hid hL
  have HR := Lib.hid hR
  obtain ⟨W, hW⟩ : ∃ W, W = ((w.alloc (.cells (bxl b).toArray 105)).alloc (.cells #[.bool s.au, .int .i64 s.n] 58)).alloc (.cells #[.int .i64 0, .int .i64 0, .int .i64 0] 101) := ⟨_, rfl⟩
  have kb : Blk W w.heap.size (bxl b) 105 := by rw [hW]; exact ((Blk.new w _ _).alloc _).alloc _
  have ks : Blk W (w.heap.size + 1) [.bool s.au, .int .i64 s.n] 58 := by rw [hW]; simpa using (Blk.new (w.alloc (.cells (bxl b).toArray 105)) [.bool s.au, .int .i64 s.n] 58).alloc _
  have ko : Blk W (w.heap.size + 1 + 1) [.int .i64 0, .int .i64 0, .int .i64 0] 101 := by rw [hW]; simpa using Blk.new ((w.alloc (.cells (bxl b).toArray 105)).alloc (.cells #[.bool s.au, .int .i64 s.n] 58)) [.int .i64 0, .int .i64 0, .int .i64 0] 101
  have SW : Seen w W := by rw [hW]; unfold Seen; go_grown
  have hWS : W.heap.size = w.heap.size + 1 + 1 + 1 := by rw [hW]; simp
  have HKB := Lib.hid kb
  have HKS := Lib.hid ks
  have HKO := Lib.hid ko
  have HSW := Lib.hid SW
  have rb := kb.rulesB
  have sd := (Seen.refl W).drew
  clear kb ks ko SW hok hn ho hp hsy hL hR
  go_enter Tryz.func54, Tryz.ntmps54
  go_upto_region 1 with fail
  rw [← hW]
  clear hW
  go_cut [6, 7] (fun v u wx => (∃ A B, v = .pointer (some ⟨A, 0, none⟩) ∧ u = .pointer (some ⟨B, 0, none⟩) ∧ FS w b A B s b.lf b.rt wx) : Value → Value → World → Prop)
  case first =>
    have rk : ∀ w', Seen W w' → w'.cell? ⟨w.heap.size, 1, none⟩ = some (.bool b.lf.au) ∧ w'.cell? ⟨w.heap.size, 2, none⟩ = some (.int .i64 b.lf.n) ∧ w'.cell? ⟨w.heap.size, 5, none⟩ = some (.bool b.rt.au) ∧ w'.cell? ⟨w.heap.size, 6, none⟩ = some (.int .i64 b.rt.n) := fun w' h => ⟨(rb w' h).2.1, (rb w' h).2.2.1, (rb w' h).2.2.2.2.2.1, (rb w' h).2.2.2.2.2.2.1⟩
    clear rb o1 o2
    go_region_held3 (fun w' => w'.cell? ⟨w.heap.size, 1, none⟩ = some (.bool b.lf.au) ∧ w'.cell? ⟨w.heap.size, 2, none⟩ = some (.int .i64 b.lf.n) ∧ w'.cell? ⟨w.heap.size, 5, none⟩ = some (.bool b.rt.au) ∧ w'.cell? ⟨w.heap.size, 6, none⟩ = some (.int .i64 b.rt.n))
      (first | exact rk _ sd | exact rk _ (Seen.alloc (Seen.refl W) _) | exact rk _ (Seen.alloc (Seen.alloc (Seen.refl W) _) _) | exact rk _ (Seen.drew (Seen.alloc (Seen.refl W) _)) | exact rk _ (Seen.drew (Seen.alloc (Seen.alloc (Seen.refl W) _) _)))
      (fail)
    · clear rk
      go_wp2_with fail
      go_meet
      have a1 := (Blk.new W [.bool b.lf.au, .int .i64 b.lf.n] 58).alloc (.cells #[.bool b.rt.au, .int .i64 b.rt.n] 58)
      have a2 := Blk.new (W.alloc (.cells #[.bool b.lf.au, .int .i64 b.lf.n] 58)) [.bool b.rt.au, .int .i64 b.rt.n] 58
      have e2 : (W.alloc (.cells #[.bool b.lf.au, .int .i64 b.lf.n] 58)).heap.size = w.heap.size + 1 + 1 + 1 + 1 := by simp [hWS]
      rw [hWS] at a1
      rw [e2] at a2
      exact ⟨_, _, rfl, rfl, (HKB.out.alloc _).alloc _, (HKS.out.alloc _).alloc _, (HKO.out.alloc _).alloc _, a1, a2, by omega, by omega, by omega, ((HSW.out.alloc _).alloc _).drew⟩
    · clear rk
      go_wp2_with fail
      go_meet
      have a1 := (Blk.new W [.bool b.rt.au, .int .i64 b.rt.n] 58).alloc (.cells #[.bool b.lf.au, .int .i64 b.lf.n] 58)
      have a2 := Blk.new (W.alloc (.cells #[.bool b.rt.au, .int .i64 b.rt.n] 58)) [.bool b.lf.au, .int .i64 b.lf.n] 58
      have e2 : (W.alloc (.cells #[.bool b.rt.au, .int .i64 b.rt.n] 58)).heap.size = w.heap.size + 1 + 1 + 1 + 1 := by simp [hWS]
      rw [hWS] at a1
      rw [e2] at a2
      exact ⟨_, _, rfl, rfl, (HKB.out.alloc _).alloc _, (HKS.out.alloc _).alloc _, (HKO.out.alloc _).alloc _, a2, a1, by omega, by omega, by omega, ((HSW.out.alloc _).alloc _).drew⟩
  obtain ⟨A, B, rfl, rfl, hf⟩ := hcut
  clear rb sd hWS HKB HKS HKO HSW
  have F1 := Lib.hid hf
  have kr := hf.rules
  have rb := hf.kb.rulesB
  have d1 := hf.ne
  have d2 := Ne.symm hf.ne
  have hA := hf.hA
  have hB := hf.hB
  have d3 : ¬ A = w.heap.size + 1 := by omega
  have d4 : ¬ B = w.heap.size + 1 := by omega
  have sr := Seen.refl wc
  have acc := sr.drew
  obtain ⟨g1, e1⟩ : ∃ x, b.base - b.ar = x := ⟨_, rfl⟩
  obtain ⟨g2, e2⟩ : ∃ x, g1 - L = x := ⟨_, rfl⟩
  obtain ⟨g3, e3⟩ : ∃ x, g2 - R = x := ⟨_, rfl⟩
  have wr1 : wrap64 (b.base - b.ar) = g1 := by rw [w64 (by omega) (by omega)]; exact e1
  have wr2 : wrap64 (g1 - L) = g2 := by rw [w64 (by omega) (by omega)]; exact e2
  have wr3 : wrap64 (g2 - R) = g3 := by rw [w64 (by omega) (by omega)]; exact e3
  have E1 := Lib.hid e1
  have E2 := Lib.hid e2
  have E3 := Lib.hid e3
  have B1 := Lib.hid b1
  have B2 := Lib.hid b2
  have B3 := Lib.hid b3
  have B4 := Lib.hid b4
  have B5 := Lib.hid b5
  have B6 := Lib.hid b6
  have B7 := Lib.hid b7
  have B8 := Lib.hid b8
  clear hf e1 e2 e3 b1 b2 b3 b4 b5 b6 b7 b8
  go_upto_if 15 with fail
  go_cut [] (fun wx => (∃ l r : Sz, FS w b A B ⟨false, n⟩ l r wx ∧ l.au = (!s.au && b.lf.au) ∧ r.au = (!s.au && b.rt.au) ∧ orV l 0 = L ∧ orV r 0 = R) : World → Prop)
  case first =>
    cases hau : s.au with
    | false =>
      rw [hau] at HN
      have es : (⟨false, n⟩ : Sz) = s := by rw [HN.out]; exact (sz_false hau).symm
      rw [hau] at kr
      go_wp2_with fail
      go_meet
      exact ⟨b.lf, b.rt, by rw [es]; exact F1.out, by simp [hau], by simp [hau], HL.out, HR.out⟩
    | true =>
      rw [hau] at HN kr
      have q1 := o1
      have q2 := o2
      go_upto_region 3 with fail
      go_cut [] (fun wx => FS w b A B s ⟨false, L⟩ ⟨false, R⟩ wx)
      case first =>
        go_region_with (first
          | (go_at_call 30; refine (q1 _).mono ?_; clear q1; rintro e w1 ⟨rfl, hb⟩; replace acc := Seen.next acc hb; clear hb)
          | (go_at_call 30; refine (q2 _).mono ?_; clear q2; rintro e w2 ⟨rfl, hb⟩; replace acc := Seen.next acc hb; clear hb))
        all_goals
          go_wp2_with fail
          go_meet
          exact ((F1.out.next acc).setL false L).setR false R
      have F2 := Lib.hid hcut
      have kr2 := hcut.rules
      have rb2 := hcut.kb.rulesB
      have sr2 := Seen.refl wc
      clear hcut kr rb q1 q2
      rw [hau] at kr2
      go_wp2_with fail
      go_meet
      have hg : n = g3 := by
        have h : n = b.base - b.ar - L - R := by simpa using HN.out
        have := E1.out; have := E2.out; have := E3.out; omega
      rw [hg]
      exact ⟨⟨false, L⟩, ⟨false, R⟩, F2.out.setS false g3, by simp [hau], by simp [hau], rfl, rfl⟩
  clear kr rb F1 HL HR acc sr
  obtain ⟨l, r, hf, hla, hra, hol, hor⟩ := hcut
  have F1 := Lib.hid hf
  have kr := hf.rules
  have rb := hf.kb.rulesB
  have ro := hf.ko.rules3
  have sr := Seen.refl wc
  have C0 := fun w => refFits_eq n w
  have c1 := fun w => refOr_any l 0 w
  have c2 := fun w => refOr_any r 0 w
  rw [hol] at c1
  rw [hor] at c2
  have HOL := Lib.hid hol
  have HOR := Lib.hid hor
  have HLA := Lib.hid hla
  have HRA := Lib.hid hra
  clear hf hol hor hla hra o1 o2
  cases hfit : fitsB n with
  | false =>
    rw [hfit] at C0 HO HB
    have eo : Hid (o = zO) := Lib.hid (by simpa using HO.out)
    have ep : Hid (p = false) := Lib.hid (by simpa using HB.out)
    clear rb c1 c2 HO HB wr1 wr2 wr3
    go_wp2_with (go_at_call 52; refine (C0 _).mono ?_; clear C0; rintro e w1 ⟨rfl, rfl⟩)
    have z := ((F1.out.ko.set 0 (.int .i64 0)).set 1 (.int .i64 0)).set 2 (.int .i64 0)
    have z0 := z.cell 0
    have z1 := z.cell 1
    have z2 := z.cell 2
    refine bodyPost_ret (by simp [results, Tryz.results54, go_sem, z0, z1, z2]; try rfl) rfl ?_
    exact ⟨by rw [eo.out, ep.out]; rfl, Seen.set3 F1.out.seen (by omega)⟩
  | true =>
    rw [hfit] at C0 HO HB
    obtain ⟨n1, n2⟩ := fitsB_iff.1 hfit
    have b1 := B1.out
    have b2 := B2.out
    have b3 := B3.out
    have b4 := B4.out
    have b5 := B5.out
    have b6 := B6.out
    have b7 := B7.out
    have b8 := B8.out
    obtain ⟨s1, e1⟩ : ∃ x, L + b.ar = x := ⟨_, rfl⟩
    obtain ⟨s2, e2⟩ : ∃ x, s1 + n = x := ⟨_, rfl⟩
    obtain ⟨s3, e3⟩ : ∃ x, s2 + R = x := ⟨_, rfl⟩
    have ws1 : IntKind.i64.wrap (L + b.ar) = s1 := (wi64 (by omega) (by omega)).trans e1
    have ws2 : IntKind.i64.wrap (s1 + n) = s2 := (wi64 (by omega) (by omega)).trans e2
    have ws3 : IntKind.i64.wrap (s2 + R) = s3 := (wi64 (by omega) (by omega)).trans e3
    have E4 : Hid (s3 = L + b.ar + n + R) := by unfold Hid; omega
    clear e1 e2 e3 b1 b2 b3 b4 b5 b6 b7 b8
    go_upto_region 7 with (go_at_call 52; refine (C0 _).mono ?_; clear C0; rintro e w1 ⟨rfl, rfl⟩)
    refine wp_region_quiet (C := Seen w1) (by kernel_rfl) (by kernel_rfl) (Seen.drew sr) ?_
    simp only []
    repeat (first
      | go_big_quiet_skip
      | (go_big_quiet_want
         apply Exists.intro
         refine ⟨fun w1 h1 => ?_, ?_⟩
         focus
           go_simp
           first | done | rfl | (go_at_call 30; with_reducible exact quiet_call h1 (c1 _)) | (go_at_call 30; with_reducible exact quiet_call h1 (c2 _))
         (try simp only [Z1,Z2,Z3,Z4])
         go_big_quiet_on))
    refine wpQuiet_nil ?_
    intro w2 h2
    go_upto_if 52 with fail
    go_cut [] (fun wx => (∃ l r : Sz, FS w b A B ⟨false, n⟩ l r wx ∧ l.au = (sy && b.lf.au) ∧ r.au = (sy && b.rt.au) ∧ orV l 0 = L ∧ orV r 0 = R) : World → Prop)
    case first =>
      by_cases hov : s3 > b.base
      · have esy : sy = false := by have h := HST.out; have := E4.out; rw [decide_eq_true (by omega)] at h; simpa using h
        have kr2 := fun w' (h : Seen w2 w') => kr w' (h2.trans h)
        have FW := Lib.hid (F1.out.next h2)
        have sr2 := Seen.refl w2
        have acc := sr2.drew
        have q1 := c1
        have q2 := c2
        clear kr rb ro sr
        go_upto_region 8 with fail
        go_region_with (first
          | (go_at_call 30; refine (q1 _).mono ?_; clear q1; rintro e w3 ⟨rfl, hb⟩; replace acc := Seen.next acc hb; clear hb)
          | (go_at_call 30; refine (q2 _).mono ?_; clear q2; rintro e w4 ⟨rfl, hb⟩; replace acc := Seen.next acc hb; clear hb))
        all_goals
          go_wp2_with fail
          go_meet
          exact ⟨⟨false, L⟩, ⟨false, R⟩, ((FW.out.next acc).setL false L).setR false R, by simp [esy], by simp [esy], rfl, rfl⟩
      · have esy : sy = !s.au := by have h := HST.out; have := E4.out; rw [decide_eq_false (by omega)] at h; simpa using h
        go_wp2_with fail
        go_meet
        exact ⟨l, r, F1.out.next h2, by rw [HLA.out, esy], by rw [HRA.out, esy], HOL.out, HOR.out⟩
    clear kr rb ro sr ws1 ws2 ws3 HOL HOR HLA HRA F1 E4 c1 c2
    obtain ⟨l, r, hf, hla, hra, hol, hor⟩ := hcut
    have F1 := Lib.hid hf
    have kr := hf.rules
    have rb := hf.kb.rulesB
    have ro := hf.ko.rules3
    have sr := Seen.refl wc
    have E1' := E1.out
    have b1 := B1.out
    have b2 := B2.out
    have b3 := B3.out
    have b4 := B4.out
    have b5 := B5.out
    have b6 := B6.out
    have b7 := B7.out
    have b8 := B8.out
    obtain ⟨g, eg⟩ : ∃ x, g1 - n = x := ⟨_, rfl⟩
    obtain ⟨h, eh⟩ : ∃ x, halfI g = x := ⟨_, rfl⟩
    have eh2 : h = g / 2 := by rw [← eh]; rfl
    obtain ⟨x4, e4⟩ : ∃ x, g - h = x := ⟨_, rfl⟩
    obtain ⟨x5, e5⟩ : ∃ x, g - R = x := ⟨_, rfl⟩
    obtain ⟨x6, e6⟩ : ∃ x, g - L = x := ⟨_, rfl⟩
    have wg : wrap64 (g1 - n) = g := (w64 (by omega) (by omega)).trans eg
    have w4 : wrap64 (g - h) = x4 := (w64 (by omega) (by omega)).trans e4
    have w5 : wrap64 (g - R) = x5 := (w64 (by omega) (by omega)).trans e5
    have w6 : wrap64 (g - L) = x6 := (w64 (by omega) (by omega)).trans e6
    have CH := fun w => refHalf_any g w (by omega) (by omega)
    rw [eh] at CH
    have HI : Hid (∀ la ra, refI b la ra L R n = if la && ra then ⟨h, n, x4⟩ else if la || (!ra && b.rtl) then ⟨x5, n, R⟩ else ⟨L, n, x6⟩) := fun la ra => by
      unfold refI
      rw [E1', eg, eh, e4, e5, e6]
    clear eg eh eh2 e4 e5 e6 E1' b1 b2 b3 b4 b5 b6 b7 b8 n1 n2 hfit
    go_upto_region 10 with fail
    obtain ⟨V, hV⟩ : ∃ V, V = wc.alloc (.cells #[.int .i64 l.n, .int .i64 n, .int .i64 r.n] 101) := ⟨_, rfl⟩
    obtain ⟨D, hD⟩ : ∃ D, wc.heap.size = D := ⟨_, rfl⟩
    have kD : Blk V D [.int .i64 l.n, .int .i64 n, .int .i64 r.n] 101 := by rw [hV, ← hD]; exact Blk.new wc _ _
    have sV : Seen wc V := by rw [hV]; exact (Seen.refl wc).alloc _
    have hDA := hf.ka.lt
    have hDB := hf.kr.lt
    rw [hD] at hDA hDB
    rw [← hV, hD]
    clear hV hD
    have F2 := Lib.hid (F1.out.next sV)
    have HD := Lib.hid kD
    have kr := F2.out.rules
    have rb := F2.out.kb.rulesB
    have ro := F2.out.ko.rules3
    have rD := kD.rules3
    have sr := Seen.refl V
    have m1 : ¬ D = w.heap.size + 1 := by omega
    have m2 : ¬ D = w.heap.size + 1 + 1 := by omega
    have m3 : ¬ D = w.heap.size := by omega
    have m4 : ¬ D = A := by omega
    have m5 : ¬ D = B := by omega
    have m6 : ¬ w.heap.size + 1 + 1 = D := by omega
    have m7 : w.heap.size ≤ D := by omega
    clear kD sV hf F1 hDA hDB
    go_cut [71] (fun c wx => (c = .bool (l.au && r.au) ∧ wx = V) : Value → World → Prop)
    case first =>
      obtain ⟨la, ln⟩ := l
      obtain ⟨ra, rn⟩ := r
      clear HO HB hla hra HI
      cases la <;> cases ra
      all_goals
        go_wp2_with fail
        go_meet
        exact ⟨rfl, rfl⟩
    obtain ⟨rfl, rfl⟩ := hcut
    go_upto_if 71 with fail
    go_cut [] (fun wx => (Blk wx D (o3l o) 101 ∧ Blk wx (w.heap.size + 1 + 1) [.int .i64 0, .int .i64 0, .int .i64 0] 101 ∧ Seen w wx) : World → Prop)
    case first =>
      have HO' : Hid (o = refI b l.au r.au L R n) := Lib.hid (by rw [hla, hra]; simpa using HO.out)
      clear HO HB hla hra
      obtain ⟨la, ln⟩ := l
      obtain ⟨ra, rn⟩ := r
      cases la with
      | true =>
        cases ra with
        | true =>
          have eo : Hid (o = ⟨h, n, x4⟩) := Lib.hid (HO'.out.trans (HI.out true true))
          clear HO' HI
          go_wp2_with (go_at_call 81; refine (CH _).mono ?_; clear CH; rintro e w5 ⟨rfl, rfl⟩)
          go_meet
          rw [eo.out]
          exact ⟨(HD.out.set 0 _).set 2 _, (F2.out.ko.other (p := ⟨D, 0, none⟩) m2 _).other (p := ⟨D, 2, none⟩) m2 _, (Below.setCell F2.out.seen (by omega) _).setCell (by omega) _⟩
        | false =>
          have er : rn = R := hor
          subst er
          have eo : Hid (o = ⟨x5, n, rn⟩) := Lib.hid (HO'.out.trans (HI.out true false))
          clear HO' HI CH
          go_wp2_with fail
          go_meet
          rw [eo.out]
          exact ⟨HD.out.set 0 _, F2.out.ko.other (p := ⟨D, 0, none⟩) m2 _, Below.setCell F2.out.seen (by omega) _⟩
      | false =>
        have el : ln = L := hol
        subst el
        cases ra with
        | true =>
          have eo : Hid (o = ⟨ln, n, x6⟩) := Lib.hid (HO'.out.trans (HI.out false true))
          clear HO' HI CH
          go_wp2_with fail
          go_meet
          rw [eo.out]
          exact ⟨HD.out.set 2 _, F2.out.ko.other (p := ⟨D, 2, none⟩) m2 _, Below.setCell F2.out.seen (by omega) _⟩
        | false =>
          have er : rn = R := hor
          subst er
          cases hrtl : b.rtl with
          | true =>
            have eo : Hid (o = ⟨x5, n, rn⟩) := Lib.hid (by have h := HO'.out.trans (HI.out false false); rw [hrtl] at h; exact h)
            rw [hrtl] at rb
            clear HO' HI CH
            go_wp2_with fail
            go_meet
            rw [eo.out]
            exact ⟨HD.out.set 0 _, F2.out.ko.other (p := ⟨D, 0, none⟩) m2 _, Below.setCell F2.out.seen (by omega) _⟩
          | false =>
            have eo : Hid (o = ⟨ln, n, x6⟩) := Lib.hid (by have h := HO'.out.trans (HI.out false false); rw [hrtl] at h; exact h)
            rw [hrtl] at rb
            clear HO' HI CH
            go_wp2_with fail
            go_meet
            rw [eo.out]
            exact ⟨HD.out.set 2 _, F2.out.ko.other (p := ⟨D, 2, none⟩) m2 _, Below.setCell F2.out.seen (by omega) _⟩
    obtain ⟨kD, kO, sD⟩ := hcut
    obtain ⟨ol, ow, or⟩ := o
    simp only at HB
    have f1 := fun w => refFits_eq ol w
    have f2 := fun w => refFits_eq or w
    obtain ⟨t1, ht1⟩ : ∃ x, fitsB ol = x := ⟨_, rfl⟩
    obtain ⟨t2, ht2⟩ : ∃ x, fitsB or = x := ⟨_, rfl⟩
    rw [ht1] at f1 HB
    rw [ht2] at f2 HB
    go_upto_region 17 with fail
    rename_i hK17
    clear ht1 ht2 HO HI hla hra kr rb ro rD sr CH wg w4 w5 w6 HST HN F2 HD
    obtain ⟨U, hU⟩ : ∃ U, U = (((wc.drew.setCell ⟨w.heap.size + 1 + 1, 0, none⟩ (.int .i64 ol)).setCell ⟨w.heap.size + 1 + 1, 1, none⟩ (.int .i64 ow)).setCell ⟨w.heap.size + 1 + 1, 2, none⟩ (.int .i64 or)) := ⟨_, rfl⟩
    have stB : (Instr.storeAt 101 (.pointer (some ⟨w.heap.size + 1 + 1, 0, none⟩)) (.agg #[.int .i64 ol, .int .i64 ow, .int .i64 or])).run Tryz.prog wc.drew = .ok () U := by
      rw [hU]
      exact st31 ol ow or kO.drew
    have sB : Blk U D [.int .i64 ol, .int .i64 ow, .int .i64 or] 101 := by
      rw [hU]
      exact ((kD.drew.other (p := ⟨w.heap.size + 1 + 1, 0, none⟩) m6 _).other (p := ⟨w.heap.size + 1 + 1, 1, none⟩) m6 _).other (p := ⟨w.heap.size + 1 + 1, 2, none⟩) m6 _
    have z : Blk U (w.heap.size + 1 + 1) [.int .i64 ol, .int .i64 ow, .int .i64 or] 101 := by rw [hU]; exact ((kO.drew.set 0 (.int .i64 ol)).set 1 (.int .i64 ow)).set 2 (.int .i64 or)
    have sU : Seen w U := by rw [hU]; exact Seen.set3 sD.drew (by omega)
    have HU := Lib.hid sU
    have z0 := z.cell 0
    have z1 := z.cell 1
    have z2 := z.cell 2
    have sd := kD.drew
    clear hU z sU kO
    clear kr rb ro sr hol hor wr1 wr2 wr3 E1 E2 E3 B1 B2 B3 B4 B5 B6 B7 B8 d1 d2 d3 d4 m1 m2 m3 m4 m5 h2
    refine wp_region_held_drew (S := fun w' => Blk w' D [.int .i64 ol, .int .i64 ow, .int .i64 or] 101) (by kernel_rfl) sd (fun _ => ?_)
    cases t1 with
    | false =>
      refine ZU 0 (some 123) (.agg #[.int .i64 ol, .int .i64 ow, .int .i64 or]) (fun _ hS => run_by (Instr.loadAt 101 (.pointer (some ⟨D, 0, none⟩))) (by kernel_rfl) (ld31 hS)) sd ?_
      simp only [Z1,Z2,Z3,Z4]
      refine ZT 1 (some 124) (.pointer (some ⟨D, 0, none⟩)) sd ?_
      simp only [Z1,Z2,Z3,Z4]
      refine ZU 2 (some 125) (.int .i64 ol) (fun _ hS => run_by (Instr.loadAt 2 (.pointer (some ⟨D, 0, none⟩))) (by kernel_rfl) (ldk0 hS)) sd ?_
      simp only [Z1,Z2,Z3,Z4]
      refine wpAnyH_ready (rs := [3]) (by kernel_rfl) (by simp) ?_
      refine aCall 3 (some 126) 52 #[.int .i64 ol] (by kernel_rfl) (by kernel_rfl) (by kernel_rfl) (by kernel_rfl) ?_ ?_
      · refine (f1 _).mono ?_
        rintro _ _ ⟨rfl, rfl⟩
        refine ⟨_, rfl, sd, ?_⟩
        simp only [Z1,Z2,Z3,Z4]
        refine ZT 4 (some 127) (.bool false) sd ?_
        simp only [Z1,Z2,Z3,Z4]
        refine ZN 5 (some 128) sd ?_
        simp only [Z1,Z2,Z3,Z4]
        refine ZN 6 (some 129) sd ?_
        simp only [Z1,Z2,Z3,Z4]
        refine ZN 7 (some 130) sd ?_
        simp only [Z1,Z2,Z3,Z4]
        refine ZT 8 (some 131) (.bool false) sd ?_
        simp only [Z1,Z2,Z3,Z4]
        refine wpAnyH_ready (rs := [9]) (by kernel_rfl) (by simp) ?_
        refine aSkip 9 none (by kernel_rfl) (by kernel_rfl) (by kernel_rfl) (run_skip_by (Instr.storeAt 101 (.pointer (some ⟨w.heap.size + 1 + 1, 0, none⟩)) (.agg #[.int .i64 ol, .int .i64 ow, .int .i64 or])) (by kernel_rfl) stB) sB ?_ ?_
        · simp only [Act.put]
          refine ZT 10 (some 5) (.bool false) sB ?_
          simp only [Z1,Z2,Z3,Z4]
          refine wpAnyH_done (by kernel_rfl) ?_ _
          refine hK17 _ _ (wp_ret ?_)
          show bodyPost Tryz.prog Tryz.f54 _ Exit.ret _ _
          refine bodyPost_ret (by simp [results, Tryz.results54, go_sem, z0, z1, z2]; try rfl) rfl ?_
          exact ⟨by rw [HB.out]; rfl, HU.out⟩
        exact AllReadyH.nil
      exact AllReadyH.nil
    | true =>
      refine ZU 0 (some 123) (.agg #[.int .i64 ol, .int .i64 ow, .int .i64 or]) (fun _ hS => run_by (Instr.loadAt 101 (.pointer (some ⟨D, 0, none⟩))) (by kernel_rfl) (ld31 hS)) sd ?_
      simp only [Z1,Z2,Z3,Z4]
      refine ZT 1 (some 124) (.pointer (some ⟨D, 0, none⟩)) sd ?_
      simp only [Z1,Z2,Z3,Z4]
      refine ZU 2 (some 125) (.int .i64 ol) (fun _ hS => run_by (Instr.loadAt 2 (.pointer (some ⟨D, 0, none⟩))) (by kernel_rfl) (ldk0 hS)) sd ?_
      simp only [Z1,Z2,Z3,Z4]
      refine wpAnyH_ready (rs := [3]) (by kernel_rfl) (by simp) ?_
      refine aCall 3 (some 126) 52 #[.int .i64 ol] (by kernel_rfl) (by kernel_rfl) (by kernel_rfl) (by kernel_rfl) ?_ ?_
      · refine (f1 _).mono ?_
        rintro _ _ ⟨rfl, rfl⟩
        refine ⟨_, rfl, sd, ?_⟩
        simp only [Z1,Z2,Z3,Z4]
        refine ZT 4 (some 127) (.bool true) sd ?_
        simp only [Z1,Z2,Z3,Z4]
        refine ZT 5 (some 128) (.pointer (some ⟨D, 2, none⟩)) sd ?_
        simp only [Z1,Z2,Z3,Z4]
        refine ZU 6 (some 129) (.int .i64 or) (fun _ hS => run_by (Instr.loadAt 2 (.pointer (some ⟨D, 2, none⟩))) (by kernel_rfl) (ldk2 hS)) sd ?_
        simp only [Z1,Z2,Z3,Z4]
        refine wpAnyH_ready (rs := [7]) (by kernel_rfl) (by simp) ?_
        refine aCall 7 (some 130) 52 #[.int .i64 or] (by kernel_rfl) (by kernel_rfl) (by kernel_rfl) (by kernel_rfl) ?_ ?_
        · refine (f2 _).mono ?_
          rintro _ _ ⟨rfl, rfl⟩
          refine ⟨_, rfl, sd, ?_⟩
          simp only [Z1,Z2,Z3,Z4]
          refine ZT 8 (some 131) (.bool t2) sd ?_
          simp only [Z1,Z2,Z3,Z4]
          refine wpAnyH_ready (rs := [9]) (by kernel_rfl) (by simp) ?_
          refine aSkip 9 none (by kernel_rfl) (by kernel_rfl) (by kernel_rfl) (run_skip_by (Instr.storeAt 101 (.pointer (some ⟨w.heap.size + 1 + 1, 0, none⟩)) (.agg #[.int .i64 ol, .int .i64 ow, .int .i64 or])) (by kernel_rfl) stB) sB ?_ ?_
          · simp only [Act.put]
            refine ZT 10 (some 5) (.bool t2) sB ?_
            simp only [Z1,Z2,Z3,Z4]
            refine wpAnyH_done (by kernel_rfl) ?_ _
            refine hK17 _ _ (wp_ret ?_)
            show bodyPost Tryz.prog Tryz.f54 _ Exit.ret _ _
            refine bodyPost_ret (by simp [results, Tryz.results54, go_sem, z0, z1, z2]; try rfl) rfl ?_
            exact ⟨by rw [HB.out]; rfl, HU.out⟩
          exact AllReadyH.nil
        exact AllReadyH.nil
      exact AllReadyH.nil
end Go.Proofs.YtngeaigkafamiaaGreat

