/- Margins that meet, as mathematics, and the contract of the reference's All; no conditions beyond those written in each theorem. -/
import Derived.Test.YtmmekemklcogmaaArgs
namespace Go.Proofs.Ytmmekemklcogmaa
open Go.ChangeShapes Go.WideShapes Go.ChangeAt Go.RowKit
set_option maxRecDepth 100000
set_option linter.unusedVariables false
/-- The greatest above 0, the least below it. -/
def mx : List Int → Int
  | [] => 0
  | x :: r => max x (mx r)
def mn : List Int → Int
  | [] => 0
  | x :: r => min x (mn r)
theorem mx_pos (l : List Int) : 0 ≤ mx l := by
  induction l with
  | nil => exact Int.le_refl _
  | cons x r ih => simp only [mx]; omega
theorem mn_neg (l : List Int) : mn l ≤ 0 := by
  induction l with
  | nil => exact Int.le_refl _
  | cons x r ih => simp only [mn]; omega
theorem mx_append (a b : List Int) : mx (a ++ b) = max (mx a) (mx b) := by
  have hb := mx_pos b
  induction a with
  | nil => simp only [List.nil_append, mx]; omega
  | cons x r ih => simp only [List.cons_append, mx, ih]; omega
theorem mn_append (a b : List Int) : mn (a ++ b) = min (mn a) (mn b) := by
  have hb := mn_neg b
  induction a with
  | nil => simp only [List.nil_append, mn]; omega
  | cons x r ih => simp only [List.cons_append, mn, ih]; omega
def allS (l : List Int) : St := ⟨mx l, mn l⟩
theorem all_append (a b : List Int) : allS (a ++ b) = joinS (allS a) (allS b) := by
  unfold allS joinS
  rw [mx_append, mn_append]
theorem all_one (m : Int) : allS [m] = ofM m := rfl
theorem joinS_comm (a b : St) : joinS b a = joinS a b := by
  unfold joinS
  rw [show max b.p a.p = max a.p b.p by omega, show min b.n a.n = min a.n b.n by omega]
theorem take_one {zs : List Int} {k : Nat} (h : k < zs.length) : zs.take (k + 1) = zs.take k ++ [zat zs k] := by
  rw [List.take_succ_eq_append_getElem h, zat_eq h]
theorem mx_next {zs : List Int} {k : Nat} (h : k < zs.length) : mx (zs.take (k + 1)) = max (mx (zs.take k)) (zat zs k) := by
  have := mx_pos (zs.take k)
  rw [take_one h, mx_append]
  simp only [mx]; omega
theorem mn_next {zs : List Int} {k : Nat} (h : k < zs.length) : mn (zs.take (k + 1)) = min (mn (zs.take k)) (zat zs k) := by
  have := mn_neg (zs.take k)
  rw [take_one h, mn_append]
  simp only [mn]; omega
theorem Blk.int2 {w : World} {B : Nat} {a b c d : Int} {t : TypeId} (h : Blk w B [.int .i64 a, .int .i64 b] t) (h1 : a = c) (h2 : b = d) : Blk w B [.int .i64 c, .int .i64 d] t := by
  subst h1 h2; exact h
theorem heap_drewN (w : World) (n : Nat) : (w.drewN n).heap = w.heap := by
  induction n with
  | zero => rfl
  | succ n ih => exact ih
theorem Blk.drewN {w : World} {B : Nat} {l : List Value} {t : TypeId} (h : Blk w B l t) (n : Nat) : Blk (w.drewN n) B l t := by
  unfold Blk; rw [heap_drewN]; exact h
theorem below_drewN {b : Nat} {w v : World} (h : Below b w v) (n : Nat) : Below b w (v.drewN n) := by
  induction n with
  | zero => exact h
  | succ n ih => exact ih.drew
theorem refAll_any (q : Row) (w : World) (h : okR w q) (hn : q.n ≤ 4000) :
    Calls Try.prog 9 #[.slice q.a q.n q.c] w fun e w' => e = .returned (.agg #[.int .i64 (allS q.zs).p, .int .i64 (allS q.zs).n]) ∧ Below w.heap.size w w' := by
  obtain ⟨a, n, c, zs⟩ := q
  obtain ⟨⟨hl, hc⟩, hreach⟩ := h
  simp only at hl hc hreach hn
  have HL := Lib.hid hl
  have HC := Lib.hid hc
  have HR := Lib.hid hreach
  have HS := Lib.hid (show allS zs = ⟨mx zs, mn zs⟩ from rfl)
  clear hl hc hreach
  obtain ⟨W, hW⟩ : ∃ W, W = (w.alloc (.cells #[.int .i64 0, .int .i64 0] 28)).alloc (.cells #[.int .i64 0, .int .i64 0] 28) := ⟨_, rfl⟩
  have kR : Blk W w.heap.size [.int .i64 0, .int .i64 0] 28 := by rw [hW]; exact (Blk.new w _ _).alloc _
  have kX : Blk W (w.heap.size + 1) [.int .i64 0, .int .i64 0] 28 := by rw [hW]; simpa using Blk.new (w.alloc (.cells #[.int .i64 0, .int .i64 0] 28)) [.int .i64 0, .int .i64 0] 28
  have hB : Below w.heap.size w W := by rw [hW]; go_grown
  have KR := Lib.hid kR
  have KX := Lib.hid kX
  have HB := Lib.hid hB
  clear kR kX hB
  go_enter Try.func9, Try.ntmps9
  go_wp2_with fail
  rw [← hW]
  clear hW
  go_loopw [7] (fun i wr => ∃ k : Nat, k ≤ n ∧ i = .int .i64 k ∧ Blk wr w.heap.size [.int .i64 0, .int .i64 0] 28 ∧ Blk wr (w.heap.size + 1) [.int .i64 (mx (zs.take k)), .int .i64 (mn (zs.take k))] 28 ∧ Below w.heap.size w wr) (fun i _ => n - (intOf i).toNat)
  case atStart => exact ⟨0, Nat.zero_le _, rfl, KR.out, KX.out, HB.out⟩
  case round =>
    clear KR KX HB
    obtain ⟨k, hk, rfl, kR, kX, hbel⟩ := hrel
    have KR := Lib.hid kR
    have HB := Lib.hid hbel
    by_cases hkn : k < n
    · obtain ⟨b, off, rfl, hcell⟩ := HC.out (by omega)
      have hb := HR.out b off rfl (by omega)
      have hck := (hbel.cell hb).trans (hcell k hkn)
      have HN := Lib.hid (mx_next (k := k) (by rw [HL.out]; exact hkn))
      have HM := Lib.hid (mn_next (k := k) (by rw [HL.out]; exact hkn))
      obtain ⟨P, hP⟩ : ∃ P, mx (zs.take k) = P := ⟨_, rfl⟩
      obtain ⟨M, hM⟩ : ∃ M, mn (zs.take k) = M := ⟨_, rfl⟩
      obtain ⟨z, hz⟩ : ∃ z, zat zs k = z := ⟨_, rfl⟩
      rw [hP] at kX HN
      rw [hM] at kX HM
      rw [hz] at HN HM hck
      have hP0 := hP
      have hM0 := hM
      clear hP hM hz hcell hbel kR
      have HCK := Lib.hid hck
      have KX := Lib.hid kX
      have c0 : wr.cell? ⟨w.heap.size + 1, 0, none⟩ = some (.int .i64 P) := kX.cell 0
      have c1 : wr.cell? ⟨w.heap.size + 1, 1, none⟩ = some (.int .i64 M) := kX.cell 1
      have fr : ∀ o, wr.frozen? ⟨w.heap.size + 1, o, none⟩ = false := kX.free
      clear kX
      have hPM : 0 ≤ P ∧ M ≤ 0 := by rw [← hP0, ← hM0]; exact ⟨mx_pos _, mn_neg _⟩
      clear hP0 hM0
      by_cases h1 : P < z
      · have h2 : ¬ z < M := by omega
        go_wp2_with fail
        go_quiet (fail)
        go_wp2_with fail
        obtain ⟨V, hV⟩ : ∃ V, V = (wr.drewN nq).setCell ⟨w.heap.size + 1, 0, none⟩ (.int .i64 z) := ⟨_, rfl⟩
        have kV : Blk V (w.heap.size + 1) [.int .i64 z, .int .i64 M] 28 := by rw [hV]; exact (KX.out.drewN nq).set 0 _
        have rV : Hid (Blk V w.heap.size [.int .i64 0, .int .i64 0] 28) := by rw [hV]; exact (KR.out.drewN nq).other (by simp) _
        have bV : Below w.heap.size w V := by rw [hV]; exact (below_drewN HB.out nq).setCell (by simp) _
        have hck2 : V.cell? ⟨b, off + k, none⟩ = some (.int .i64 z) := (bV.cell hb).trans ((HB.out.cell hb).symm.trans HCK.out)
        have d1 : V.cell? ⟨w.heap.size + 1, 1, none⟩ = some (.int .i64 M) := kV.cell 1
        rw [← hV]
        have BV := Lib.hid bV
        have KV := Lib.hid kV
        clear hV kV bV c0 c1 fr hck
        go_quiet (fail)
        go_wp2_with fail
        go_roundw
        case rel => exact ⟨k + 1, by omega, by go_num, rV.out.drewN _, (KV.out.drewN _).int2 (by rw [HN.out]; omega) (by rw [HM.out]; omega), below_drewN BV.out _⟩
        case measure => simp [intOf]; omega
      · by_cases h2 : z < M
        · go_wp2_with fail
          go_quiet (fail)
          go_wp2_with fail
          go_quiet (fail)
          go_wp2_with fail
          go_roundw
          case rel => exact ⟨k + 1, by omega, by go_num, (KR.out.drewN _).other (by simp) _, ((KX.out.drewN _).set 1 _).int2 (by rw [HN.out]; omega) (by rw [HM.out]; omega), (below_drewN HB.out _).setCell (by simp) _⟩
          case measure => simp [intOf]; omega
        · go_wp2_with fail
          go_quiet (fail)
          go_wp2_with fail
          go_quiet (fail)
          go_wp2_with fail
          go_roundw
          case rel => exact ⟨k + 1, by omega, by go_num, KR.out.drewN _, (KX.out.drewN _).int2 (by rw [HN.out]; omega) (by rw [HM.out]; omega), below_drewN HB.out _⟩
          case measure => simp [intOf]; omega
    · have hke : zs.take k = zs := List.take_of_length_le (by rw [HL.out]; omega)
      rw [hke] at kX
      clear hke hbel kR
      have KX := Lib.hid kX
      have c0 : wr.cell? ⟨w.heap.size + 1, 0, none⟩ = some (.int .i64 (mx zs)) := kX.cell 0
      have c1 : wr.cell? ⟨w.heap.size + 1, 1, none⟩ = some (.int .i64 (mn zs)) := kX.cell 1
      clear kX
      obtain ⟨P, hP⟩ : ∃ P, mx zs = P := ⟨_, rfl⟩
      obtain ⟨M, hM⟩ : ∃ M, mn zs = M := ⟨_, rfl⟩
      rw [hP] at c0 HS
      rw [hM] at c1 HS
      have f0 : ∀ o, wr.frozen? ⟨w.heap.size, o, none⟩ = false := KR.out.free
      have r0 : wr.cell? ⟨w.heap.size, 0, none⟩ = some (.int .i64 0) := KR.out.cell 0
      have r1 : wr.cell? ⟨w.heap.size, 1, none⟩ = some (.int .i64 0) := KR.out.cell 1
      clear hP hM
      go_wp2_with fail
      have zz := (KR.out.set 0 (.int .i64 P)).set 1 (.int .i64 M)
      have g0 := zz.cell 0
      have g1 := zz.cell 1
      refine bodyPost_ret (by simp [results, Try.results9, go_sem, g0, g1]; try rfl) rfl ?_
      exact ⟨by rw [HS.out], (HB.out.setCell (by simp) _).setCell (by simp) _⟩
end Go.Proofs.Ytmmekemklcogmaa
