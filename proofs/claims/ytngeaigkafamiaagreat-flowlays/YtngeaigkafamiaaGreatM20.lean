/- Texts of the proof, merged: FRa. -/
import Derived.Test.YtngeaigkafamiaaGreatM6
import Derived.Test.YtngeaigkafamiaaGreatM5
import Derived.Deep.DeepCutAuto
namespace Go.Proofs.YtngeaigkafamiaaGreat
open Go.ChangeShapes Go.WideShapes Go.ChangeAt Go.RowKit
set_option maxRecDepth 100000
set_option maxHeartbeats 1000000 in
theorem refAll_any (a : Option Addr) (n c : Nat) (zs : List Int) (w : World) (h : ZI w a n zs ∧ ∀ b off, a = some ⟨b, off, none⟩ → 0 < n → b < w.heap.size) (hn : n ≤ 4000) :
    Calls Tryz.prog 59 #[.slice a n c] w fun e w' => e = .returned (.agg #[.int .i64 (allS zs).p, .int .i64 (allS zs).n]) ∧ Below w.heap.size w w' := by
  obtain ⟨⟨hl, hc⟩, hreach⟩ := h
  have HL := Lib.hid hl
  have HC := Lib.hid hc
  have HR := Lib.hid hreach
  have HS := Lib.hid (show allS zs = ⟨mx zs, mn zs⟩ from rfl)
  clear hl hc hreach
  obtain ⟨W, hW⟩ : ∃ W, W = (w.alloc (.cells #[.int .i64 0, .int .i64 0] 46)).alloc (.cells #[.int .i64 0, .int .i64 0] 46) := ⟨_, rfl⟩
  have kR : Blk W w.heap.size [.int .i64 0, .int .i64 0] 46 := by rw [hW]; exact (Blk.new w _ _).alloc _
  have kX : Blk W (w.heap.size + 1) [.int .i64 0, .int .i64 0] 46 := by rw [hW]; simpa using Blk.new (w.alloc (.cells #[.int .i64 0, .int .i64 0] 46)) [.int .i64 0, .int .i64 0] 46
  have hB : Below w.heap.size w W := by rw [hW]; go_grown
  have KR := Lib.hid kR
  have KX := Lib.hid kX
  have HB := Lib.hid hB
  clear kR kX hB
  go_enter Tryz.func59, Tryz.ntmps59
  go_wp2_with fail
  rw [← hW]
  clear hW
  go_loopw [7] (fun i wr => ∃ k : Nat, k ≤ n ∧ i = .int .i64 k ∧ Blk wr w.heap.size [.int .i64 0, .int .i64 0] 46 ∧ Blk wr (w.heap.size + 1) [.int .i64 (mx (zs.take k)), .int .i64 (mn (zs.take k))] 46 ∧ Below w.heap.size w wr) (fun i _ => n - (intOf i).toNat)
  case atStart => exact ⟨0, Nat.zero_le _, rfl, KR.out, KX.out, HB.out⟩
  case round =>
    clear KR KX HB
    obtain ⟨k, hk, rfl, kR, kX, hbel⟩ := hrel
    have KR := Lib.hid kR
    have HB := Lib.hid hbel
    by_cases hkn : k < n
    · obtain ⟨b, off, rfl, hcell⟩ := HC.out (by omega)
      have hb := HR.out b off rfl (by omega)
      have hck := (hbel.cell hb).trans (hcell k hkn)
      have HN := Lib.hid (mx_next (k := k) (by rw [HL.out]; exact hkn))
      have HM := Lib.hid (mn_next (k := k) (by rw [HL.out]; exact hkn))
      obtain ⟨P, hP⟩ : ∃ P, mx (zs.take k) = P := ⟨_, rfl⟩
      obtain ⟨M, hM⟩ : ∃ M, mn (zs.take k) = M := ⟨_, rfl⟩
      obtain ⟨z, hz⟩ : ∃ z, zat zs k = z := ⟨_, rfl⟩
      rw [hP] at kX HN
      rw [hM] at kX HM
      rw [hz] at HN HM hck
      have hP0 := hP
      have hM0 := hM
      clear hP hM hz hcell hbel kR
      have HCK := Lib.hid hck
      have KX := Lib.hid kX
      have c0 : wr.cell? ⟨w.heap.size + 1, 0, none⟩ = some (.int .i64 P) := kX.cell 0
      have c1 : wr.cell? ⟨w.heap.size + 1, 1, none⟩ = some (.int .i64 M) := kX.cell 1
      have fr : ∀ o, wr.frozen? ⟨w.heap.size + 1, o, none⟩ = false := kX.free
      clear kX
      have hPM : 0 ≤ P ∧ M ≤ 0 := by rw [← hP0, ← hM0]; exact ⟨mx_pos _, mn_neg _⟩
      clear hP0 hM0
      by_cases h1 : P < z
      · have h2 : ¬ z < M := by omega
        go_wp2_with fail
        go_quiet (fail)
        go_wp2_with fail
        obtain ⟨V, hV⟩ : ∃ V, V = (wr.drewN nq).setCell ⟨w.heap.size + 1, 0, none⟩ (.int .i64 z) := ⟨_, rfl⟩
        have kV : Blk V (w.heap.size + 1) [.int .i64 z, .int .i64 M] 46 := by rw [hV]; exact (KX.out.drewN nq).set 0 _
        have rV : Hid (Blk V w.heap.size [.int .i64 0, .int .i64 0] 46) := by rw [hV]; exact (KR.out.drewN nq).other (by simp) _
        have bV : Below w.heap.size w V := by rw [hV]; exact (below_drewN HB.out nq).setCell (by simp) _
        have hck2 : V.cell? ⟨b, off + k, none⟩ = some (.int .i64 z) := (bV.cell hb).trans ((HB.out.cell hb).symm.trans HCK.out)
        have d1 : V.cell? ⟨w.heap.size + 1, 1, none⟩ = some (.int .i64 M) := kV.cell 1
        rw [← hV]
        have BV := Lib.hid bV
        have KV := Lib.hid kV
        clear hV kV bV c0 c1 fr hck
        go_quiet (fail)
        go_wp2_with fail
        go_roundw
        case rel => exact ⟨k + 1, by omega, by go_num, rV.out.drewN _, (KV.out.drewN _).int2 (by rw [HN.out]; omega) (by rw [HM.out]; omega), below_drewN BV.out _⟩
        case measure => simp [intOf]; omega
      · by_cases h2 : z < M
        · go_wp2_with fail
          go_quiet (fail)
          go_wp2_with fail
          go_quiet (fail)
          go_wp2_with fail
          go_roundw
          case rel => exact ⟨k + 1, by omega, by go_num, (KR.out.drewN _).other (by simp) _, ((KX.out.drewN _).set 1 _).int2 (by rw [HN.out]; omega) (by rw [HM.out]; omega), (below_drewN HB.out _).setCell (by simp) _⟩
          case measure => simp [intOf]; omega
        · go_wp2_with fail
          go_quiet (fail)
          go_wp2_with fail
          go_quiet (fail)
          go_wp2_with fail
          go_roundw
          case rel => exact ⟨k + 1, by omega, by go_num, KR.out.drewN _, (KX.out.drewN _).int2 (by rw [HN.out]; omega) (by rw [HM.out]; omega), below_drewN HB.out _⟩
          case measure => simp [intOf]; omega
    · have hke : zs.take k = zs := List.take_of_length_le (by rw [HL.out]; omega)
      rw [hke] at kX
      clear hke hbel kR
      have KX := Lib.hid kX
      have c0 : wr.cell? ⟨w.heap.size + 1, 0, none⟩ = some (.int .i64 (mx zs)) := kX.cell 0
      have c1 : wr.cell? ⟨w.heap.size + 1, 1, none⟩ = some (.int .i64 (mn zs)) := kX.cell 1
      clear kX
      obtain ⟨P, hP⟩ : ∃ P, mx zs = P := ⟨_, rfl⟩
      obtain ⟨M, hM⟩ : ∃ M, mn zs = M := ⟨_, rfl⟩
      rw [hP] at c0 HS
      rw [hM] at c1 HS
      have f0 : ∀ o, wr.frozen? ⟨w.heap.size, o, none⟩ = false := KR.out.free
      have r0 : wr.cell? ⟨w.heap.size, 0, none⟩ = some (.int .i64 0) := KR.out.cell 0
      have r1 : wr.cell? ⟨w.heap.size, 1, none⟩ = some (.int .i64 0) := KR.out.cell 1
      clear hP hM
      go_wp2_with fail
      have zz := (KR.out.set 0 (.int .i64 P)).set 1 (.int .i64 M)
      have g0 := zz.cell 0
      have g1 := zz.cell 1
      refine bodyPost_ret (by simp [results, Tryz.results59, go_sem, g0, g1]; try rfl) rfl ?_
      exact ⟨by rw [HS.out], (HB.out.setCell (by simp) _).setCell (by simp) _⟩
theorem refAll1 (m : Int) (W : World) : Calls Tryz.prog 59 #[.slice (some ⟨W.heap.size, 0, none⟩) 1 1] (W.alloc (.cells #[.int .i64 m] 2)) fun e w' => e = .returned (.agg #[.int .i64 (ofM m).p, .int .i64 (ofM m).n]) ∧ Seen W w' := by
  have k : Blk (W.alloc (.cells #[.int .i64 m] 2)) W.heap.size [.int .i64 m] 2 := Blk.new W _ _
  have h : ZI (W.alloc (.cells #[.int .i64 m] 2)) (some ⟨W.heap.size, 0, none⟩) 1 [m] := ⟨rfl, fun _ => ⟨_, _, rfl, fun i hi => by obtain rfl : i = 0 := by omega
                                                                                                                                   exact k.cell 0⟩⟩
  refine (refAll_any _ 1 1 [m] _ ⟨h, fun b off e _ => by cases e; exact k.lt⟩ (by decide)).mono fun e w' hh => ⟨hh.1.trans (by rw [all_one]), ((Seen.refl W).alloc _).next hh.2⟩
end Go.Proofs.YtngeaigkafamiaaGreat

