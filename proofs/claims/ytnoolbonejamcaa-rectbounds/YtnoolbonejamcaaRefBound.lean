/- Contract of Bound's reference twin. -/
import Derived.Test.YtnoolbonejamcaaBoundDefs
namespace Go.Proofs.Ytnoolbonejamcaa
open Go.ChangeShapes Go.WideShapes Go.ChangeAt Go.RowKit
set_option maxHeartbeats 8000000 in
theorem refBound_any (ad : Option Addr) (n c : Nat) (rs : List R4) (w : World) (h : RS w ad n rs) (hn : n ≤ 4000) :
    Calls Try.prog 19 #[.slice ad n c] w fun e w' => e = .returned (.agg #[.int .i64 (boundL rs).x0, .int .i64 (boundL rs).y0, .int .i64 (boundL rs).x1, .int .i64 (boundL rs).y1]) ∧ Below w.heap.size w w' := by
  have HR := Lib.hid h
  clear h
  have hmx := ite_max
  have hmn := ite_min
  go_enter Try.func19, Try.ntmps19
  go_wp2_with fail
  go_loopw [4, 9] (fun sm i wr => ∃ k : Nat, k ≤ n ∧ i = .int .i64 k ∧ sm = .bool (!emptyB (boundL (rs.take k))) ∧ Own4 wr (w.heap.size + 1) (boundL (rs.take k)) ∧ Own4 wr w.heap.size ⟨0, 0, 0, 0⟩ ∧ Seen w wr) (fun _ i _ => n - (intOf i).toNat)
  case atStart =>
    refine ⟨0, Nat.zero_le _, rfl, rfl, ?_, ?_, ?_⟩
    · show Own4 _ (w.heap.size + 1) ⟨0, 0, 0, 0⟩
      simpa using Own4.new (w.alloc (.cells #[.int .i64 0, .int .i64 0, .int .i64 0, .int .i64 0] 23)) ⟨0, 0, 0, 0⟩
    · exact (Own4.new w ⟨0, 0, 0, 0⟩).seen ((Seen.refl _).alloc _)
    · exact ((Seen.refl w).alloc _).alloc _
  case round =>
    obtain ⟨k, hk, rfl, hsm0, ho3, ho2, hs⟩ := hrel
    by_cases hlt : k < n
    · obtain ⟨b1, o1, rfl, hc1⟩ := HR.out.2 (by omega)
      obtain ⟨p0, p1, p2, p3⟩ := hs.at4 (hc1 k hlt)
      clear hc1
      have HSM := Lib.hid hsm0
      clear hsm0
      obtain ⟨W, hW⟩ : ∃ W, W = wr.alloc (.cells #[.int .i64 (rat rs k).x0, .int .i64 (rat rs k).y0, .int .i64 (rat rs k).x1, .int .i64 (rat rs k).y1] 23) := ⟨_, rfl⟩
      have hsW : Seen wr W := by rw [hW]; exact (Seen.refl _).alloc _
      have HO3 := Lib.hid (ho3.seen hsW)
      have HO2 := Lib.hid (ho2.seen hsW)
      have HO5 : Hid (Own4 W wr.heap.size (rat rs k)) := by unfold Hid; rw [hW]; exact Own4.new wr _
      have hne : ¬ wr.heap.size = w.heap.size + 1 := by have := ho3.lt; omega
      have r5 := Own4.rules HO5.out
      have r3 := Own4.rules HO3.out
      have HSW := Lib.hid (hs.trans hsW)
      have HW : Hid (W = wr.alloc (.cells #[.int .i64 (rat rs k).x0, .int .i64 (rat rs k).y0, .int .i64 (rat rs k).x1, .int .i64 (rat rs k).y1] 23)) := hW
      have HK : Hid (boundL (rs.take (k + 1)) = bstep (boundL (rs.take k)) (rat rs k)) := bound_step (by rw [HR.out.1]; exact hlt)
      clear hW hsW ho3 ho2 hs
      go_wp2_with fail
      rw [← HW.out]
      clear HW p0 p1 p2 p3
      rcases Bool.eq_false_or_eq_true (emptyB (rat rs k)) with he | he
      · have HE := Lib.hid he
        clear he
        refine (isB (refEmpty_any (rat rs k) _) HE.out).mono ?_
        rintro e wC ⟨rfl, hwC⟩
        have swC : Seen W wC := hwC
        clear hwC
        go_wp2_with fail
        go_roundw
        case rel =>
          refine ⟨k + 1, by omega, by go_num, ?_, ?_, ?_, ?_⟩
          · rw [HK.out, bstep_t HE.out]; exact HSM.out
          · rw [HK.out, bstep_t HE.out]; exact HO3.out.seen swC
          · exact HO2.out.seen swC
          · exact HSW.out.trans swC
        case measure => simp [intOf]; omega
      · have HE := Lib.hid he
        clear he
        rcases Bool.eq_false_or_eq_true (emptyB (boundL (rs.take k))) with ha | ha
        · have HA := Lib.hid ha
          have hsm : u4 = .bool false := by rw [HSM.out, ha]; rfl
          subst hsm
          clear ha HSM
          refine (isB (refEmpty_any (rat rs k) _) HE.out).mono ?_
          rintro e wC ⟨rfl, hwC⟩
          have swC : Seen W wC := hwC
          clear hwC
          go_wp2_with fail
          go_roundw
          case rel =>
            refine ⟨k + 1, by omega, by go_num, ?_, ?_, ?_, ?_⟩
            · rw [HK.out, bstep_no HE.out]; rfl
            · rw [HK.out, bstep_ft HE.out HA.out]; exact ((HO3.out.seen swC).set (rat rs k)).set (rat rs k)
            · exact (Own4.other (Own4.other (Own4.other (Own4.other (Own4.other (Own4.other (Own4.other (Own4.other (HO2.out.seen swC) (by simp) _) (by simp) _) (by simp) _) (by simp) _) (by simp) _) (by simp) _) (by simp) _) (by simp) _)
            · exact (Below.setCell (Below.setCell (Below.setCell (Below.setCell (Below.setCell (Below.setCell (Below.setCell (Below.setCell (HSW.out.trans swC) (by simp) _) (by simp) _) (by simp) _) (by simp) _) (by simp) _) (by simp) _) (by simp) _) (by simp) _)
          case measure => simp [intOf]; omega
        · have HA := Lib.hid ha
          have hsm : u4 = .bool true := by rw [HSM.out, ha]; rfl
          subst hsm
          clear ha HSM
          refine (isB (refEmpty_any (rat rs k) _) HE.out).mono ?_
          rintro e wC ⟨rfl, hwC⟩
          have swC : Seen W wC := hwC
          clear hwC
          go_wp2_with fail
          go_roundw
          case rel =>
            refine ⟨k + 1, by omega, by go_num, ?_, ?_, ?_, ?_⟩
            · rw [HK.out, bstep_no HE.out]; rfl
            · rw [HK.out, bstep_ff HE.out HA.out]; exact (HO3.out.seen swC).set (spanR (boundL (rs.take k)) (rat rs k))
            · exact (Own4.other (Own4.other (Own4.other (Own4.other (HO2.out.seen swC) (by simp) _) (by simp) _) (by simp) _) (by simp) _)
            · exact (Below.setCell (Below.setCell (Below.setCell (Below.setCell (HSW.out.trans swC) (by simp) _) (by simp) _) (by simp) _) (by simp) _)
          case measure => simp [intOf]; omega
    · have hE : boundL (rs.take k) = boundL rs := by rw [List.take_of_length_le (by rw [HR.out.1]; omega)]
      rw [hE] at ho3
      clear hE hsm0
      have r3 := Own4.rules ho3
      have r2 := Own4.rules ho2
      have sr := Seen.refl wr
      have HO3 := Lib.hid ho3
      have HO2 := Lib.hid ho2
      have HS := Lib.hid hs
      clear ho3 ho2 hs
      go_wp2_with fail
      have q2 := r2 wr sr
      refine bodyPost_ret (v := .agg #[.int .i64 (boundL rs).x0, .int .i64 (boundL rs).y0, .int .i64 (boundL rs).x1, .int .i64 (boundL rs).y1]) (by simp [results, Try.results19, go_sem, q2]) rfl ⟨rfl, (Below.setCell (Below.setCell (Below.setCell (Below.setCell HS.out (by simp) _) (by simp) _) (by simp) _) (by simp) _)⟩
end Go.Proofs.Ytnoolbonejamcaa
