/- Contracts of the reference's eight and Bytes; no conditions beyond those written in each theorem. -/
import Derived.Test.YthphmhcgnkoigaaRef
import Derived.Test.YthphmhcgnkoigaaStyMem
import Derived.Deep.DeepCutAuto
namespace Go.Proofs.Ythphmhcgnkoigaa
open Go.ChangeShapes Go.WideShapes Go.ChangeAt Go.RowKit
set_option maxRecDepth 100000
theorem eight_any (v : Int) (w : World) : Calls Try.prog 39 #[.int .i64 v] w (RowPost (e8 v) w) := by
  go_enter Try.func39, Try.ntmps39
  go_wp2_with (go_at_call 19; refine (number_any 8 _ _ (by rw [IntKind.wrap_u64]; omega) (by rw [IntKind.wrap_u64]; omega) (by omega)).mono ?_; rintro _ w1 ⟨⟨v1, rfl, ho1⟩, hs1⟩; rw [IntKind.wrap_u64] at ho1; have HR := Lib.hid (And.intro ho1 hs1); clear ho1 hs1)
  go_ret
  exact ⟨⟨v1, rfl, HR.out.1⟩, HR.out.2⟩
/-- The row v holds the bytes L; the blocks of V, and the block g, are as they were. -/
structure BI (V w2 : World) (g : Nat) (L : List Int) (v : Value) (wr : World) : Prop where
  seen : Seen V wr
  row : wr.ownsRow V.heap.size 5 1 v L.length (bv L)
  apart : v.ownBlock ≠ some g
  low : g < wr.heap.size
  blk : wr.heap[g]? = w2.heap[g]?
section
variable {V w2 wr w' : World} {g : Nat} {L M : List Int} {v v' : Value}
theorem BI.next (h : BI V w2 g L v wr) (hs : Seen wr w') : BI V w2 g L v w' :=
  ⟨h.seen.trans hs, row_seen h.row hs, h.apart, Nat.lt_of_lt_of_le h.low hs.size, (hs.block g h.low).trans h.blk⟩
theorem BI.grow (h : BI V w2 g L v wr) (hr : w'.ownsRow V.heap.size 5 1 v' (L.length + M.length) (bv L ++ bv M)) (hg : wr.grownBy w' v.ownBlock) (hat : v'.ownBlock = v.ownBlock ∨ v'.ownBlock = some wr.heap.size) : BI V w2 g (L ++ M) v' w' := by
  refine ⟨Below.grown h.seen hg h.seen.size (fun j hj => (h.row.lt j hj).1), by rw [List.length_append, bv_append]; exact hr, ?_, Nat.lt_of_lt_of_le h.low hg.size, (hg.block g h.low (fun e => h.apart e.symm)).trans h.blk⟩
  rcases hat with e | e
  · rw [e]; exact h.apart
  · rw [e]
    intro e2
    simp only [Option.some.injEq] at e2
    have := h.low
    omega
theorem BI.cell (h : BI V w2 g L v wr) (j : Nat) : wr.cell? ⟨g, j, none⟩ = w2.cell? ⟨g, j, none⟩ := World.cell?_of_block h.blk
end
/-- The bytes of the first k lengths, behind the first byte. -/
def outL (s : Sty) (k : Nat) : List Int := [first s % 256] ++ (s.lens.take k).flatMap encLn
theorem outL_step {s : Sty} {k : Nat} (h : k < s.lens.length) : outL s (k + 1) = outL s k ++ encLn (lat s.lens k) := by
  unfold outL
  rw [List.take_succ_eq_append_getElem h, List.flatMap_append, lat_eq h]; simp
theorem outL_len (s : Sty) {k : Nat} (h : k ≤ 18) : (outL s k).length ≤ 163 := by
  have := flat_len (f := encLn) encLn_len (s.lens.take k)
  have h2 := List.length_take_le k s.lens
  unfold outL
  rw [List.length_append, List.length_singleton]
  omega
/-- The bytes of the lengths and of the first k borders. -/
def outB (s : Sty) (k : Nat) : List Int := outL s 18 ++ (s.bord.take k).flatMap e8
theorem outB_step {s : Sty} {k : Nat} (h : k < s.bord.length) : outB s (k + 1) = outB s k ++ e8 (bat s.bord k) := by
  unfold outB
  rw [List.take_succ_eq_append_getElem h, List.flatMap_append, bat_eq h]; simp
theorem outB_len (s : Sty) {k : Nat} (h : k ≤ 4) : (outB s k).length ≤ 195 := by
  have := flat_len (f := e8) (m := 8) (fun x => by rw [e8_len]; omega) (s.bord.take k)
  have h2 := List.length_take_le k s.bord
  have h3 := outL_len s (Nat.le_refl 18)
  unfold outB
  rw [List.length_append]
  omega
theorem outB_all {s : Sty} (h : Full s) : outB s 4 ++ ((if s.hasz then e8 s.z else []) ++ (e8 s.back ++ e8 s.line)) = encS s := by
  unfold outB outL encS
  rw [List.take_of_length_le (by rw [h.lens]; omega), List.take_of_length_le (by rw [h.bord]; omega)]
  simp [List.append_assoc]
set_option maxRecDepth 100000 in
set_option maxHeartbeats 16000000 in
theorem refBytes_any (s : Sty) (hf : Full s) (hp : 0 ≤ s.pos ∧ s.pos ≤ 3) (w : World) : Calls Try.prog 21 #[sv s] w (RowPost (encS s) w) := by
  obtain ⟨i0, hi, hz0, hz1, hz2⟩ := info_parts info5
  have HF := Lib.hid hf
  clear hf
  obtain ⟨W0, hW0⟩ : ∃ W0, W0 = w.alloc (.cells (stl s).toArray 47) := ⟨_, rfl⟩
  have H0 : Hid (Hs W0 w.heap.size s) := by rw [hW0]; exact hs_new w s
  have S0 : Hid (Seen w W0) := by rw [hW0]; exact (Seen.refl w).alloc _
  obtain ⟨crtl, chasz, c44, cclip, c46, c47⟩ := H0.out.tail HF.out
  obtain ⟨cshown, c1⟩ := H0.out.head
  obtain ⟨P, hP⟩ : ∃ P, s.pos = P := ⟨_, rfl⟩
  have d1 := stl1 s
  have d0 := stl0 s
  rw [hP] at c1 hp d1
  obtain ⟨hp0, hp3⟩ := hp
  obtain ⟨F1, hF1⟩ : ∃ F1, F1 = P * 2 + bitN s.shown 1 := ⟨_, rfl⟩
  obtain ⟨F2, hF2⟩ : ∃ F2, F2 = F1 + bitN s.rtl 8 := ⟨_, rfl⟩
  obtain ⟨F3, hF3⟩ : ∃ F3, F3 = F2 + bitN s.hasz 16 := ⟨_, rfl⟩
  obtain ⟨F4, hF4⟩ : ∃ F4, F4 = F3 + bitN s.clip 32 := ⟨_, rfl⟩
  have hbit : ∀ b n, 0 ≤ n → 0 ≤ bitN b n ∧ bitN b n ≤ n := fun b n h => by cases b <;> simp [bitN, h]
  have g1 : 0 ≤ F1 ∧ F1 ≤ 7 := by have := hbit s.shown 1 (by omega); omega
  have g2 : 0 ≤ F2 ∧ F2 ≤ 15 := by have := hbit s.rtl 8 (by omega); omega
  have g3 : 0 ≤ F3 ∧ F3 ≤ 31 := by have := hbit s.hasz 16 (by omega); omega
  have HFirst : Hid (F4 = first s) := by unfold Hid first; rw [hP]; omega
  obtain ⟨g10, g11⟩ := g1
  obtain ⟨g20, g21⟩ := g2
  obtain ⟨g30, g31⟩ := g3
  have hhF1 := Lib.hid hF1
  have hhF2 := Lib.hid hF2
  have hhF3 := Lib.hid hF3
  have hhF4 := Lib.hid hF4
  clear hP hbit hF1 hF2 hF3 hF4
  have HW0 := Lib.hid hW0
  clear hW0
  obtain ⟨W1, hW1'⟩ : ∃ W1, W1 = W0.alloc (.cells #[.int .u8 (F4 % 256)] 5) := ⟨_, rfl⟩
  have hW1 : ∀ f, f = F4 → W1 = W0.alloc (.cells #[.int .u8 (f % 256)] 5) := fun f e => by rw [e]; exact hW1'
  have SW1 : Hid (Seen W0 W1) := by rw [hW1']; exact (Seen.refl W0).alloc _
  have hsz1 : Hid (W1.heap.size = W0.heap.size + 1) := by unfold Hid; rw [hW1']; simp
  have R1 : Hid (W1.ownsRow W0.heap.size 5 1 (.slice (some ⟨W0.heap.size, 0, none⟩) 1 1) 1 (bv [F4 % 256])) := by rw [hW1']; exact new_row1' W0 5 _ _ (Nat.le_refl _)
  have HW1 := Lib.hid hW1'
  clear hW1' hW1
  unfold sv
  go_enter Try.func21, Try.ntmps21
  go_upto_if 12 with fail
  rw [← HW0.out]
  clear HW0 d1 d0
  go_cut [3] (fun v wx => v = .int .i64 F1 ∧ W0 = wx)
  case first =>
    cases hb : s.shown
    all_goals
      rw [hb] at cshown
      have hB : Hid (F1 = P * 2 + bitN s.shown 1) := hhF1.out
      rw [hb] at hB
      go_wp2_with fail
      go_meet
      exact ⟨by congr 1; have := hB.out; simp [bitN] at this; omega, rfl⟩
  case rest =>
    obtain ⟨rfl, rfl⟩ := hcut
    go_upto_if 16 with fail
    go_cut [3] (fun v wx => v = .int .i64 F2 ∧ W0 = wx)
    case first =>
      cases hb : s.rtl
      all_goals
        rw [hb] at crtl
        have hB : Hid (F2 = F1 + bitN s.rtl 8) := hhF2.out
        rw [hb] at hB
        go_wp2_with fail
        go_meet
        exact ⟨by congr 1; have := hB.out; simp [bitN] at this; omega, rfl⟩
    case rest =>
      obtain ⟨rfl, rfl⟩ := hcut
      go_upto_if 20 with fail
      go_cut [3] (fun v wx => v = .int .i64 F3 ∧ W0 = wx)
      case first =>
        cases hb : s.hasz
        all_goals
          rw [hb] at chasz
          have hB : Hid (F3 = F2 + bitN s.hasz 16) := hhF3.out
          rw [hb] at hB
          go_wp2_with fail
          go_meet
          exact ⟨by congr 1; have := hB.out; simp [bitN] at this; omega, rfl⟩
      case rest =>
        obtain ⟨rfl, rfl⟩ := hcut
        go_upto_if 24 with fail
        go_cut [3] (fun v wx => v = .int .i64 F4 ∧ W0 = wx)
        case first =>
          cases hb : s.clip
          all_goals
            rw [hb] at cclip
            have hB : Hid (F4 = F3 + bitN s.clip 32) := hhF4.out
            rw [hb] at hB
            go_wp2_with fail
            go_meet
            exact ⟨by congr 1; have := hB.out; simp [bitN] at this; omega, rfl⟩
        case rest =>
          obtain ⟨rfl, rfl⟩ := hcut
          clear crtl cclip cshown c1 c44 c46 c47 hhF1 hhF2 hhF3 hhF4 g10 g11 g20 g21 g30 g31 hp0 hp3
          go_wp2_with (first
            | (rw [← HW1.out]; refine wpList_loadS rfl _ rfl w.heap.size s rfl HF.out (H0.out.seen SW1.out) ?_)
            | (go_at_call 38; refine (refLens_any s HF.out _).mono ?_; rintro _ w2 ⟨⟨v2, rfl, ho2⟩, hs2⟩; rw [HF.out.lens] at ho2; obtain ⟨g, c, rfl, hg, hcell⟩ := rowL_at ho2 HF.out.lens (by omega)
               have hgl := (ho2.lt g rfl).2
               have S2 : Hid (Seen W1 w2) := hs2
               have HG : Hid (g < w2.heap.size ∧ W1.heap.size ≤ g) := ⟨hgl, hg⟩
               have HC : Hid (∀ i, i < 18 → w2.cell? ⟨g, i * 2, none⟩ = some (.int .i64 (lat s.lens i).k) ∧ w2.cell? ⟨g, i * 2 + 1, none⟩ = some (.int .i64 (lat s.lens i).n)) := fun i hi => hcell i hi w2 (Seen.refl w2)
               clear ho2 hs2 hcell hg hgl))
          go_loopw [4, 34] (fun v i wr => ∃ k : Nat, k ≤ 18 ∧ i = .int .i64 k ∧ BI W0 w2 g (outL s k) v wr) (fun _ i _ => 18 - (intOf i).toNat)
          case atStart =>
            refine ⟨0, Nat.zero_le _, rfl, (SW1.out.trans S2.out), ?_, ?_, HG.out.1, rfl⟩
            · have := row_seen R1.out S2.out
              have e : outL s 0 = [F4 % 256] := by rw [HFirst.out]; simp [outL]
              rw [e]
              exact this
            · intro e
              simp [Value.ownBlock] at e
              have := HG.out.2
              have := hsz1.out
              omega
          case round =>
            obtain ⟨k, hk, rfl, hbi⟩ := hrel
            have B0 := Lib.hid hbi
            clear hbi
            have hlen := outL_len s hk
            by_cases hlt : k < 18
            · have hk' : (k : Int) < 18 := by omega
              obtain ⟨c0, c1⟩ := HC.out k hlt
              rw [← B0.out.cell] at c0 c1
              have hbl : g < wr.heap.size := B0.out.low
              have HST : Hid (outL s (k + 1) = outL s k ++ encLn (lat s.lens k)) := outL_step (by rw [HF.out.lens]; exact hlt)
              obtain ⟨kd, hkd⟩ : ∃ kd, (lat s.lens k).k = kd := ⟨_, rfl⟩
              obtain ⟨nn, hnn⟩ : ∃ nn, (lat s.lens k).n = nn := ⟨_, rfl⟩
              rw [hkd] at c0
              rw [hnn] at c1
              have HEn : Hid (encLn (lat s.lens k) = [kd % 256] ++ (if kd = 0 then [] else e8 nn)) := by unfold Hid encLn; rw [hkd, hnn]; rfl
              clear hkd hnn
              cases hz : (kd == 0)
              · have hz' : Hid (kd ≠ 0) := by simpa [Hid] using hz
                go_wp2_with (first
                  | (at_builtin; refine wpList_append_rows _ rfl (.tmp 37) (.tmp 44) 28 rfl 5 i0 (.int .u8 0) 1 1 Try.underlying28 hi hz0 hz1 hz2 rfl (by decide) W0.heap.size 0 _ _ _ rfl (B0.out.row.alloc _) (.slice (some ⟨wr.heap.size, 0, none⟩) 1 1) 1 (bv [_]) rfl (new_row1 wr 5 _) (bv_one _) (by unfold maxLen; omega) (by omega) (B0.out.seen.alloc _).size ?_
                     intro v3 w3 ho3 hg3 hat3
                     have B3 : Hid (BI W0 w2 g (outL s k ++ [kd % 256]) v3 w3) := (B0.out.next ((Seen.refl wr).alloc _)).grow (M := [kd % 256]) ho3 hg3 hat3
                     have e0 := c0
                     have e1 := c1
                     rw [B0.out.cell, ← B3.out.cell] at e0 e1
                     clear ho3 hg3 hat3 c0 c1 B0)
                  | (go_at_call 39; refine (eight_any nn w3).mono ?_; rintro _ w4 ⟨⟨v4, rfl, ho4⟩, hs4⟩; rw [e8_len] at ho4; have R4 := Lib.hid (And.intro ho4 hs4); clear ho4 hs4 e0 e1)
                  | (at_builtin; refine wpList_append_rows _ rfl (.tmp 52) (.tmp 58) 28 rfl 5 i0 (.int .u8 0) 1 1 Try.underlying28 hi hz0 hz1 hz2 rfl (by decide) W0.heap.size w3.heap.size v3 _ _ rfl (B3.out.next R4.out.2).row v4 8 (bv (e8 nn)) rfl R4.out.1 (bv_one _) (by unfold maxLen; rw [List.length_append, List.length_singleton]; omega) (by rw [List.length_append, List.length_singleton]; omega) (B3.out.next R4.out.2).seen.size ?_
                     intro v5 w5 ho5 hg5 hat5
                     have B5 : Hid (BI W0 w2 g (outL s k ++ [kd % 256] ++ e8 nn) v5 w5) := (B3.out.next R4.out.2).grow (M := e8 nn) (by rw [e8_len]; exact ho5) hg5 hat5
                     clear ho5 hg5 hat5 B3 R4))
                refine ⟨⟨k + 1, hlt, by go_num, ?_⟩, by simp [intOf]; omega⟩
                have := B5.out
                rw [HST.out, HEn.out, if_neg hz'.out, ← List.append_assoc]
                exact this
              · have hz' : Hid (kd = 0) := by simpa [Hid] using hz
                go_wp2_with (at_builtin; refine wpList_append_rows _ rfl (.tmp 37) (.tmp 44) 28 rfl 5 i0 (.int .u8 0) 1 1 Try.underlying28 hi hz0 hz1 hz2 rfl (by decide) W0.heap.size 0 _ _ _ rfl (B0.out.row.alloc _) (.slice (some ⟨wr.heap.size, 0, none⟩) 1 1) 1 (bv [_]) rfl (new_row1 wr 5 _) (bv_one _) (by unfold maxLen; omega) (by omega) (B0.out.seen.alloc _).size ?_
                             intro v3 w3 ho3 hg3 hat3
                             have B3 : Hid (BI W0 w2 g (outL s k ++ [kd % 256]) v3 w3) := (B0.out.next ((Seen.refl wr).alloc _)).grow (M := [kd % 256]) ho3 hg3 hat3
                             have e0 := c0
                             have e1 := c1
                             rw [B0.out.cell, ← B3.out.cell] at e0 e1
                             clear ho3 hg3 hat3 c0 c1 B0)
                refine ⟨⟨k + 1, hlt, by go_num, ?_⟩, by simp [intOf]; omega⟩
                have := B3.out
                rw [HST.out, HEn.out, if_pos hz'.out, List.append_nil]
                exact this
            · have hk' : ¬ (k : Int) < 18 := by omega
              obtain rfl : k = 18 := by omega
              clear HC
              go_wp2_with fail
              go_loopw [4, 61] (fun v i wr => ∃ k : Nat, k ≤ 4 ∧ i = .int .i64 k ∧ BI W0 w2 g (outB s k) v wr) (fun _ i _ => 4 - (intOf i).toNat)
              case atStart => exact ⟨0, Nat.zero_le _, rfl, by simpa [outB] using B0.out⟩
              case round =>
                obtain ⟨k, hk, rfl, hbi⟩ := hrel
                have B1 := Lib.hid hbi
                clear hbi B0 hlen
                have hlen := outB_len s hk
                by_cases hlt : k < 4
                · have hk' : (k : Int) < 4 := by omega
                  have cb := (H0.out.seen B1.out.seen).bord HF.out hlt
                  have HST : Hid (outB s (k + 1) = outB s k ++ e8 (bat s.bord k)) := outB_step (by rw [HF.out.bord]; exact hlt)
                  go_wp2_with (first
                    | (go_at_call 39; refine (eight_any (bat s.bord k) wr).mono ?_; rintro _ w4 ⟨⟨v4, rfl, ho4⟩, hs4⟩; rw [e8_len] at ho4; have R4 := Lib.hid (And.intro ho4 hs4); clear ho4 hs4 cb)
                    | (at_builtin; refine wpList_append_rows _ rfl (.tmp 64) (.tmp 69) 28 rfl 5 i0 (.int .u8 0) 1 1 Try.underlying28 hi hz0 hz1 hz2 rfl (by decide) W0.heap.size wr.heap.size _ _ _ rfl (B1.out.next R4.out.2).row v4 8 (bv (e8 (bat s.bord k))) rfl R4.out.1 (bv_one _) (by unfold maxLen; omega) (by omega) (B1.out.next R4.out.2).seen.size ?_
                       intro v5 w5 ho5 hg5 hat5
                       have B5 : Hid (BI W0 w2 g (outB s k ++ e8 (bat s.bord k)) v5 w5) := (B1.out.next R4.out.2).grow (M := e8 (bat s.bord k)) (by rw [e8_len]; exact ho5) hg5 hat5
                       clear ho5 hg5 hat5 B1 R4))
                  exact ⟨⟨k + 1, hlt, by go_num, by rw [HST.out]; exact B5.out⟩, by simp [intOf]; omega⟩
                · have hk' : ¬ (k : Int) < 4 := by omega
                  obtain rfl : k = 4 := by omega
                  have hsr : Seen W0 wr := B1.out.seen
                  obtain ⟨_, chz, cz, _, _, _⟩ := (H0.out.seen hsr).tail HF.out
                  clear chasz
                  go_upto_if 73 with fail
                  go_cut [4] (fun v wx => BI W0 w2 g (outB s 4 ++ (if s.hasz then e8 s.z else [])) v wx)
                  case first =>
                    cases hb : s.hasz
                    · rw [hb] at chz
                      go_wp2_with fail
                      go_meet
                      simpa [hb] using B1.out
                    · rw [hb] at chz
                      go_wp2_with (first
                        | (go_at_call 39; refine (eight_any s.z wr).mono ?_; rintro _ w4 ⟨⟨v4, rfl, ho4⟩, hs4⟩; rw [e8_len] at ho4; have R4 := Lib.hid (And.intro ho4 hs4); clear ho4 hs4)
                        | (at_builtin; refine wpList_append_rows _ rfl (.tmp 74) (.tmp 77) 28 rfl 5 i0 (.int .u8 0) 1 1 Try.underlying28 hi hz0 hz1 hz2 rfl (by decide) W0.heap.size wr.heap.size _ _ _ rfl (B1.out.next R4.out.2).row v4 8 (bv (e8 s.z)) rfl R4.out.1 (bv_one _) (by unfold maxLen; omega) (by omega) (B1.out.next R4.out.2).seen.size ?_
                           intro v5 w5 ho5 hg5 hat5
                           have B5 : Hid (BI W0 w2 g (outB s 4 ++ e8 s.z) v5 w5) := (B1.out.next R4.out.2).grow (M := e8 s.z) (by rw [e8_len]; exact ho5) hg5 hat5
                           clear ho5 hg5 hat5 B1 R4))
                      go_meet
                      simpa [hb] using B5.out
                  case rest =>
                    obtain ⟨L, hL⟩ : ∃ L, outB s 4 ++ (if s.hasz then e8 s.z else []) = L := ⟨_, rfl⟩
                    have hLl : L.length ≤ 203 := by rw [← hL, List.length_append]; split <;> simp [e8_len] <;> omega
                    rw [hL] at hcut
                    have HL := Lib.hid hL
                    have BC := Lib.hid hcut
                    have hsc : Seen W0 wc := hcut.seen
                    have rk : ∀ w', Seen W0 w' → w'.cell? ⟨w.heap.size, 46, none⟩ = some (.int .i64 s.back) ∧ w'.cell? ⟨w.heap.size, 47, none⟩ = some (.int .i64 s.line) := fun w' h' => ((H0.out.seen h').tail HF.out).2.2.2.2
                    obtain ⟨d46, d47⟩ := rk wc hsc
                    clear hL hcut B1 chz cz hsr hlen
                    go_wp2_with fail
                    go_region_held3 (fun w' => w'.cell? ⟨w.heap.size, 46, none⟩ = some (.int .i64 s.back) ∧ w'.cell? ⟨w.heap.size, 47, none⟩ = some (.int .i64 s.line))
                      (exact rk _ (by (repeat (first | assumption | refine Seen.drew ?_))))
                      (first
                        | (go_at_call 39; refine (eight_any s.back wc.drew).mono ?_; rintro _ w6 ⟨⟨v6, rfl, ho6⟩, hs6⟩; rw [e8_len] at ho6; have sV6 : Seen W0 w6 := hsc.drew.trans hs6
                           have R6 := Lib.hid ho6
                           have B6 := Lib.hid (BC.out.next ((Seen.refl wc).drew.trans hs6))
                           clear ho6 hs6)
                        | (refine step_append_rows _ rfl (.tmp 79) (.tmp 82) 28 rfl 5 i0 (.int .u8 0) 1 1 Try.underlying28 hi hz0 hz1 hz2 rfl (by decide) W0.heap.size wc.drew.heap.size u4 _ _ rfl B6.out.row v6 8 (bv (e8 s.back)) rfl R6.out (bv_one _) (by unfold maxLen; omega) (by omega) B6.out.seen.size ?_
                           intro v7 w7 ho7 hg7 hat7
                           have B7 : Hid (BI W0 w2 g (L ++ e8 s.back) v7 w7) := B6.out.grow (M := e8 s.back) (by rw [e8_len]; exact ho7) hg7 hat7
                           have sV7 : Seen W0 w7 := B7.out.seen
                           have hl7 : (L ++ e8 s.back).length ≤ 211 := by rw [List.length_append, e8_len]; omega
                           clear ho7 hg7 hat7)
                        | (go_at_call 39; refine (eight_any s.line w7).mono ?_; rintro _ w8 ⟨⟨v8, rfl, ho8⟩, hs8⟩; rw [e8_len] at ho8; have sV8 : Seen W0 w8 := sV7.trans hs8
                           have R8 := Lib.hid ho8
                           have B8 := Lib.hid (B7.out.next hs8)
                           clear ho8 hs8)
                        | (refine step_append_rows _ rfl (.tmp 83) (.tmp 86) 28 rfl 5 i0 (.int .u8 0) 1 1 Try.underlying28 hi hz0 hz1 hz2 rfl (by decide) W0.heap.size w7.heap.size v7 _ _ rfl B8.out.row v8 8 (bv (e8 s.line)) rfl R8.out (bv_one _) (by unfold maxLen; omega) (by omega) B8.out.seen.size ?_
                           intro v9 w9 ho9 hg9 hat9
                           have B9 : Hid (BI W0 w2 g (L ++ e8 s.back ++ e8 s.line) v9 w9) := B8.out.grow (M := e8 s.line) (by rw [e8_len]; exact ho9) hg9 hat9
                           have sV9 : Seen W0 w9 := B9.out.seen
                           clear ho9 hg9 hat9))
                    all_goals
                      go_wp2_with fail
                      go_ret
                      have e : L ++ e8 s.back ++ e8 s.line = encS s := by rw [← HL.out, ← outB_all HF.out]; simp [List.append_assoc]
                      have := B9.out.row
                      rw [e] at this
                      exact ⟨⟨_, rfl, row_more this S0.out.size⟩, S0.out.trans sV9⟩
end Go.Proofs.Ythphmhcgnkoigaa
