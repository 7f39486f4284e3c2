/- Contracts of bitIf, firstByte, putLen and Put; no conditions beyond those written in each theorem. -/
import Derived.Test.YthphmhcgnkoigaaRefBytes
import Derived.Test.YthphmhcgnkoigaaFormsBase
namespace Go.Proofs.Ythphmhcgnkoigaa
open Go.ChangeShapes Go.WideShapes Go.ChangeAt Go.RowKit
set_option maxRecDepth 100000
theorem bitIf_any (b : Bool) (n : Int) (w : World) : Calls Try.prog 60 #[.bool b, .int .u8 n] w fun e w' => e = .returned (.int .u8 (bitN b n)) ∧ w' = w := by
  cases b
  all_goals
    go_enter Try.func60, Try.ntmps60
    go_wp2_with fail
    go_ret
    exact ⟨rfl, rfl⟩
theorem putLen_any (base B : Nat) (T : Nat → Prop) (l : List Int) (x : Ln) (w : World) (h : OS base B T l w) (hb : base ≤ w.heap.size) (hl : l.length + 16 ≤ 140737488355328) (hX : ∀ k, T k → k < w.heap.size) :
    Calls Try.prog 48 #[.pointer (some ⟨B, 0, none⟩), .agg #[.int .i64 x.k, .int .i64 x.n]] w fun e w' => e = .returned (.tuple #[]) ∧ ∃ T', Moves T T' w w' ∧ OS base B T' (l ++ encLn x) w' := by
  obtain ⟨W, hW⟩ : ∃ W, W = w.alloc (.cells #[.int .i64 x.k, .int .i64 x.n] 43) := ⟨_, rfl⟩
  have SW : Hid (Seen w W) := by rw [hW]; exact (Seen.refl w).alloc _
  have HX : Hid (W.heap[w.heap.size]? = some (.cells #[.int .i64 x.k, .int .i64 x.n] 43)) := by rw [hW]; exact World.alloc_heap_new w _
  have HO : Hid (OS base B T l W) := h.seen SW.out
  have HLow := Lib.hid hX
  have HbW : Hid (base ≤ W.heap.size) := Nat.le_trans hb SW.out.size
  have HW := Lib.hid hW
  have hsz : W.heap.size = w.heap.size + 1 := by rw [hW]; simp
  have HSZ := Lib.hid hsz
  clear h hX hW hsz
  obtain ⟨k, hk⟩ : ∃ k, x.k = k := ⟨_, rfl⟩
  obtain ⟨n, hn⟩ : ∃ n, x.n = n := ⟨_, rfl⟩
  have HE : Hid (encLn x = [k % 256] ++ (if k = 0 then [] else e8 n)) := by unfold Hid encLn; rw [hk, hn]; rfl
  rw [hk, hn] at HX HW
  rw [hk, hn]
  clear hk hn
  have hbe : ∀ v : Int, be (v % 256 % 18446744073709551616) 1 = [v % 256] := fun v => by simp only [be, List.nil_append, List.cons.injEq, and_true]; omega
  have HBE := Lib.hid hbe
  clear hbe
  cases hz : (k == 0)
  all_goals
    go_enter Try.func48, Try.ntmps48
    go_wp2_with (first
      | (go_at_call 46; have gg := HW.out; clear gg; rw [← HW.out]; refine (oByte_any base B T l _ W HO.out HbW.out (by omega)).mono ?_; rintro _ w1 ⟨rfl, T1, m1, o1⟩; rw [HBE.out] at o1
         have M1 : Hid (Moves T T1 w w1) := (Moves.of_below SW.out).trans m1
         have O1 := Lib.hid o1
         have X1 : Hid (w1.heap[w.heap.size]? = some (.cells #[.int .i64 k, .int .i64 n] 43)) := (m1.block _ (by have := HSZ.out; omega) (fun ht => by have := HLow.out _ ht; omega)).trans HX.out
         have z0 := Go.Joins.cell_of_block X1.out
         have x0 : w1.cell? ⟨w.heap.size, 0, none⟩ = some (.int .i64 k) := by rw [Go.Joins.cell_of_block X1.out]; rfl
         have x1 : w1.cell? ⟨w.heap.size, 1, none⟩ = some (.int .i64 n) := by rw [Go.Joins.cell_of_block X1.out]; rfl
         have B1 : Hid (base ≤ w1.heap.size) := Nat.le_trans HbW.out m1.size
         clear m1 o1 HW z0)
      | (go_at_call 49; refine (oEight_any base B T1 _ n w1 O1.out B1.out (by rw [List.length_append, List.length_singleton]; omega)).mono ?_; rintro _ w2 ⟨rfl, T2, m2, o2⟩
         have R2 := Lib.hid (And.intro (M1.out.trans m2) o2)
         clear m2 o2))
    go_end0
    rw [HE.out]
    simp at hz
    first
      | exact ⟨rfl, T2, R2.out.1, by rw [if_neg hz, ← List.append_assoc]; exact R2.out.2⟩
      | exact ⟨rfl, T1, M1.out, by rw [if_pos hz, List.append_nil]; exact O1.out⟩
theorem first_wrap {s : Sty} (h : 0 ≤ s.pos ∧ s.pos ≤ 3) : IntKind.u8.wrap (IntKind.u8.wrap (IntKind.u8.wrap (IntKind.u8.wrap (bitN s.shown 1 + IntKind.u8.wrap (2 * IntKind.u8.wrap s.pos)) + bitN s.rtl 8) + bitN s.hasz 16) + bitN s.clip 32) = first s := by
  have hbit : ∀ b n, 0 ≤ n → 0 ≤ bitN b n ∧ bitN b n ≤ n := fun b n h => by cases b <;> simp [bitN, h]
  have h1 := hbit s.shown 1 (by omega)
  have h2 := hbit s.rtl 8 (by omega)
  have h3 := hbit s.hasz 16 (by omega)
  have h4 := hbit s.clip 32 (by omega)
  simp only [IntKind.wrap_u8', first]
  omega
theorem bitIf_seen (b : Bool) (n : Int) (w : World) : Calls Try.prog 60 #[.bool b, .int .u8 n] w fun e w' => e = .returned (.int .u8 (bitN b n)) ∧ Below w.heap.size w w' :=
  (bitIf_any b n w).mono fun _ _ h => ⟨h.1, by rw [h.2]; exact Below.refl _ _⟩
set_option maxHeartbeats 4000000 in
theorem firstByte_any (s : Sty) (hf : Full s) (hp : 0 ≤ s.pos ∧ s.pos ≤ 3) (w : World) : Calls Try.prog 47 #[sv s] w fun e w' => e = .returned (.int .u8 (first s)) ∧ Seen w w' := by
  obtain ⟨W, hW⟩ : ∃ W, W = w.alloc (.cells (stl s).toArray 47) := ⟨_, rfl⟩
  have H0 : Hid (Hs W w.heap.size s) := by rw [hW]; exact hs_new w s
  have S0 : Hid (Seen w W) := by rw [hW]; exact (Seen.refl w).alloc _
  have HP := Lib.hid hp
  have rk : ∀ w', Seen W w' → w'.cell? ⟨w.heap.size, 0, none⟩ = some (.bool s.shown) ∧ w'.cell? ⟨w.heap.size, 1, none⟩ = some (.int .i64 s.pos) ∧ w'.cell? ⟨w.heap.size, 42, none⟩ = some (.bool s.rtl) ∧ w'.cell? ⟨w.heap.size, 43, none⟩ = some (.bool s.hasz) ∧ w'.cell? ⟨w.heap.size, 45, none⟩ = some (.bool s.clip) := fun w' h' => by
    have h := H0.out.seen h'
    obtain ⟨a, b, _, d, _, _⟩ := h.tail hf
    exact ⟨h.head.1, h.head.2, a, b, d⟩
  have RK := Lib.hid rk
  clear rk hp hf
  unfold sv
  go_enter Try.func47, Try.ntmps47
  go_wp2_with fail
  rw [← hW]
  clear hW
  refine wp_region_quiet (C := Seen W) (by kernel_rfl) (by kernel_rfl) (Seen.drew (Seen.refl _)) ?_
  simp only []
  repeat (first
    | go_big_quiet_skip
    | (go_big_quiet_want
       apply Exists.intro
       refine ⟨fun w1 h1 => ?_, ?_⟩
       focus
         obtain ⟨y0, y1, y2, y3, y4⟩ := RK.out w1 h1
         go_simp
         first
           | done
           | rfl
           | (go_at_call 60; with_reducible exact quiet_call h1 (bitIf_seen _ _ _))
       (try simp only [Act.put, List.setIfInBounds_toArray, List.set_cons_zero, List.set_cons_succ])
       go_big_quiet_on))
  refine wpQuiet_nil ?_
  intro w3 h3
  go_wp2_with fail
  go_ret
  exact ⟨congrArg (fun x => Ending.returned (.int .u8 x)) (first_wrap HP.out), S0.out.trans h3⟩
/-- While Put runs: the Out, the style's block, the block of its lengths. -/
structure PI (w w2 : World) (base B : Nat) (T0 T : Nat → Prop) (s : Sty) (g : Nat) (L : List Int) (wr : World) : Prop where
  moves : Moves T0 T w wr
  out : OS base B T L wr
  sty : Hs wr w.heap.size s
  nX : ¬ T w.heap.size
  ng : ¬ T g
  low : g < wr.heap.size
  blk : wr.heap[g]? = w2.heap[g]?
section
variable {w w2 wr w' : World} {base B : Nat} {T0 T T' : Nat → Prop} {s : Sty} {g : Nat} {L L' : List Int}
theorem PI.put (h : PI w w2 base B T0 T s g L wr) (hm : Moves T T' wr w') (ho : OS base B T' L' w') : PI w w2 base B T0 T' s g L' w' :=
  ⟨h.moves.trans hm, ho, h.sty.keeps (hm.block _ h.sty.lt h.nX), fun ht => (hm.own _ ht).elim h.nX (fun h2 => by have := h.sty.lt; omega), fun ht => (hm.own _ ht).elim h.ng (fun h2 => by have := h.low; omega),
   Nat.lt_of_lt_of_le h.low hm.size, (hm.block _ h.low h.ng).trans h.blk⟩
theorem PI.next (h : PI w w2 base B T0 T s g L wr) (hs : Seen wr w') : PI w w2 base B T0 T s g L w' :=
  ⟨h.moves.trans (Moves.of_below hs), h.out.seen hs, h.sty.seen hs, h.nX, h.ng, Nat.lt_of_lt_of_le h.low hs.size, (hs.block _ h.low).trans h.blk⟩
theorem PI.base_le (h : PI w w2 base B T0 T s g L wr) (hb : base ≤ w.heap.size) : base ≤ wr.heap.size := Nat.le_trans hb h.moves.size
end
set_option maxRecDepth 100000 in
set_option maxHeartbeats 8000000 in
theorem put_no (s : Sty) (hf : Full s) (hn : formedB s = false) (p : Option Addr) (w : World) : Calls Try.prog 30 #[.pointer p, sv s] w fun e w' => e = .returned (.tuple #[]) ∧ Seen w w' := by
  obtain ⟨W, hW⟩ : ∃ W, W = w.alloc (.cells (stl s).toArray 47) := ⟨_, rfl⟩
  have H0 : Hid (Hs W w.heap.size s) := by rw [hW]; exact hs_new w s
  have S0 : Hid (Seen w W) := by rw [hW]; exact (Seen.refl w).alloc _
  have HF := Lib.hid hf
  have HN := Lib.hid (And.intro hn trivial)
  have fl : Hid (0 = 0) := rfl
  clear hf hn
  unfold sv
  go_enter Try.func30, Try.ntmps30
  go_wp2_with (first
    | (clear fl; rw [← hW]; clear hW; refine wpList_loadS rfl (.tmp 3) rfl w.heap.size s rfl HF.out H0.out ?_)
    | (go_at_call 24; refine (formed_any s HF.out _).mono ?_; rintro _ w1 ⟨rfl, hs1⟩; rw [HN.out.1]; have S1 := Lib.hid hs1; clear hs1))
  try simp only [Exit.inBlock, Exit.then]
  refine bodyPost_ret (results_none rfl _ _ _) rfl ?_
  exact ⟨rfl, S0.out.trans S1.out⟩
end Go.Proofs.Ythphmhcgnkoigaa
