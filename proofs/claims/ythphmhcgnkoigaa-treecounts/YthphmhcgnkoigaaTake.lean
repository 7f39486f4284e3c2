/- Contracts of take and of the methods of In that take bytes, and of NewIn; no conditions beyond those written in each theorem. -/
import Derived.Test.YthphmhcgnkoigaaIn
namespace Go.Proofs.Ythphmhcgnkoigaa
open Go.ChangeShapes Go.WideShapes Go.ChangeAt Go.RowKit
set_option maxRecDepth 100000
def headA (ad : Option Addr) (c : Nat) : Option Addr := if c = 0 then ad else ad.map (·.add (0 * 1))
theorem run_head (ad : Option Addr) (n c k : Nat) (hk : k ≤ c) (w : World) : (Instr.slice 28 (.slice ad n c) none (some (.int .i64 (k : Int))) none).run Try.prog w = .ok (.slice (headA ad c) k c) w := by
  unfold headA
  go_simp
theorem run_headAt (ad : Option Addr) (n c k : Nat) (hk : k ≤ c) (w : World) : (Instr.sliceAt 28 (.slice ad n c) none (some (.int .i64 (k : Int))) none).run Try.prog w = .ok (.slice (headA ad c) k c) w := by
  unfold headA
  go_simp
def tailA (ad : Option Addr) (c q : Nat) : Option Addr := if c = q then ad else ad.map (·.add (q * 1))
theorem run_tail (ad : Option Addr) (n c q : Nat) (hq : q ≤ n) (w : World) : (Instr.slice 28 (.slice ad n c) (some (.int .i64 (q : Int))) none none).run Try.prog w = .ok (.slice (tailA ad c q) (n - q) (c - q)) w := by
  unfold tailA
  go_simp
theorem run_tailAt (ad : Option Addr) (n c q : Nat) (hq : q ≤ n) (w : World) : (Instr.sliceAt 28 (.slice ad n c) (some (.int .i64 (q : Int))) none none).run Try.prog w = .ok (.slice (tailA ad c q) (n - q) (c - q)) w := by
  unfold tailA
  go_simp
theorem headA_some (b off c : Nat) : headA (some ⟨b, off, none⟩) c = some ⟨b, off, none⟩ := by
  unfold headA; split
  · rfl
  · rw [Option.map_some, add_plain, Nat.zero_mul, Nat.add_zero]
theorem tailA_some {b off c q : Nat} (h : q < c) : tailA (some ⟨b, off, none⟩) c q = some ⟨b, off + q, none⟩ := by
  unfold tailA; rw [if_neg (by omega), Option.map_some, add_plain, Nat.mul_one]
theorem take_nil (n : Nat) (w : World) (h1 : 1 ≤ n) (h8 : n ≤ 8) : Calls Try.prog 61 #[.pointer none, .int .i64 n] w fun e w' => e = .returned (.int .u64 0) ∧ w' = w := by
  have hn : (0 : Int) < (n : Int) := by omega
  go_enter Try.func61, Try.ntmps61
  go_wp2_with (first
    | (go_at_call 69; refine (left_nil _).mono ?_; rintro e w1 ⟨rfl, rfl⟩)
    | (go_at_call 62; refine (fail_nil _).mono ?_; rintro e w2 ⟨rfl, rfl⟩))
  go_ret
  exact ⟨rfl, rfl⟩
theorem take_short {K : Nat → Prop} {B : Nat} {l : List Int} {bad : Bool} {w : World} (h : IS K B l bad w) (n : Nat) (hn : l.length < n) :
    Calls Try.prog 61 #[.pointer (some ⟨B, 0, none⟩), .int .i64 n] w fun e w' => e = .returned (.int .u64 0) ∧ Turns B w w' ∧ IS K B [] true w' := by
  have HH := Lib.hid h
  clear h
  have hn' : (l.length : Int) < (n : Int) := by omega
  go_enter Try.func61, Try.ntmps61
  go_wp2_with (first
    | (go_at_call 69; refine (left_any HH.out).mono ?_; rintro e w1 ⟨rfl, rfl⟩)
    | (go_at_call 62; refine (fail_any HH.out).mono ?_; rintro e w2 ⟨rfl, ht, hs⟩; have HR := Lib.hid (And.intro ht hs); clear ht hs))
  go_ret
  exact ⟨rfl, HR.out⟩
theorem val_step {l : List Int} (h : Bytes8 l) {k : Nat} (hk : k < l.length) (h8 : k < 8) : bits .or .u64 (IntKind.u64.wrap (val (l.take k) * 256)) (IntKind.u64.wrap (bat l k)) = val (l.take (k + 1)) := by
  obtain ⟨v0, v1⟩ := val_bound (h.take k)
  rw [List.length_take, Nat.min_eq_left (by omega)] at v1
  have v2 : (256 : Int) ^ k ≤ 72057594037927936 := (by decide : ∀ k, k < 8 → (256 : Int) ^ k ≤ 72057594037927936) k h8
  have v3 : val (l.take k) < 72057594037927936 := Int.lt_of_lt_of_le v1 v2
  obtain ⟨b0, b1⟩ := bat_ok h k
  rw [IntKind.wrap_u64, IntKind.wrap_u64, Int.emod_eq_of_lt (by omega) (by omega), Int.emod_eq_of_lt (by omega) (by omega), or_byte _ _ v0 v3 b0 b1, val_take hk]
set_option maxHeartbeats 2000000 in
theorem take_some {K : Nat → Prop} {B : Nat} {l : List Int} {bad : Bool} {w : World} (h : IS K B l bad w) (n : Nat) (h1 : 1 ≤ n) (hn : n ≤ l.length) (h8 : n ≤ 8) :
    Calls Try.prog 61 #[.pointer (some ⟨B, 0, none⟩), .int .i64 n] w fun e w' => e = .returned (.int .u64 (val (l.take n))) ∧ Turns B w w' ∧ IS K B (l.drop n) bad w' := by
  have HH := Lib.hid h
  obtain ⟨ad, c, hc0, hc1, hlc, hfz, hbs⟩ := h.cells
  obtain ⟨b, off, rfl, hcl⟩ := hbs.2 (by omega)
  clear h hbs
  obtain ⟨N, hN⟩ : ∃ N, l.length = N := ⟨_, rfl⟩
  have HN := Lib.hid hN
  have hleft : Hid (Calls Try.prog 69 #[.pointer (some ⟨B, 0, none⟩)] w fun e w' => e = .returned (.int .i64 N) ∧ w' = w) := by rw [← hN]; exact left_any HH.out
  rw [hN] at hn hc0 hlc hcl
  clear hN
  have hn' : ¬ (N : Int) < (n : Int) := by omega
  have r1 := run_head (some ⟨b, off, none⟩) N c n (by omega)
  have r2 := run_headAt (some ⟨b, off, none⟩) N c n (by omega)
  have r3 := run_tail (some ⟨b, off, none⟩) N c n hn
  have r4 := run_tailAt (some ⟨b, off, none⟩) N c n hn
  rw [headA_some] at r1 r2
  go_enter Try.func61, Try.ntmps61
  go_wp2_with (go_at_call 69; refine hleft.out.mono ?_; rintro e w1 ⟨rfl, rfl⟩)
  go_loopw [5, 21] (fun x i wr => ∃ k : Nat, k ≤ n ∧ x = .int .u64 (val (l.take k)) ∧ i = .int .i64 k ∧ wr = w1) (fun _ i _ => n - (intOf i).toNat)
  case atStart => exact ⟨0, Nat.zero_le _, rfl, rfl, rfl⟩
  case round =>
    obtain ⟨k, hk, rfl, rfl, rfl⟩ := hrel
    by_cases hlt : k < n
    · have ck := hcl k (by omega)
      have hkn : (k : Int) < (n : Int) := by omega
      go_wp2_with fail
      refine ⟨⟨k + 1, hlt, by rw [val_step HH.out.bytes (by rw [HN.out]; omega) (by omega)], by go_num, trivial⟩, by simp [intOf]; omega⟩
    · have hkn : ¬ (k : Int) < (n : Int) := by omega
      have hke : k = n := by omega
      subst hke
      go_wp2_with fail
      go_ret
      obtain ⟨k1, k2, k3, k4, ad, c', k5, k6, k7⟩ := HH.out
      obtain ⟨g, off', hg, hKg, rfl, hcg⟩ := k7 (by rw [HN.out]; omega)
      have e2 := hc0
      rw [Go.Joins.cell_of_block k5] at e2
      simp [HN.out] at e2
      obtain ⟨⟨rfl, rfl⟩, rfl⟩ := e2
      refine ⟨rfl, Turns.set wr B 0 _, k1, fun j hj => by simp [World.setCell]; exact k2 j hj, k3.drop _, fun hb => by rw [k4 hb, List.drop_nil], tailA (some ⟨g, off', none⟩) c' k, c' - k, by rw [Go.Joins.block_setCell k5 _]; simp [HN.out], by simp [HN.out]; omega, fun h0 => ?_⟩
      rw [List.length_drop, HN.out] at h0
      refine ⟨g, off' + k, hg, hKg, tailA_some (by omega), fun i hi => ?_⟩
      rw [List.length_drop, HN.out] at hi
      rw [World.cell?_of_block (Below.heap_setCell wr ⟨B, 0, none⟩ _ g hg), bat_drop, Nat.add_assoc]
      exact hcl (k + i) (by omega)
/-- What a request for n bytes answers. -/
def tkV (n : Nat) (l : List Int) : Int := if l.length < n then 0 else val (l.take n)
/-- What is left behind it. -/
def tkL (n : Nat) (l : List Int) : List Int := if l.length < n then [] else l.drop n
/-- Whether it is bad behind it. -/
def tkB (n : Nat) (l : List Int) (bad : Bool) : Bool := if l.length < n then true else bad
theorem tkV_bound {n : Nat} {l : List Int} (h : Bytes8 l) : 0 ≤ tkV n l ∧ tkV n l < 256 ^ n := by
  unfold tkV
  split
  · exact ⟨Int.le_refl _, Int.pow_pos (by decide)⟩
  · have := val_bound (h.take n)
    rw [List.length_take, Nat.min_eq_left (by omega)] at this
    exact this
theorem take_any {K : Nat → Prop} {B : Nat} {l : List Int} {bad : Bool} {w : World} (h : IS K B l bad w) (n : Nat) (h1 : 1 ≤ n) (h8 : n ≤ 8) :
    Calls Try.prog 61 #[.pointer (some ⟨B, 0, none⟩), .int .i64 n] w fun e w' => e = .returned (.int .u64 (tkV n l)) ∧ Turns B w w' ∧ IS K B (tkL n l) (tkB n l bad) w' := by
  unfold tkV tkL tkB
  by_cases hn : l.length < n
  · rw [if_pos hn, if_pos hn, if_pos hn]; exact take_short h n hn
  · rw [if_neg hn, if_neg hn, if_neg hn]; exact take_some h n h1 (by omega) h8
theorem iByte_nil (w : World) : Calls Try.prog 63 #[.pointer none] w fun e w' => e = .returned (.int .u8 0) ∧ w' = w := by
  go_enter Try.func63, Try.ntmps63
  go_wp2_with (go_at_call 61; refine (take_nil 1 _ (by omega) (by omega)).mono ?_; rintro e w1 ⟨rfl, rfl⟩)
  go_ret
  exact ⟨rfl, rfl⟩
theorem iEight_nil (w : World) : Calls Try.prog 67 #[.pointer none] w fun e w' => e = .returned (.int .i64 0) ∧ w' = w := by
  go_enter Try.func67, Try.ntmps67
  go_wp2_with (go_at_call 61; refine (take_nil 8 _ (by omega) (by omega)).mono ?_; rintro e w1 ⟨rfl, rfl⟩)
  go_ret
  exact ⟨rfl, rfl⟩
theorem iByte_any {K : Nat → Prop} {B : Nat} {l : List Int} {bad : Bool} {w : World} (h : IS K B l bad w) :
    Calls Try.prog 63 #[.pointer (some ⟨B, 0, none⟩)] w fun e w' => e = .returned (.int .u8 (tkV 1 l)) ∧ Turns B w w' ∧ IS K B (tkL 1 l) (tkB 1 l bad) w' := by
  have HH := Lib.hid h
  have HV := Lib.hid (tkV_bound (n := 1) h.bytes)
  clear h
  go_enter Try.func63, Try.ntmps63
  go_wp2_with (go_at_call 61; refine (take_any HH.out 1 (by omega) (by omega)).mono ?_; rintro e w1 ⟨rfl, ht, hs⟩; have HR := Lib.hid (And.intro ht hs); clear ht hs)
  go_ret
  exact ⟨(show _ = Ending.returned (.int .u8 (IntKind.u8.wrap (tkV 1 l))) from rfl).trans (ret_int (by have := HV.out; rw [IntKind.wrap_u8]; omega)), HR.out⟩
theorem iEight_any {K : Nat → Prop} {B : Nat} {l : List Int} {bad : Bool} {w : World} (h : IS K B l bad w) :
    Calls Try.prog 67 #[.pointer (some ⟨B, 0, none⟩)] w fun e w' => e = .returned (.int .i64 (wrap64 (tkV 8 l))) ∧ Turns B w w' ∧ IS K B (tkL 8 l) (tkB 8 l bad) w' := by
  have HH := Lib.hid h
  clear h
  go_enter Try.func67, Try.ntmps67
  go_wp2_with (go_at_call 61; refine (take_any HH.out 8 (by omega) (by omega)).mono ?_; rintro e w1 ⟨rfl, ht, hs⟩; have HR := Lib.hid (And.intro ht hs); clear ht hs)
  go_ret
  exact ⟨rfl, HR.out⟩
set_option maxHeartbeats 2000000 in
theorem newIn_any (ad : Option Addr) (n c : Nat) (l : List Int) (w : World) (h : BS w ad n l) (hok : Bytes8 l) (hc : ad = none → c = 0) (hn : n ≤ 140737488355328) :
    Calls Try.prog 32 #[.slice ad n c] w fun e w' => ∃ B K, e = .returned (.pointer (some ⟨B, 0, none⟩)) ∧ IS K B l false w' ∧ (∀ k, K k → w.heap.size ≤ k) ∧ Seen w w' := by
  obtain ⟨i0, hi, hz0, hz1, hz2⟩ := info_parts info5
  have HS := Lib.hid (src_of_bs h hc)
  have HL : Hid (l.length = n) := h.1
  clear h hc
  go_enter Try.func32, Try.ntmps32
  go_wp2_with (at_builtin; refine wpList_append_src _ rfl (.const (.slice none 0 0)) (.tmp 3) 28 rfl 5 i0 (.int .u8 0) 1 1 Try.underlying28 hi hz0 hz1 hz2 rfl (by decide) w.heap.size _ 0 [] rfl (World.ownsRow_nil _ _ _ _) (.slice ad n c) n (bv l) rfl HS.out (bv_one _) (by unfold maxLen; omega) (by omega) (Nat.le_refl _) ?_
               intro v1 w1 hown1 hgrow1 hat1
               have s1 : Seen w w1 := Below.grown (Below.refl _ w) hgrow1 (Nat.le_refl _) (fun k hk => by cases hk)
               rw [Nat.zero_add, List.nil_append] at hown1
               obtain ⟨a1, c1, rfl, he1, hc1, hd1⟩ := bs_of_own hown1 HL.out
               have HR := Lib.hid (And.intro hown1 (And.intro he1 hc1))
               clear hown1 hgrow1 hat1 he1 hc1 hd1 HS)
  go_ret
  obtain ⟨hown, hbs, hc1⟩ := HR.out
  refine ⟨w1.heap.size, fun k => k = w1.heap.size ∨ (Value.slice a1 n c1).ownBlock = some k, rfl, ⟨.inl rfl, ?_, hok, (fun e => by cases e), a1, c1, by rw [HL.out]; exact World.alloc_heap_new w1 _, by rw [HL.out]; exact hc1, fun h0 => ?_⟩, ?_, s1.alloc _⟩
  · rintro k (rfl | hk)
    · simp
    · have := (hown.lt k hk).2
      simp; omega
  · rw [HL.out] at h0 ⊢
    obtain ⟨b, off, rfl, hcb⟩ := hbs.2 h0
    have hlt := (hown.lt b rfl).2
    exact ⟨b, off, by omega, .inr rfl, rfl, fun i hi => ((Seen.refl w1).alloc _).cell (hcb i hi)⟩
  · rintro k (rfl | hk)
    · exact s1.size
    · exact (hown.lt k hk).1
end Go.Proofs.Ythphmhcgnkoigaa
