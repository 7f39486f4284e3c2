/- Texts of the proof, merged: KinAt, RowI. -/
import Derived.Test.YteplmjgohnbpbaaM9
import Derived.Test.YteplmjgohnbpbaaM25
/- Contracts of at, Parent, End, Deep, Made, Out, Below and Style of a Kin; no conditions beyond those written in each theorem. -/
namespace Go.Proofs.Yteplmjgohnbpbaa
open Go.ChangeShapes Go.WideShapes Go.ChangeAt Go.RowKit
set_option maxRecDepth 100000
theorem KV.node {w : World} {v : Value} {l : List Nd} {n : Int} (h : KV w v l) (hb : inB l n = true) : FormedT l ∧ l.length ≤ 65535 ∧ ∃ k : Nat, k < l.length ∧ n = k ∧ ∃ B G H, v = .pointer (some ⟨B, 0, none⟩) ∧ KK w B G H l (endN l) := by
  obtain ⟨k, hk, rfl⟩ := inB_iff.1 hb
  rcases h with ⟨_, rfl⟩ | ⟨h1, h2, h3⟩
  · simp at hk
  · exact ⟨h1, h2, k, hk, rfl, h3⟩
set_option maxHeartbeats 4000000 in
theorem at_any (v : Value) (l : List Nd) (n : Int) (w : World) (h : KV w v l) : Calls Try.prog 22 #[v, .int .i64 n] w fun e w' => e = .returned (plv (plAt l n)) ∧ Seen w w' := by
  have HH : Hid (∀ w', Seen w w' → Calls Try.prog 38 #[v, .int .i64 n] w' fun e w'' => e = .returned (.bool (inB l n)) ∧ w'' = w') := fun w' h' => has_any v l n w' (h.seen h')
  cases hb : inB l n
  · have e1 : Hid (plAt l n = noP) := by unfold Hid plAt; rw [hb]; rfl
    rw [hb] at HH
    clear h hb
    have S1 : Hid (∀ o, Seen w (w.alloc o)) := fun o => (Seen.refl w).alloc o
    go_enter Try.func22, Try.ntmps22
    go_wp2_with (go_at_call 38; refine (HH.out _ (S1.out _)).mono ?_; clear HH; rintro e w1 ⟨rfl, rfl⟩)
    go_returns
    rw [e1.out]
    exact ⟨rfl, S1.out _⟩
  · obtain ⟨_, h65, k, hk, rfl, B, G, H, rfl, hkk⟩ := h.node hb
    have e1 : Hid (plAt l (k : Int) = plE l (endN l) k) := by unfold Hid plAt; rw [hb]; rfl
    rw [hb] at HH
    have S1 : Hid (∀ o, Seen w (w.alloc o)) := fun o => (Seen.refl w).alloc o
    obtain ⟨c0, c1⟩ := hkk.objs
    obtain ⟨p0, p1, p2, p3, p4⟩ := hkk.place hk
    have c1' : ∀ o, (w.alloc o).cell? ⟨B, 1, none⟩ = _ := fun o => (S1.out o).cell c1
    have p0' : ∀ o, (w.alloc o).cell? ⟨H, k * 5, none⟩ = _ := fun o => (S1.out o).cell p0
    have p1' : ∀ o, (w.alloc o).cell? ⟨H, k * 5 + 1, none⟩ = _ := fun o => (S1.out o).cell p1
    have p2' : ∀ o, (w.alloc o).cell? ⟨H, k * 5 + 2, none⟩ = _ := fun o => (S1.out o).cell p2
    have p3' : ∀ o, (w.alloc o).cell? ⟨H, k * 5 + 3, none⟩ = _ := fun o => (S1.out o).cell p3
    have p4' : ∀ o, (w.alloc o).cell? ⟨H, k * 5 + 4, none⟩ = _ := fun o => (S1.out o).cell p4
    clear h hb hkk c0 c1 p0 p1 p2 p3 p4
    have hk' : (k : Int) < (l.length : Int) := by omega
    go_enter Try.func22, Try.ntmps22
    go_wp2_with (go_at_call 38; refine (HH.out _ (S1.out _)).mono ?_; clear HH; rintro e w1 ⟨rfl, rfl⟩)
    go_returns
    rw [e1.out]
    exact ⟨rfl, S1.out _⟩
theorem at_lit (v : Value) (l : List Nd) (n : Int) (w : World) (h : KV w v l) (P : Pl) (hP : plAt l n = P) : Calls Try.prog 22 #[v, .int .i64 n] w fun e w' => e = .returned (.agg #[.int .i64 P.par, .int .i64 P.stop, .int .i64 P.deep, .bool P.made, .bool P.out]) ∧ Seen w w' := by
  subst hP
  exact at_any v l n w h
theorem fieldP0 (a b c : Int) (d e : Bool) (w : World) : (Instr.field 77 (.agg #[.int .i64 a, .int .i64 b, .int .i64 c, .bool d, .bool e]) 0).run Try.prog w = .ok (.int .i64 a) w := by kernel_rfl
theorem fieldP1 (a b c : Int) (d e : Bool) (w : World) : (Instr.field 77 (.agg #[.int .i64 a, .int .i64 b, .int .i64 c, .bool d, .bool e]) 1).run Try.prog w = .ok (.int .i64 b) w := by kernel_rfl
theorem fieldP2 (a b c : Int) (d e : Bool) (w : World) : (Instr.field 77 (.agg #[.int .i64 a, .int .i64 b, .int .i64 c, .bool d, .bool e]) 2).run Try.prog w = .ok (.int .i64 c) w := by kernel_rfl
theorem fieldP3 (a b c : Int) (d e : Bool) (w : World) : (Instr.field 77 (.agg #[.int .i64 a, .int .i64 b, .int .i64 c, .bool d, .bool e]) 3).run Try.prog w = .ok (.bool d) w := by kernel_rfl
theorem fieldP4 (a b c : Int) (d e : Bool) (w : World) : (Instr.field 77 (.agg #[.int .i64 a, .int .i64 b, .int .i64 c, .bool d, .bool e]) 4).run Try.prog w = .ok (.bool e) w := by kernel_rfl
theorem parent_kin (v : Value) (l : List Nd) (n : Int) (w : World) (h : KV w v l) : Calls Try.prog 25 #[v, .int .i64 n] w fun e w' => e = .returned (.int .i64 (plAt l n).par) ∧ Seen w w' := by
  obtain ⟨P, hP⟩ : ∃ P, plAt l n = P := ⟨_, rfl⟩
  have HA := Lib.hid (at_lit v l n w h P hP)
  rw [hP]
  clear h hP
  have hf := fieldP0 P.par P.stop P.deep P.made P.out
  go_enter Try.func25, Try.ntmps25
  go_wp2_with (go_at_call 22; refine HA.out.mono ?_; clear HA; rintro e w1 ⟨rfl, hs⟩; have S1 := Lib.hid hs; clear hs)
  go_ret
  exact ⟨rfl, S1.out⟩
theorem end_kin (v : Value) (l : List Nd) (n : Int) (w : World) (h : KV w v l) : Calls Try.prog 72 #[v, .int .i64 n] w fun e w' => e = .returned (.int .i64 (plAt l n).stop) ∧ Seen w w' := by
  obtain ⟨P, hP⟩ : ∃ P, plAt l n = P := ⟨_, rfl⟩
  have HA := Lib.hid (at_lit v l n w h P hP)
  rw [hP]
  clear h hP
  have hf := fieldP1 P.par P.stop P.deep P.made P.out
  go_enter Try.func72, Try.ntmps72
  go_wp2_with (go_at_call 22; refine HA.out.mono ?_; clear HA; rintro e w1 ⟨rfl, hs⟩; have S1 := Lib.hid hs; clear hs)
  go_ret
  exact ⟨rfl, S1.out⟩
theorem made_kin (v : Value) (l : List Nd) (n : Int) (w : World) (h : KV w v l) : Calls Try.prog 9 #[v, .int .i64 n] w fun e w' => e = .returned (.bool (plAt l n).made) ∧ Seen w w' := by
  obtain ⟨P, hP⟩ : ∃ P, plAt l n = P := ⟨_, rfl⟩
  have HA := Lib.hid (at_lit v l n w h P hP)
  rw [hP]
  clear h hP
  have hf := fieldP3 P.par P.stop P.deep P.made P.out
  go_enter Try.func9, Try.ntmps9
  go_wp2_with (go_at_call 22; refine HA.out.mono ?_; clear HA; rintro e w1 ⟨rfl, hs⟩; have S1 := Lib.hid hs; clear hs)
  go_ret
  exact ⟨rfl, S1.out⟩
theorem out_kin (v : Value) (l : List Nd) (n : Int) (w : World) (h : KV w v l) : Calls Try.prog 27 #[v, .int .i64 n] w fun e w' => e = .returned (.bool (plAt l n).out) ∧ Seen w w' := by
  obtain ⟨P, hP⟩ : ∃ P, plAt l n = P := ⟨_, rfl⟩
  have HA := Lib.hid (at_lit v l n w h P hP)
  rw [hP]
  clear h hP
  have hf := fieldP4 P.par P.stop P.deep P.made P.out
  go_enter Try.func27, Try.ntmps27
  go_wp2_with (go_at_call 22; refine HA.out.mono ?_; clear HA; rintro e w1 ⟨rfl, hs⟩; have S1 := Lib.hid hs; clear hs)
  go_ret
  exact ⟨rfl, S1.out⟩
theorem plAt_in {l : List Nd} {n : Int} (h : inB l n = true) : plAt l n = plE l (endN l) n.toNat := by unfold plAt; rw [h]; rfl
theorem plAt_no {l : List Nd} {n : Int} (h : inB l n = false) : plAt l n = noP := by unfold plAt; rw [h]; rfl
theorem plAt_nat {l : List Nd} {n : Nat} (h : n < l.length) : plAt l n = plE l (endN l) n := by rw [plAt_in (inB_nat h), Int.toNat_natCast]
theorem plAt_stop (l : List Nd) (n : Int) : (plAt l n).stop = endV l n := by
  unfold endV
  cases h : inB l n
  · rw [plAt_no h]; rfl
  · rw [plAt_in h]; rfl
theorem below_kin (v : Value) (l : List Nd) (a n : Int) (w : World) (h : KV w v l) : Calls Try.prog 71 #[v, .int .i64 a, .int .i64 n] w fun e w' => e = .returned (.bool (belV l a n)) ∧ Seen w w' := by
  have HH := Lib.hid (has_any v l a w h)
  have HE := Lib.hid (end_kin v l a w h)
  rw [plAt_stop] at HE
  clear h
  unfold belV
  obtain ⟨E, hE⟩ : ∃ E, endV l a = E := ⟨_, rfl⟩
  rw [hE] at HE ⊢
  clear hE
  obtain ⟨b, hb⟩ : ∃ b, inB l a = b := ⟨_, rfl⟩
  rw [hb] at HH ⊢
  clear hb
  cases b
  · go_enter Try.func71, Try.ntmps71
    go_wp2_with (go_at_call 38; refine HH.out.mono ?_; clear HH; rintro e w1 ⟨rfl, rfl⟩)
    go_ret
    exact ⟨rfl, Seen.refl _⟩
  · by_cases hle : a ≤ n
    · go_enter Try.func71, Try.ntmps71
      go_wp2_with (first
        | (go_at_call 38; refine HH.out.mono ?_; clear HH; rintro e w1 ⟨rfl, rfl⟩)
        | (go_at_call 72; refine HE.out.mono ?_; clear HE; rintro e w1 ⟨rfl, hs⟩; have S1 := Lib.hid hs; clear hs))
      go_ret
      exact ⟨by simp [hle], S1.out⟩
    · go_enter Try.func71, Try.ntmps71
      go_wp2_with (go_at_call 38; refine HH.out.mono ?_; clear HH; rintro e w1 ⟨rfl, rfl⟩)
      go_ret
      exact ⟨by simp; omega, Seen.refl _⟩
set_option maxHeartbeats 4000000 in
theorem style_kin (v : Value) (l : List Nd) (n : Int) (w : World) (h : KV w v l) : Calls Try.prog 26 #[v, .int .i64 n] w fun e w' => e = .returned (sv (styAt l n)) ∧ Seen w w' := by
  obtain ⟨W, hW⟩ : ∃ W, W = w.alloc (.cells (stl zeroS).toArray 39) := ⟨_, rfl⟩
  have HZ : Hid (Hs W w.heap.size zeroS) := by rw [hW]; exact hs_new w zeroS
  have SW : Hid (Seen w W) := by rw [hW]; exact (Seen.refl w).alloc _
  have HH := Lib.hid (has_any v l n W (h.seen SW.out))
  cases hb : inB l n
  · have e1 : Hid (styAt l n = zeroS) := by unfold Hid styAt; rw [hb]; rfl
    rw [hb] at HH
    clear h hb
    go_enter Try.func26, Try.ntmps26
    go_wp2_with (first
      | (rw [zero_lit, ← hW]; clear hW; go_at_call 38; refine HH.out.mono ?_; clear HH; rintro e w1 ⟨rfl, rfl⟩)
      | (rw [zero_lit]; refine wpList_storeS rfl _ _ rfl w.heap.size zeroS zeroS rfl rfl zero_full zero_full HZ.out ?_; intro w2 hs2 ht2; have R2 := Lib.hid (And.intro hs2 ht2); clear hs2 ht2))
    refine bodyPost_ret (results_cell Try.results26 rfl (run_loadS R2.out.1 zero_full)) rfl ?_
    rw [e1.out]
    exact ⟨rfl, SW.out.turns R2.out.2 (Nat.le_refl _)⟩
  · obtain ⟨_, h65, k, hk, rfl, B, G, H, rfl, hkk⟩ := h.node hb
    have e1 : Hid (styAt l (k : Int) = (nd l k).s) := by unfold Hid styAt; rw [hb]; rfl
    rw [hb] at HH
    obtain ⟨c0, c1⟩ := (hkk.seen SW.out).objs
    have ST : Hid (W.rangeAt G (k * 48) (stl (nd l k).s)) := (hkk.seen SW.out).style hk
    have hk' : (k : Int) < (l.length : Int) := by omega
    clear h hb hkk c1
    go_enter Try.func26, Try.ntmps26
    go_wp2_with (first
      | (rw [zero_lit, ← hW]; clear hW; go_at_call 38; refine HH.out.mono ?_; clear HH; rintro e w1 ⟨rfl, rfl⟩)
      | (refine wpList_load_mid rfl 39 (.tmp 15) rfl G (k * 48) rfl (stl (nd l k).s) _ ST.out Try.underlying39 rfl (by rw [(nd l k).full.len]; exact info27) ?_; clear ST)
      | (refine wpList_storeS rfl (.tmp 4) (.tmp 16) rfl w.heap.size zeroS (nd l k).s rfl rfl (nd l k).full zero_full HZ.out ?_; intro w2 hs2 ht2; have R2 := Lib.hid (And.intro hs2 ht2); clear hs2 ht2))
    refine bodyPost_ret (results_cell Try.results26 rfl (run_loadS R2.out.1 (nd l k).full)) rfl ?_
    rw [e1.out]
    exact ⟨rfl, SW.out.turns R2.out.2 (Nat.le_refl _)⟩
end Go.Proofs.Yteplmjgohnbpbaa

/- Rows of numbers: one number pushed, a row as a result, a row read; contract of the reference's Same for two rows of one list; no conditions beyond those written in each theorem. -/
namespace Go.Proofs.Yteplmjgohnbpbaa
open Go.ChangeShapes Go.WideShapes Go.ChangeAt Go.RowKit
set_option maxRecDepth 100000
theorem info3z : (Try.prog.info? 3).map (fun i => (i.zero, i.size, i.bytes)) = some (some (.int .i64 0), 1, 8) := by kernel_rfl
theorem one_at (w : World) (u : Value) (t : TypeId) : ∀ j v, [u][j]? = some v → (w.alloc (.cells #[u] t)).cell? ((⟨w.heap.size, 0, none⟩ : Addr).add j) = some v := by
  intro j v h
  match j, h with
  | 0, h =>
    simp at h
    subst h
    rw [add_plain, Go.Joins.cell_of_block (World.alloc_heap_new w _)]; rfl
/-- The row of numbers that it owns. -/
def RI (w : World) (base : Nat) (v : Value) (l : List Int) : Prop := w.ownsRow base 3 1 v l.length (flatI l)
theorem RI.seen {w w' : World} {base : Nat} {v : Value} {l : List Int} (h : RI w base v l) (hs : Seen w w') : RI w' base v l := row_seen h hs
theorem RI.nil (w : World) (base : Nat) : RI w base (.slice none 0 0) [] := ⟨rfl, .inl ⟨rfl, rfl⟩⟩
/-- x = append(x, y). -/
theorem wpList_pushI {ops : Array Oper} {rest : List Oper} {op : Oper} {a : Act} {w : World} {Q : Exit → Act → World → Prop} (hgd : op.guard = none) (s x : Operand) (ho : op.op = .call { callee := .builtin .append, args := #[s, x], argTypes := #[32, 32] })
    (base : Nat) (v : Value) (l : List Int) (y : Int) (hs : a.eval s = v) (hx : a.eval x = .slice (some ⟨w.heap.size, 0, none⟩) 1 1) (hown : RI w base v l) (hl : l.length ≤ 1000000) (hb : base ≤ w.heap.size)
    (h : ∀ v' w', RI w' base v' (l ++ [y]) → Below base w w' → wpList Try.prog ops Q rest (a.put op.dst v') w') : wpList Try.prog ops Q (op :: rest) a (w.alloc (.cells #[.int .i64 y] 3)) := by
  obtain ⟨i0, hi, hz0, hz1, hz2⟩ := info_parts info3z
  refine wpList_append_own (P := Try.prog) _ hgd s x 32 ho base 3 i0 (.int .i64 0) 1 8 Try.underlying32 hi hz0 hz1 hz2 rfl (by decide) v l.length (flatI l) hs (hown.alloc _) ⟨w.heap.size, 0, none⟩ 1 1 [.int .i64 y] hx rfl (one_at _ _ _) (by intro u hu; rw [List.mem_singleton] at hu; subst hu; rfl) (by unfold maxLen; omega) (by omega) (by simp; omega) ?_
  intro v' w' h1 h2 _
  refine h v' w' ?_ ?_
  · unfold RI
    rw [flatI_append, List.length_append]
    exact h1
  · exact ((Below.refl base w).alloc hb _).grown h2 (by simp; omega) (fun g hg => (hown.lt g hg).1)
/-- The answer is a new row of these numbers; nothing old has turned. -/
def RowI (w : World) (l : List Int) (e : Ending) (w' : World) : Prop := ∃ v, e = .returned v ∧ RI w' w.heap.size v l ∧ Seen w w'
/-- A slice of n numbers reads as this list. -/
def ZS (w : World) (ad : Option Addr) (n : Nat) (l : List Int) : Prop := SL (fun x => [Value.int .i64 x]) 1 0 w ad n l
theorem ZS.seen {w w' : World} {ad : Option Addr} {n : Nat} {l : List Int} (h : ZS w ad n l) (hs : Seen w w') : ZS w' ad n l := SL.seen (fun _ => rfl) h hs
theorem ZS.cells {w : World} {ad : Option Addr} {n : Nat} {l : List Int} (h : ZS w ad n l) (h0 : 0 < n) : ∃ b off, ad = some ⟨b, off, none⟩ ∧ ∀ i, i < n → w.cell? ⟨b, off + i, none⟩ = some (.int .i64 (bat l i)) := by
  obtain ⟨b, off, e, hc⟩ := h.2 h0
  refine ⟨b, off, e, fun i hi => ?_⟩
  have := hc i hi 0 (by omega)
  rw [Nat.mul_one, Nat.add_zero] at this
  exact this
theorem RI.slice {w : World} {base : Nat} {v : Value} {l : List Int} (h : RI w base v l) : ∃ a c, v = .slice a l.length c ∧ ZS w a l.length l ∧ l.length ≤ c := by
  rcases h.2 with ⟨rfl, hn⟩ | ⟨g, cap, cur, rfl, hb, hh, h1, h2, h3, h4⟩
  · refine ⟨none, 0, by rw [hn], ⟨rfl, fun h => absurd h (by omega)⟩, by omega⟩
  · refine ⟨_, cap, rfl, ⟨rfl, fun _ => ⟨g, 0, rfl, fun i hi j hj => ?_⟩⟩, h1⟩
    obtain rfl : j = 0 := by omega
    have hc := World.ownsRow.cellAt h i (by omega)
    rw [Nat.zero_add, Nat.mul_one, Nat.add_zero, hc, flatI_at hi]
    rfl
end Go.Proofs.Yteplmjgohnbpbaa
