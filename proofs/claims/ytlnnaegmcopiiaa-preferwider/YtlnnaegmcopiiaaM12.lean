/- Texts of the proof, merged: KinAt, Base, SumMath, PfM, Blk. -/
import Derived.Test.YtlnnaegmcopiiaaM11
import Derived.Test.YtlnnaegmcopiiaaM0
import Derived.WalkKit
import Derived.ProofKit
import Derived.OpenShut
import Derived.Lib.Hide
import Derived.Below
/- Contracts of at, Parent, End, Deep, Made, Out, Below and Style of a Kin; no conditions beyond those written in each theorem. -/
namespace Go.Proofs.Ytlnnaegmcopiiaa
open Go.ChangeShapes Go.WideShapes Go.ChangeAt Go.RowKit
set_option maxRecDepth 100000
theorem KV.node {w : World} {v : Value} {l : List Nd} {n : Int} (h : KV w v l) (hb : inB l n = true) : FormedT l ∧ l.length ≤ 65535 ∧ ∃ k : Nat, k < l.length ∧ n = k ∧ ∃ B G H, v = .pointer (some ⟨B, 0, none⟩) ∧ KK w B G H l (endN l) := by
  obtain ⟨k, hk, rfl⟩ := inB_iff.1 hb
  rcases h with ⟨_, rfl⟩ | ⟨h1, h2, h3⟩
  · simp at hk
  · exact ⟨h1, h2, k, hk, rfl, h3⟩
set_option maxHeartbeats 4000000 in
theorem at_any (v : Value) (l : List Nd) (n : Int) (w : World) (h : KV w v l) : Calls Try.prog 33 #[v, .int .i64 n] w fun e w' => e = .returned (plv (plAt l n)) ∧ Seen w w' := by
  have HH : Hid (∀ w', Seen w w' → Calls Try.prog 34 #[v, .int .i64 n] w' fun e w'' => e = .returned (.bool (inB l n)) ∧ w'' = w') := fun w' h' => has_any v l n w' (h.seen h')
  cases hb : inB l n
  · have e1 : Hid (plAt l n = noP) := by unfold Hid plAt; rw [hb]; rfl
    rw [hb] at HH
    clear h hb
    have S1 : Hid (∀ o, Seen w (w.alloc o)) := fun o => (Seen.refl w).alloc o
    go_enter Try.func33, Try.ntmps33
    go_wp2_with (go_at_call 34; refine (HH.out _ (S1.out _)).mono ?_; clear HH; rintro e w1 ⟨rfl, rfl⟩)
    go_returns
    rw [e1.out]
    exact ⟨rfl, S1.out _⟩
  · obtain ⟨_, h65, k, hk, rfl, B, G, H, rfl, hkk⟩ := h.node hb
    have e1 : Hid (plAt l (k : Int) = plE l (endN l) k) := by unfold Hid plAt; rw [hb]; rfl
    rw [hb] at HH
    have S1 : Hid (∀ o, Seen w (w.alloc o)) := fun o => (Seen.refl w).alloc o
    obtain ⟨c0, c1⟩ := hkk.objs
    obtain ⟨p0, p1, p2, p3, p4⟩ := hkk.place hk
    have c1' : ∀ o, (w.alloc o).cell? ⟨B, 1, none⟩ = _ := fun o => (S1.out o).cell c1
    have p0' : ∀ o, (w.alloc o).cell? ⟨H, k * 5, none⟩ = _ := fun o => (S1.out o).cell p0
    have p1' : ∀ o, (w.alloc o).cell? ⟨H, k * 5 + 1, none⟩ = _ := fun o => (S1.out o).cell p1
    have p2' : ∀ o, (w.alloc o).cell? ⟨H, k * 5 + 2, none⟩ = _ := fun o => (S1.out o).cell p2
    have p3' : ∀ o, (w.alloc o).cell? ⟨H, k * 5 + 3, none⟩ = _ := fun o => (S1.out o).cell p3
    have p4' : ∀ o, (w.alloc o).cell? ⟨H, k * 5 + 4, none⟩ = _ := fun o => (S1.out o).cell p4
    clear h hb hkk c0 c1 p0 p1 p2 p3 p4
    have hk' : (k : Int) < (l.length : Int) := by omega
    go_enter Try.func33, Try.ntmps33
    go_wp2_with (go_at_call 34; refine (HH.out _ (S1.out _)).mono ?_; clear HH; rintro e w1 ⟨rfl, rfl⟩)
    go_returns
    rw [e1.out]
    exact ⟨rfl, S1.out _⟩
theorem at_lit (v : Value) (l : List Nd) (n : Int) (w : World) (h : KV w v l) (P : Pl) (hP : plAt l n = P) : Calls Try.prog 33 #[v, .int .i64 n] w fun e w' => e = .returned (.agg #[.int .i64 P.par, .int .i64 P.stop, .int .i64 P.deep, .bool P.made, .bool P.out]) ∧ Seen w w' := by
  subst hP
  exact at_any v l n w h
theorem fieldP0 (a b c : Int) (d e : Bool) (w : World) : (Instr.field 53 (.agg #[.int .i64 a, .int .i64 b, .int .i64 c, .bool d, .bool e]) 0).run Try.prog w = .ok (.int .i64 a) w := by kernel_rfl
theorem fieldP1 (a b c : Int) (d e : Bool) (w : World) : (Instr.field 53 (.agg #[.int .i64 a, .int .i64 b, .int .i64 c, .bool d, .bool e]) 1).run Try.prog w = .ok (.int .i64 b) w := by kernel_rfl
theorem fieldP2 (a b c : Int) (d e : Bool) (w : World) : (Instr.field 53 (.agg #[.int .i64 a, .int .i64 b, .int .i64 c, .bool d, .bool e]) 2).run Try.prog w = .ok (.int .i64 c) w := by kernel_rfl
theorem fieldP3 (a b c : Int) (d e : Bool) (w : World) : (Instr.field 53 (.agg #[.int .i64 a, .int .i64 b, .int .i64 c, .bool d, .bool e]) 3).run Try.prog w = .ok (.bool d) w := by kernel_rfl
theorem fieldP4 (a b c : Int) (d e : Bool) (w : World) : (Instr.field 53 (.agg #[.int .i64 a, .int .i64 b, .int .i64 c, .bool d, .bool e]) 4).run Try.prog w = .ok (.bool e) w := by kernel_rfl
theorem end_kin (v : Value) (l : List Nd) (n : Int) (w : World) (h : KV w v l) : Calls Try.prog 47 #[v, .int .i64 n] w fun e w' => e = .returned (.int .i64 (plAt l n).stop) ∧ Seen w w' := by
  obtain ⟨P, hP⟩ : ∃ P, plAt l n = P := ⟨_, rfl⟩
  have HA := Lib.hid (at_lit v l n w h P hP)
  rw [hP]
  clear h hP
  have hf := fieldP1 P.par P.stop P.deep P.made P.out
  go_enter Try.func47, Try.ntmps47
  go_wp2_with (go_at_call 33; refine HA.out.mono ?_; clear HA; rintro e w1 ⟨rfl, hs⟩; have S1 := Lib.hid hs; clear hs)
  go_ret
  exact ⟨rfl, S1.out⟩
theorem made_kin (v : Value) (l : List Nd) (n : Int) (w : World) (h : KV w v l) : Calls Try.prog 17 #[v, .int .i64 n] w fun e w' => e = .returned (.bool (plAt l n).made) ∧ Seen w w' := by
  obtain ⟨P, hP⟩ : ∃ P, plAt l n = P := ⟨_, rfl⟩
  have HA := Lib.hid (at_lit v l n w h P hP)
  rw [hP]
  clear h hP
  have hf := fieldP3 P.par P.stop P.deep P.made P.out
  go_enter Try.func17, Try.ntmps17
  go_wp2_with (go_at_call 33; refine HA.out.mono ?_; clear HA; rintro e w1 ⟨rfl, hs⟩; have S1 := Lib.hid hs; clear hs)
  go_ret
  exact ⟨rfl, S1.out⟩
theorem out_kin (v : Value) (l : List Nd) (n : Int) (w : World) (h : KV w v l) : Calls Try.prog 37 #[v, .int .i64 n] w fun e w' => e = .returned (.bool (plAt l n).out) ∧ Seen w w' := by
  obtain ⟨P, hP⟩ : ∃ P, plAt l n = P := ⟨_, rfl⟩
  have HA := Lib.hid (at_lit v l n w h P hP)
  rw [hP]
  clear h hP
  have hf := fieldP4 P.par P.stop P.deep P.made P.out
  go_enter Try.func37, Try.ntmps37
  go_wp2_with (go_at_call 33; refine HA.out.mono ?_; clear HA; rintro e w1 ⟨rfl, hs⟩; have S1 := Lib.hid hs; clear hs)
  go_ret
  exact ⟨rfl, S1.out⟩
theorem plAt_in {l : List Nd} {n : Int} (h : inB l n = true) : plAt l n = plE l (endN l) n.toNat := by unfold plAt; rw [h]; rfl
theorem plAt_no {l : List Nd} {n : Int} (h : inB l n = false) : plAt l n = noP := by unfold plAt; rw [h]; rfl
theorem plAt_nat {l : List Nd} {n : Nat} (h : n < l.length) : plAt l n = plE l (endN l) n := by rw [plAt_in (inB_nat h), Int.toNat_natCast]
theorem plAt_stop (l : List Nd) (n : Int) : (plAt l n).stop = endV l n := by
  unfold endV
  cases h : inB l n
  · rw [plAt_no h]; rfl
  · rw [plAt_in h]; rfl
theorem below_kin (v : Value) (l : List Nd) (a n : Int) (w : World) (h : KV w v l) : Calls Try.prog 46 #[v, .int .i64 a, .int .i64 n] w fun e w' => e = .returned (.bool (belV l a n)) ∧ Seen w w' := by
  have HH := Lib.hid (has_any v l a w h)
  have HE := Lib.hid (end_kin v l a w h)
  rw [plAt_stop] at HE
  clear h
  unfold belV
  obtain ⟨E, hE⟩ : ∃ E, endV l a = E := ⟨_, rfl⟩
  rw [hE] at HE ⊢
  clear hE
  obtain ⟨b, hb⟩ : ∃ b, inB l a = b := ⟨_, rfl⟩
  rw [hb] at HH ⊢
  clear hb
  cases b
  · go_enter Try.func46, Try.ntmps46
    go_wp2_with (go_at_call 34; refine HH.out.mono ?_; clear HH; rintro e w1 ⟨rfl, rfl⟩)
    go_ret
    exact ⟨rfl, Seen.refl _⟩
  · by_cases hle : a ≤ n
    · go_enter Try.func46, Try.ntmps46
      go_wp2_with (first
        | (go_at_call 34; refine HH.out.mono ?_; clear HH; rintro e w1 ⟨rfl, rfl⟩)
        | (go_at_call 47; refine HE.out.mono ?_; clear HE; rintro e w1 ⟨rfl, hs⟩; have S1 := Lib.hid hs; clear hs))
      go_ret
      exact ⟨by simp [hle], S1.out⟩
    · go_enter Try.func46, Try.ntmps46
      go_wp2_with (go_at_call 34; refine HH.out.mono ?_; clear HH; rintro e w1 ⟨rfl, rfl⟩)
      go_ret
      exact ⟨by simp; omega, Seen.refl _⟩
set_option maxHeartbeats 4000000 in
theorem style_kin (v : Value) (l : List Nd) (n : Int) (w : World) (h : KV w v l) : Calls Try.prog 18 #[v, .int .i64 n] w fun e w' => e = .returned (sv (styAt l n)) ∧ Seen w w' := by
  obtain ⟨W, hW⟩ : ∃ W, W = w.alloc (.cells (stl zeroS).toArray 39) := ⟨_, rfl⟩
  have HZ : Hid (Hs W w.heap.size zeroS) := by rw [hW]; exact hs_new w zeroS
  have SW : Hid (Seen w W) := by rw [hW]; exact (Seen.refl w).alloc _
  have HH := Lib.hid (has_any v l n W (h.seen SW.out))
  cases hb : inB l n
  · have e1 : Hid (styAt l n = zeroS) := by unfold Hid styAt; rw [hb]; rfl
    rw [hb] at HH
    clear h hb
    go_enter Try.func18, Try.ntmps18
    go_wp2_with (first
      | (rw [zero_lit, ← hW]; clear hW; go_at_call 34; refine HH.out.mono ?_; clear HH; rintro e w1 ⟨rfl, rfl⟩)
      | (rw [zero_lit]; refine wpList_storeS rfl _ _ rfl w.heap.size zeroS zeroS rfl rfl zero_full zero_full HZ.out ?_; intro w2 hs2 ht2; have R2 := Lib.hid (And.intro hs2 ht2); clear hs2 ht2))
    refine bodyPost_ret (results_cell Try.results18 rfl (run_loadS R2.out.1 zero_full)) rfl ?_
    rw [e1.out]
    exact ⟨rfl, SW.out.turns R2.out.2 (Nat.le_refl _)⟩
  · obtain ⟨_, h65, k, hk, rfl, B, G, H, rfl, hkk⟩ := h.node hb
    have e1 : Hid (styAt l (k : Int) = (nd l k).s) := by unfold Hid styAt; rw [hb]; rfl
    rw [hb] at HH
    obtain ⟨c0, c1⟩ := (hkk.seen SW.out).objs
    have ST : Hid (W.rangeAt G (k * 48) (stl (nd l k).s)) := (hkk.seen SW.out).style hk
    have hk' : (k : Int) < (l.length : Int) := by omega
    clear h hb hkk c1
    go_enter Try.func18, Try.ntmps18
    go_wp2_with (first
      | (rw [zero_lit, ← hW]; clear hW; go_at_call 34; refine HH.out.mono ?_; clear HH; rintro e w1 ⟨rfl, rfl⟩)
      | (refine wpList_load_mid rfl 39 (.tmp 15) rfl G (k * 48) rfl (stl (nd l k).s) _ ST.out Try.underlying39 rfl (by rw [(nd l k).full.len]; exact info27) ?_; clear ST)
      | (refine wpList_storeS rfl (.tmp 4) (.tmp 16) rfl w.heap.size zeroS (nd l k).s rfl rfl (nd l k).full zero_full HZ.out ?_; intro w2 hs2 ht2; have R2 := Lib.hid (And.intro hs2 ht2); clear hs2 ht2))
    refine bodyPost_ret (results_cell Try.results18 rfl (run_loadS R2.out.1 (nd l k).full)) rfl ?_
    rw [e1.out]
    exact ⟨rfl, SW.out.turns R2.out.2 (Nat.le_refl _)⟩
end Go.Proofs.Ytlnnaegmcopiiaa

/- Contracts of the functions of package fix, of their reference twins and of the law package's own check, over the translation of this seat; no conditions beyond those written in each theorem. -/
namespace Go.Proofs.Ytlnnaegmcopiiaa
open Go.ChangeShapes Go.WideShapes Go.ChangeAt Go.RowKit
set_option maxRecDepth 100000

def fitsB (n : Int) : Bool := decide (-1125899906842624 ≤ n ∧ n ≤ 1125899906842624)

theorem fitsB_t {n : Int} (h1 : -1125899906842624 ≤ n) (h2 : n ≤ 1125899906842624) : fitsB n = true := by
  unfold fitsB; simp; omega
theorem fitsB_f {n : Int} (h : ¬ (-1125899906842624 ≤ n ∧ n ≤ 1125899906842624)) : fitsB n = false := by
  unfold fitsB; simpa using h

theorem fits_any (n : Int) (w : World) :
    Calls Try.prog 53 #[.int .i64 n] w fun e w' => e = .returned (.bool (fitsB n)) ∧ w = w' := by
  by_cases h1 : -1125899906842624 ≤ n
  · by_cases h2 : n ≤ 1125899906842624
    · have H := Lib.hid (fitsB_t h1 h2)
      go_enter Try.func53, Try.ntmps53
      go_wp2
      go_ret
      exact ⟨ret_bool H.out.symm, rfl⟩
    · have H := Lib.hid (fitsB_f (n := n) (by omega))
      go_enter Try.func53, Try.ntmps53
      go_wp2
      go_ret
      exact ⟨ret_bool H.out.symm, rfl⟩
  · have H := Lib.hid (fitsB_f (n := n) (by omega))
    go_enter Try.func53, Try.ntmps53
    go_wp2
    go_ret
    exact ⟨ret_bool H.out.symm, rfl⟩

theorem refFits_any (n : Int) (w : World) :
    Calls Try.prog 39 #[.int .i64 n] w fun e w' => e = .returned (.bool (fitsB n)) ∧ w = w' := by
  by_cases h1 : -1125899906842624 ≤ n
  · by_cases h2 : n ≤ 1125899906842624
    · have H := Lib.hid (fitsB_t h1 h2)
      go_enter Try.func39, Try.ntmps39
      go_wp2
      go_ret
      exact ⟨ret_bool H.out.symm, rfl⟩
    · have H := Lib.hid (fitsB_f (n := n) (by omega))
      go_enter Try.func39, Try.ntmps39
      go_wp2
      go_ret
      exact ⟨ret_bool H.out.symm, rfl⟩
  · have H := Lib.hid (fitsB_f (n := n) (by omega))
    go_enter Try.func39, Try.ntmps39
    go_wp2
    go_ret
    exact ⟨ret_bool H.out.symm, rfl⟩

/-- 'the lesser of n and m, or l if that is greater', as a number. -/
def clampI (n l m : Int) : Int := max (min n m) l

def halfI (n : Int) : Int := n / 2

theorem tdiv2 (n : Int) (h : n < 0) : n.tdiv 2 = -((-n) / 2) := by
  have h2 : n = -(-n) := by omega
  rw [h2, Int.neg_tdiv, Int.tdiv_eq_ediv_of_nonneg (by omega)]; omega
theorem tmod2 (n : Int) (h : n < 0) : n.tmod 2 = -((-n) % 2) := by
  have h2 : n = -(-n) := by omega
  rw [h2, Int.neg_tmod, Int.tmod_eq_emod_of_nonneg (by omega)]; omega

end Go.Proofs.Ytlnnaegmcopiiaa

/- Plain facts on lists of integers and on a slice of int64 in memory: what the sum contracts speak of. -/
namespace Go.Proofs.Ytlnnaegmcopiiaa
open Go.ChangeShapes Go.WideShapes Go.ChangeAt Go.RowKit
set_option maxRecDepth 100000

def isum : List Int → Int
  | [] => 0
  | x :: r => x + isum r

theorem isum_append (a b : List Int) : isum (a ++ b) = isum a + isum b := by
  induction a with
  | nil => simp [isum]
  | cons x r ih => simp only [List.cons_append, isum, ih]; omega

theorem isum_reverse (a : List Int) : isum a.reverse = isum a := by
  induction a with
  | nil => rfl
  | cons x r ih => rw [List.reverse_cons, isum_append, ih]; simp only [isum]; omega

/-- The element at k (0 beyond the end), under a name of its own. -/
def zat (zs : List Int) (k : Nat) : Int := zs.getD k 0
theorem zat_eq {zs : List Int} {k : Nat} (h : k < zs.length) : zat zs k = zs[k] := by unfold zat; simp [h]

theorem isum_take_succ (zs : List Int) (k : Nat) (h : k < zs.length) : isum (zs.take (k + 1)) = isum (zs.take k) + zat zs k := by
  have e : zs.take (k + 1) = zs.take k ++ [zat zs k] := by
    rw [List.take_succ_eq_append_getElem h, zat_eq h]
  rw [e, isum_append]; simp [isum]

theorem isum_bound (zs : List Int) (h : zs.all fitsB = true) : -(zs.length * 1125899906842624 : Int) ≤ isum zs ∧ isum zs ≤ (zs.length * 1125899906842624 : Int) := by
  induction zs with
  | nil => simp [isum]
  | cons x r ih =>
    rw [List.all_cons, Bool.and_eq_true] at h
    have h1 := ih h.2
    have h2 : -1125899906842624 ≤ x ∧ x ≤ 1125899906842624 := by have := h.1; unfold fitsB at this; simpa using this
    simp only [isum, List.length_cons]
    omega

/-- What Sum returns of a list: the sum and true where each element and the sum fit, else 0 and false. -/
def sumB (zs : List Int) : Bool := zs.all fitsB && fitsB (isum zs)
def sumN (zs : List Int) : Int := if sumB zs then isum zs else 0

theorem sumB_reverse (zs : List Int) : sumB zs.reverse = sumB zs := by
  unfold sumB; rw [isum_reverse, List.all_reverse]
theorem sumN_reverse (zs : List Int) : sumN zs.reverse = sumN zs := by
  unfold sumN; rw [sumB_reverse, isum_reverse]

theorem sum_bad {zs : List Int} {k : Nat} (hk : k < zs.length) (h : fitsB (zat zs k) = false) : sumN zs = 0 ∧ sumB zs = false := by
  have hB : sumB zs = false := by
    unfold sumB
    rw [Bool.and_eq_false_iff]
    left
    rw [List.all_eq_false]
    exact ⟨zat zs k, by rw [zat_eq hk]; exact List.getElem_mem hk, by rw [h]; decide⟩
  exact ⟨by unfold sumN; rw [hB]; rfl, hB⟩

theorem all_take_succ {zs : List Int} {k : Nat} (hk : k < zs.length) (h : (zs.take k).all fitsB = true) (h2 : fitsB (zat zs k) = true) : (zs.take (k + 1)).all fitsB = true := by
  have e : zs.take (k + 1) = zs.take k ++ [zat zs k] := by
    rw [List.take_succ_eq_append_getElem hk, zat_eq hk]
  rw [e, List.all_append, h]; simpa using h2

theorem sum_good {zs : List Int} (h : zs.all fitsB = true) (h2 : fitsB (isum zs) = true) : sumN zs = isum zs ∧ sumB zs = true := by
  have hB : sumB zs = true := by unfold sumB; rw [h, h2]; rfl
  exact ⟨by unfold sumN; rw [hB]; rfl, hB⟩
theorem sum_great {zs : List Int} (h2 : fitsB (isum zs) = false) : sumN zs = 0 ∧ sumB zs = false := by
  have hB : sumB zs = false := by unfold sumB; rw [h2, Bool.and_false]
  exact ⟨by unfold sumN; rw [hB]; rfl, hB⟩

/-- A slice of int64, nil let in, that reads as the list zs. -/
def ZI (w : World) (a : Option Addr) (n : Nat) (zs : List Int) : Prop :=
  zs.length = n ∧ (0 < n → ∃ b off, a = some ⟨b, off, none⟩ ∧ ∀ i, i < n → w.cell? ⟨b, off + i, none⟩ = some (.int .i64 (zat zs i)))
end Go.Proofs.Ytlnnaegmcopiiaa

/- Layer 15 as plain mathematics: the preferred width of a box; no conditions beyond those written in each theorem. -/
namespace Go.Proofs.Ytlnnaegmcopiiaa
open Go.ChangeShapes Go.WideShapes Go.ChangeAt Go.RowKit
set_option maxRecDepth 100000
/-- A length in units, or another number. -/
def uN (x : Ln) (o : Int) : Int := if x.k = 1 then x.n else o
/-- What adds up to the outer width. -/
def zsO (s : Sty) (x : Int) : List Int := [uN (lat s.lens 13) 0, bat s.bord 3, uN (lat s.lens 17) 0, x, uN (lat s.lens 15) 0, bat s.bord 1, uN (lat s.lens 11) 0]
def outP (s : Sty) : Option Int → Option Int
  | none => none
  | some x => if sumB (zsO s x) then some (sumN (zsO s x)) else none
/-- The greatest of some widths, but at least m. -/
def prW (O : Int → Option Int) : List Int → Int → Option Int
  | [], m => some m
  | k :: r, m => match O k with
    | none => none
    | some x => prW O r (max m x)
def bndP (s : Sty) : Option Int → Option Int
  | none => none
  | some w => some (clampI w (uN (lat s.lens 6) 0) (uN (lat s.lens 7) 1125899906842624))
/-- The preferred width, to some depth. -/
def prO (l : List Nd) : Nat → Int → Option Int
  | 0, _ => none
  | f + 1, n => bndP (styAt l n) (if (lat (styAt l n).lens 4).k = 1 then some (lat (styAt l n).lens 4).n else prW (fun k => outP (styAt l k) (prO l f k)) (flowV l n) 0)
/-- Content's answer. -/
def prefO (l : List Nd) (n : Int) : Option Int := if (plAt l n).made then prO l l.length n else none
/-- The answer as a value. -/
def prA (o : Option Int) : Value := .tuple #[.int .i64 (o.getD 0), .bool o.isSome]
theorem flow_mem {l : List Nd} {n : Nat} (h : FormedT l) {x : Int} (hx : x ∈ flowV l n) : ∃ m : Nat, x = m ∧ n < m ∧ m < l.length ∧ madeB l m = true ∧ (nd l m).p = n := by
  unfold flowV at hx
  split at hx
  · unfold flowTo at hx
    obtain ⟨h1, h2⟩ := List.mem_filter.1 hx
    unfold kidsTo at h1
    obtain ⟨m, hm, rfl⟩ := List.mem_map.1 h1
    obtain ⟨h3, h4⟩ := List.mem_filter.1 hm
    have h5 : m < l.length := by simpa using h3
    unfold kidB at h4
    rw [Bool.and_eq_true] at h4
    have h6 : (nd l m).p = n := by simpa using h4.2
    unfold flowF at h2
    rw [Bool.and_eq_true] at h2
    have := (par_lt h h5).2
    exact ⟨m, rfl, by omega, h5, h2.1, h6⟩
  · cases hx
end Go.Proofs.Ytlnnaegmcopiiaa

/- A block whose cells are all known, while it is stored into and others are laid. No number of a seat in it; no conditions beyond those written in each theorem. -/
namespace Go.Proofs.Ytlnnaegmcopiiaa
open Go.ChangeShapes Go.WideShapes Go.ChangeAt Go.RowKit
set_option maxRecDepth 100000
/-- The block B holds just these cells. -/
def Blk (w : World) (B : Nat) (l : List Value) (t : TypeId) : Prop := w.heap[B]? = some (.cells l.toArray t)
section
variable {w w' : World} {B : Nat} {l : List Value} {t : TypeId}
theorem Blk.lt (h : Blk w B l t) : B < w.heap.size := by
  rcases Nat.lt_or_ge B w.heap.size with h1 | h1
  · exact h1
  · have h2 : w.heap[B]? = none := Array.getElem?_eq_none h1
    rw [show w.heap[B]? = _ from h] at h2; cases h2
theorem Blk.new (w : World) (l : List Value) (t : TypeId) : Blk (w.alloc (.cells l.toArray t)) w.heap.size l t := World.alloc_heap_new w _
theorem Blk.seen (h : Blk w B l t) (hs : Seen w w') : Blk w' B l t := (hs.block B h.lt).trans h
theorem Blk.alloc (h : Blk w B l t) (o : Obj) : Blk (w.alloc o) B l t := h.seen ((Seen.refl w).alloc o)
theorem Blk.drew (h : Blk w B l t) : Blk w.drew B l t := h
theorem Blk.cell (h : Blk w B l t) (o : Nat) : w.cell? ⟨B, o, none⟩ = l[o]? := by
  rw [Go.Joins.cell_of_block h]; simp
theorem Blk.free (h : Blk w B l t) (o : Nat) : w.frozen? ⟨B, o, none⟩ = false := by
  simp [World.frozen?, show w.heap[B]? = _ from h]
theorem Blk.other (h : Blk w B l t) {p : Addr} (hp : p.block ≠ B) (v : Value) : Blk (w.setCell p v) B l t := (Below.heap_setCell w p v B (Ne.symm hp)).trans h
theorem Blk.set (h : Blk w B l t) (o : Nat) (v : Value) : Blk (w.setCell ⟨B, o, none⟩ v) B (l.set o v) t := by
  have hb : w.heap[B]? = some (.cells l.toArray t) := h
  unfold Blk World.setCell
  simp [Array.getElem?_modify, hb]
theorem Blk.rules2 {x y : Value} (h : Blk w B [x, y] t) : ∀ w', Seen w w' → w'.cell? ⟨B, 0, none⟩ = some x ∧ w'.cell? ⟨B, 1, none⟩ = some y ∧ (∀ o, w'.frozen? ⟨B, o, none⟩ = false) :=
  fun _ hs => ⟨(h.seen hs).cell 0, (h.seen hs).cell 1, (h.seen hs).free⟩
end
end Go.Proofs.Ytlnnaegmcopiiaa
