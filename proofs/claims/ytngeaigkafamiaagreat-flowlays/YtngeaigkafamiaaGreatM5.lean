/- Texts of the proof, merged: Div, RefPart, Blk, Size, Box, RefSize, OpenA, SumMath, Sums, Strut. -/
import Derived.Test.YtngeaigkafamiaaGreatM4
import Derived.BigQuiet
import Derived.Deep.QuietTactic
import Derived.Test.YtngeaigkafamiaaGreatM0
import Derived.Below
import Derived.Laws.Externs
namespace Go.Proofs.YtngeaigkafamiaaGreat
open Go.ChangeShapes Go.WideShapes Go.ChangeAt Go.RowKit
set_option maxRecDepth 100000
set_option maxRecDepth 100000 in
theorem len_10000 (w : World) : Calls Tryz.prog 108 #[.int .u64 10000] w fun e w' => e = .returned (.int .i64 14) ∧ w = w' := by
  go_enter Tryz.func108, Tryz.ntmps108
  go_wp2
  go_ret
  exact ⟨ret_int (by decide +kernel), rfl⟩
theorem lz_10000 (w : World) : Calls Tryz.prog 99 #[.int .u64 10000] w fun e w' => e = .returned (.int .i64 50) ∧ w = w' := by
  go_enter Tryz.func99, Tryz.ntmps99
  go_wp2_with (go_at_call 108; refine (len_10000 _).mono ?_; rintro e w' ⟨rfl, rfl⟩)
  go_ret
  exact ⟨rfl, rfl⟩
theorem ret_uu {a b c d : Int} (h : a = b) (h2 : c = d) : Ending.returned (.tuple #[.int .u64 a, .int .u64 c]) = .returned (.tuple #[.int .u64 b, .int .u64 d]) := by rw [h, h2]
theorem div_zero (lo : Int) (w : World) (h0 : 0 ≤ lo) (h1 : lo ≤ 18446744073709551615) :
    Calls Tryz.prog 80 #[.int .u64 0, .int .u64 lo, .int .u64 10000] w fun e w' => e = .returned (.tuple #[.int .u64 (lo / 10000), .int .u64 (lo % 10000)]) ∧ ∃ n, w' = w.drewN n := by
  go_enter Tryz.func80, Tryz.ntmps80
  go_wp2
  go_quiet (fail)
  go_wp2
  go_ret2
  exact ⟨rfl, nq, rfl⟩
theorem div_pos (hi lo : Int) (w : World) (g0 : 1 ≤ hi) (g1 : hi ≤ 63) (h0 : 0 ≤ lo) (h1 : lo ≤ 18446744073709551615) :
    Calls Tryz.prog 80 #[.int .u64 hi, .int .u64 lo, .int .u64 10000] w fun e w' => e = .returned (.tuple #[.int .u64 ((hi * 18446744073709551616 + lo) / 10000), .int .u64 ((hi * 18446744073709551616 + lo) % 10000)]) ∧ w = w' := by
  have hne : (hi == 0) = false := by simp; omega
  have E2 := Lib.hid (e_or hi lo (by omega) g1 h0 h1)
  have E3 := Lib.hid (e_wrap lo)
  have E4 := Lib.hid (e_and2 (lo % 16384) (by omega) (by omega))
  go_enter Tryz.func80, Tryz.ntmps80
  go_wp2_with (go_at_call 99; refine (lz_10000 _).mono ?_; rintro e w' ⟨rfl, rfl⟩)
  rw [e_and, E2.out, E3.out, E4.out]
  generalize hU : hi * 1125899906842624 + lo / 16384 = U
  have HU := Lib.hid hU
  have U0 : 0 ≤ U := by omega
  have U1 : U < 72057594037927936 := by omega
  clear hU
  rw [IntWalk.u64_quo U 2621440000 (by omega), IntWalk.u64_in (U / 2621440000 * 2621440000) (by omega), IntWalk.u64_in (U - U / 2621440000 * 2621440000) (by omega)]
  generalize hQ : U / 2621440000 = Q
  have HQ := Lib.hid hQ
  have Q0 : 0 ≤ Q := by omega
  have Q1 : Q < 27487791 := by omega
  generalize hR : U - Q * 2621440000 = R
  have HR := Lib.hid hR
  have R0 : 0 ≤ R := by omega
  have R1 : R < 2621440000 := by omega
  clear hR hQ
  go_loop [15, 16] (fun q r => q = .int .u64 Q ∧ r = .int .u64 R) (fun _ _ => 0)
  case atStart => exact ⟨rfl, rfl⟩
  case round =>
    obtain ⟨rfl, rfl⟩ := hrel
    go_wp2
    rw [e_un21 U Q R (lo % 16384) HR.out R0 R1 (by omega) (by omega)]
    generalize hT : R * 4294967296 + lo % 16384 * 262144 = T
    have HT := Lib.hid hT
    have T0 : 0 ≤ T := by omega
    have T1 : T < 11258999068426240000 := by omega
    clear hT
    rw [IntWalk.u64_quo T 2621440000 (by omega), IntWalk.u64_in (T / 2621440000 * 2621440000) (by omega), IntWalk.u64_in (T - T / 2621440000 * 2621440000) (by omega)]
    generalize hP : T / 2621440000 = P
    have HP := Lib.hid hP
    have P0 : 0 ≤ P := by omega
    have P1 : P < 4294967296 := by omega
    generalize hS : T - P * 2621440000 = S
    have HS := Lib.hid hS
    have S0 : 0 ≤ S := by omega
    have S1 : S < 2621440000 := by omega
    clear hS hP
    go_loop [18, 16] (fun q r => q = .int .u64 P ∧ r = .int .u64 S) (fun _ _ => 0)
    case atStart => exact ⟨rfl, rfl⟩
    case round =>
      obtain ⟨rfl, rfl⟩ := hrel
      go_wp2
      go_ret2
      refine ⟨ret_uu ?_ ?_, rfl⟩
      · rw [← (div_fin hi lo U Q R T P S HU.out HR.out HT.out HS.out S0 S1).1]
      · exact e_rem T P _ (div_fin hi lo U Q R T P S HU.out HR.out HT.out HS.out S0 S1).2 (by omega) (by omega)
theorem mul_any (x y : Int) (w : World) (x0 : 0 ≤ x) (x1 : x ≤ 1125899906842624) (y0 : 0 ≤ y) (y1 : y ≤ 1000000) :
    Calls Tryz.prog 79 #[.int .u64 x, .int .u64 y] w fun e w' => e = .returned (.tuple #[.int .u64 (x * y / 18446744073709551616), .int .u64 (x * y % 18446744073709551616)]) ∧ w = w' := by
  go_enter Tryz.func79, Tryz.ntmps79
  go_wp2
  go_ret2
  refine ⟨ret_uu ?_ ?_, rfl⟩
  · exact mul_hi x y x0 x1 y0 y1
  · exact IntKind.wrap_u64 (x * y)
end Go.Proofs.YtngeaigkafamiaaGreat
namespace Go.Proofs.YtngeaigkafamiaaGreat
open Go.ChangeShapes Go.WideShapes Go.ChangeAt Go.RowKit
set_option maxRecDepth 100000
theorem div_any (M : Int) (w : World) (h0 : 0 ≤ M) (h1 : M ≤ 1125899906842624000000) :
    Calls Tryz.prog 80 #[.int .u64 (M / 18446744073709551616), .int .u64 (M % 18446744073709551616), .int .u64 10000] w fun e w' => e = .returned (.tuple #[.int .u64 (M / 10000), .int .u64 (M % 10000)]) ∧ ∃ n, w' = w.drewN n := by
  by_cases hz : M / 18446744073709551616 = 0
  · have e1 : M % 18446744073709551616 = M := by omega
    rw [hz, e1]
    exact div_zero M w h0 (by omega)
  · refine (div_pos (M / 18446744073709551616) (M % 18446744073709551616) w (by omega) (by omega) (by omega) (by omega)).mono ?_
    rintro e w' ⟨rfl, rfl⟩
    refine ⟨?_, 0, rfl⟩
    have e2 : M / 18446744073709551616 * 18446744073709551616 + M % 18446744073709551616 = M := by omega
    rw [e2]
theorem refPart_no (b p : Int) (w : World) (h : partR b p = false) :
    Calls Tryz.prog 53 #[.int .i64 b, .int .i64 p] w fun e w' => e = .returned (.tuple #[.int .i64 (partN b p), .bool (partB b p)]) ∧ ∃ n, w' = w.drewN n := by
  have H1 := Lib.hid (show partB b p = false by unfold partB; simp [h])
  have H2 := Lib.hid (show partN b p = 0 by unfold partN; rw [H1.out]; rfl)
  have h3 : ¬ (0 ≤ b ∧ b ≤ 1125899906842624 ∧ -1000000 ≤ p ∧ p ≤ 1000000) := by unfold partR at h; simpa using h
  clear h
  by_cases h4 : b < 0
  · clear h3
    go_enter Tryz.func53, Tryz.ntmps53
    go_wp2
    go_ret2
    exact ⟨ret_two H2.out.symm H1.out.symm, 0, rfl⟩
  · by_cases h5 : 1125899906842624 < b
    · clear h3
      go_enter Tryz.func53, Tryz.ntmps53
      go_wp2
      go_ret2
      exact ⟨ret_two H2.out.symm H1.out.symm, 0, rfl⟩
    · by_cases h6 : p < -1000000
      · clear h3
        go_enter Tryz.func53, Tryz.ntmps53
        go_wp2
        go_ret2
        exact ⟨ret_two H2.out.symm H1.out.symm, 0, rfl⟩
      · have h7 : 1000000 < p := by omega
        clear h3
        go_enter Tryz.func53, Tryz.ntmps53
        go_wp2
        go_ret2
        exact ⟨ret_two H2.out.symm H1.out.symm, 0, rfl⟩
theorem partN_of {b p v : Int} (hr : partR b p = true) (hv : partV b p = v) (h1 : -1125899906842624 ≤ v) (h2 : v ≤ 1125899906842624) : partN b p = v ∧ partB b p = true := by
  have hB : partB b p = true := by unfold partB; rw [hr, hv, fitsB_t h1 h2]; rfl
  exact ⟨by unfold partN; rw [hB, hv]; rfl, hB⟩
theorem partN_out {b p v : Int} (hv : partV b p = v) (h : ¬ (-1125899906842624 ≤ v ∧ v ≤ 1125899906842624)) : partN b p = 0 ∧ partB b p = false := by
  have hB : partB b p = false := by unfold partB; rw [hv, fitsB_f h, Bool.and_false]
  exact ⟨by unfold partN; rw [hB]; rfl, hB⟩
theorem refPart_pos (b p : Int) (w : World) (h1 : 0 ≤ b) (h2 : b ≤ 1125899906842624) (h3 : 0 ≤ p) (h4 : p ≤ 1000000) :
    Calls Tryz.prog 53 #[.int .i64 b, .int .i64 p] w fun e w' => e = .returned (.tuple #[.int .i64 (partN b p), .bool (partB b p)]) ∧ ∃ n, w' = w.drewN n := by
  have hr : partR b p = true := by unfold partR; simp; omega
  have HR := Lib.hid hr
  clear hr
  have HV := Lib.hid (show partV b p = b * p / 10000 from rfl)
  have m1 := (mul_bounds (q := b) (p := p) (Q := 1125899906842624) (P := 1000000) h1 h2 (by omega) h4).2
  have m0 : 0 ≤ b * p := Int.mul_nonneg h1 h3
  go_enter Tryz.func53, Tryz.ntmps53
  go_wp2_with fail
  refine (mul_any b p _ h1 h2 h3 h4).mono ?_
  rintro e w' ⟨rfl, rfl⟩
  generalize b * p = M at *
  go_wp2_with fail
  refine (div_any M _ m0 m1).mono ?_
  rintro e w' ⟨rfl, n, rfl⟩
  have q0 : 0 ≤ M / 10000 := by omega
  have q1 : M / 10000 ≤ 112589990684262400 := by omega
  generalize M / 10000 = q at *
  generalize M % 10000 = r
  go_wp2
  all_goals
    go_ret2
    first
    | exact ⟨ret_two (partN_of HR.out HV.out (by omega) (by omega)).1.symm (partN_of HR.out HV.out (by omega) (by omega)).2.symm, n, rfl⟩
    | exact ⟨ret_two (partN_out HV.out (by omega)).1.symm (partN_out HV.out (by omega)).2.symm, n, rfl⟩
theorem partV_neg (b p M : Int) (h : b * -p = M) : partV b p = -(M / 10000 + if 0 < M % 10000 then 1 else 0) := by
  have e : b * p = -M := by rw [← h, Int.mul_neg, Int.neg_neg]
  unfold partV
  rw [e]
  split <;> omega
theorem refPart_neg (b p : Int) (w : World) (h1 : 0 ≤ b) (h2 : b ≤ 1125899906842624) (h3 : -1000000 ≤ p) (h4 : p < 0) :
    Calls Tryz.prog 53 #[.int .i64 b, .int .i64 p] w fun e w' => e = .returned (.tuple #[.int .i64 (partN b p), .bool (partB b p)]) ∧ ∃ n, w' = w.drewN n := by
  have hr : partR b p = true := by unfold partR; simp; omega
  have HR := Lib.hid hr
  clear hr
  have m1 := (mul_bounds (q := b) (p := -p) (Q := 1125899906842624) (P := 1000000) h1 h2 (by omega) (by omega)).2
  have m0 : 0 ≤ b * -p := Int.mul_nonneg h1 (by omega)
  have HV := Lib.hid (partV_neg b p (b * -p) rfl)
  go_enter Tryz.func53, Tryz.ntmps53
  go_wp2_with fail
  refine (mul_any b (-p) _ h1 h2 (by omega) (by omega)).mono ?_
  rintro e w' ⟨rfl, rfl⟩
  generalize b * -p = M at *
  go_wp2_with fail
  refine (div_any M _ m0 m1).mono ?_
  rintro e w' ⟨rfl, n, rfl⟩
  have q0 : 0 ≤ M / 10000 := by omega
  have q1 : M / 10000 ≤ 112589990684262400 := by omega
  generalize M / 10000 = q at *
  generalize M % 10000 = r at *
  by_cases hr : 0 < r
  · have HV2 := Lib.hid (show partV b p = -(q + 1) by rw [HV.out, if_pos hr])
    go_wp2
    all_goals
      go_ret2
      first
      | exact ⟨ret_two (partN_of HR.out HV2.out (by omega) (by omega)).1.symm (partN_of HR.out HV2.out (by omega) (by omega)).2.symm, n, rfl⟩
      | exact ⟨ret_two (partN_out HV2.out (by omega)).1.symm (partN_out HV2.out (by omega)).2.symm, n, rfl⟩
  · have HV2 := Lib.hid (show partV b p = -q by rw [HV.out, if_neg hr, Int.add_zero])
    go_wp2
    all_goals
      go_ret2
      first
      | exact ⟨ret_two (partN_of HR.out HV2.out (by omega) (by omega)).1.symm (partN_of HR.out HV2.out (by omega) (by omega)).2.symm, n, rfl⟩
      | exact ⟨ret_two (partN_out HV2.out (by omega)).1.symm (partN_out HV2.out (by omega)).2.symm, n, rfl⟩
theorem refPart_any (b p : Int) (w : World) :
    Calls Tryz.prog 53 #[.int .i64 b, .int .i64 p] w fun e w' => e = .returned (.tuple #[.int .i64 (partN b p), .bool (partB b p)]) ∧ ∃ n, w' = w.drewN n := by
  cases h : partR b p with
  | false => exact refPart_no b p w h
  | true =>
    have h3 : 0 ≤ b ∧ b ≤ 1125899906842624 ∧ -1000000 ≤ p ∧ p ≤ 1000000 := by unfold partR at h; simpa using h
    by_cases h4 : p < 0
    · exact refPart_neg b p w h3.1 h3.2.1 h3.2.2.1 h4
    · exact refPart_pos b p w h3.1 h3.2.1 (by omega) h3.2.2.2
end Go.Proofs.YtngeaigkafamiaaGreat
namespace Go.Proofs.YtngeaigkafamiaaGreat
open Go.ChangeShapes Go.WideShapes Go.ChangeAt Go.RowKit
set_option maxRecDepth 100000
def Blk (w : World) (B : Nat) (l : List Value) (t : TypeId) : Prop := w.heap[B]? = some (.cells l.toArray t)
section
variable {w w' : World} {B : Nat} {l : List Value} {t : TypeId}
theorem Blk.lt (h : Blk w B l t) : B < w.heap.size := by
  rcases Nat.lt_or_ge B w.heap.size with h1 | h1
  · exact h1
  · have h2 : w.heap[B]? = none := Array.getElem?_eq_none h1
    rw [show w.heap[B]? = _ from h] at h2; cases h2
theorem Blk.new (w : World) (l : List Value) (t : TypeId) : Blk (w.alloc (.cells l.toArray t)) w.heap.size l t := World.alloc_heap_new w _
theorem Blk.seen (h : Blk w B l t) (hs : Seen w w') : Blk w' B l t := (hs.block B h.lt).trans h
theorem Blk.alloc (h : Blk w B l t) (o : Obj) : Blk (w.alloc o) B l t := h.seen ((Seen.refl w).alloc o)
theorem Blk.drew (h : Blk w B l t) : Blk w.drew B l t := h
theorem Blk.cell (h : Blk w B l t) (o : Nat) : w.cell? ⟨B, o, none⟩ = l[o]? := by
  rw [Go.Joins.cell_of_block h]; simp
theorem Blk.free (h : Blk w B l t) (o : Nat) : w.frozen? ⟨B, o, none⟩ = false := by
  simp [World.frozen?, show w.heap[B]? = _ from h]
theorem Blk.other (h : Blk w B l t) {p : Addr} (hp : p.block ≠ B) (v : Value) : Blk (w.setCell p v) B l t := (Below.heap_setCell w p v B (Ne.symm hp)).trans h
theorem Blk.set (h : Blk w B l t) (o : Nat) (v : Value) : Blk (w.setCell ⟨B, o, none⟩ v) B (l.set o v) t := by
  have hb : w.heap[B]? = some (.cells l.toArray t) := h
  unfold Blk World.setCell
  simp [Array.getElem?_modify, hb]
theorem Blk.rules2 {x y : Value} (h : Blk w B [x, y] t) : ∀ w', Seen w w' → w'.cell? ⟨B, 0, none⟩ = some x ∧ w'.cell? ⟨B, 1, none⟩ = some y ∧ (∀ o, w'.frozen? ⟨B, o, none⟩ = false) :=
  fun _ hs => ⟨(h.seen hs).cell 0, (h.seen hs).cell 1, (h.seen hs).free⟩
end
end Go.Proofs.YtngeaigkafamiaaGreat
namespace Go.Proofs.YtngeaigkafamiaaGreat
open Go.ChangeShapes Go.WideShapes Go.ChangeAt Go.RowKit
set_option maxRecDepth 100000
structure Sz where
  au : Bool
  n : Int
deriving DecidableEq
def ofS (k n b : Int) (has : Bool) : Sz :=
  if k = 0 then ⟨true, 0⟩ else if k = 1 then ⟨false, if fitsB n then n else 0⟩ else if k = 2 then (if has then ⟨false, partN b n⟩ else ⟨true, 0⟩) else ⟨false, 0⟩
def ofB (k n b : Int) (has : Bool) : Bool :=
  if k = 0 then true else if k = 1 then fitsB n else if k = 2 then (if has then partB b n else true) else false
def orV (s : Sz) (n : Int) : Int := if s.au then n else s.n
def ofOrV (k n b : Int) (has : Bool) (d : Int) : Int := if ofB k n b has then orV (ofS k n b has) d else 0
theorem known_any (n : Int) (b : Bool) (w : World) :
    Calls Tryz.prog 90 #[.int .i64 n, .bool b] w fun e w' => e = .returned (.tuple #[.agg #[.bool false, .int .i64 (if b then n else 0)], .bool b]) ∧ Below w.heap.size w w' := by
  cases b
  · go_enter Tryz.func90, Tryz.ntmps90
    go_wp2
    go_returns
    exact ⟨rfl, by go_grown⟩
  · go_enter Tryz.func90, Tryz.ntmps90
    go_wp2
    go_returns
    exact ⟨rfl, by go_grown⟩
theorem or_any (s : Sz) (n : Int) (w : World) :
    Calls Tryz.prog 40 #[.agg #[.bool s.au, .int .i64 s.n], .int .i64 n] w fun e w' => e = .returned (.int .i64 (orV s n)) ∧ Below w.heap.size w w' := by
  obtain ⟨a, m⟩ := s
  cases a
  all_goals
    go_enter Tryz.func40, Tryz.ntmps40
    go_wp2
    go_ret
    exact ⟨rfl, by go_grown⟩
theorem refOr_any (s : Sz) (n : Int) (w : World) :
    Calls Tryz.prog 30 #[.agg #[.bool s.au, .int .i64 s.n], .int .i64 n] w fun e w' => e = .returned (.int .i64 (orV s n)) ∧ Below w.heap.size w w' := by
  obtain ⟨a, m⟩ := s
  cases a
  all_goals
    go_enter Tryz.func30, Tryz.ntmps30
    go_wp2
    go_ret
    exact ⟨rfl, by go_grown⟩
theorem known_as (n : Int) (b : Bool) (m : Int) (hm : (if b then n else 0) = m) (w : World) :
    Calls Tryz.prog 90 #[.int .i64 n, .bool b] w fun e w' => e = .returned (.tuple #[.agg #[.bool false, .int .i64 m], .bool b]) ∧ Below w.heap.size w w' := hm ▸ known_any n b w
def fitN (n : Int) : Int := if fitsB n then n else 0
theorem fits_eq (n : Int) (w : World) : Calls Tryz.prog 91 #[.int .i64 n] w fun e w' => e = .returned (.bool (fitsB n)) ∧ w' = w := (fits_any n w).mono fun _ _ h => ⟨h.1, h.2.symm⟩
theorem partN_if (b n : Int) : (if partB b n then partN b n else 0) = partN b n := by unfold partN; split <;> simp_all
theorem of_any (k n b : Int) (has : Bool) (w : World) :
    Calls Tryz.prog 67 #[.agg #[.int .i64 k, .int .i64 n], .int .i64 b, .bool has] w fun e w' => e = .returned (.tuple #[.agg #[.bool (ofS k n b has).au, .int .i64 (ofS k n b has).n], .bool (ofB k n b has)]) ∧ Below w.heap.size w w' := by
  by_cases h0 : k = 0
  · subst h0
    go_enter Tryz.func67, Tryz.ntmps67
    go_wp2
    go_returns
    exact ⟨rfl, by go_grown⟩
  · by_cases h1 : k = 1
    · subst h1
      clear h0
      have HS := Lib.hid (show ofS 1 n b has = ⟨false, fitN n⟩ from rfl)
      have HB := Lib.hid (show ofB 1 n b has = fitsB n from rfl)
      obtain ⟨W, hW⟩ : ∃ W, W = (w.alloc (.cells #[.int .i64 1, .int .i64 n] 63)).alloc (.cells #[.bool false, .int .i64 0] 24) := ⟨_, rfl⟩
      have b0 := Blk.rules2 (show Blk W w.heap.size [.int .i64 1, .int .i64 n] 63 by rw [hW]; exact (Blk.new w _ _).alloc _)
      have k1 : Blk W (w.heap.size + 1) [.bool false, .int .i64 0] 24 := by rw [hW]; simpa using Blk.new (w.alloc (.cells #[.int .i64 1, .int .i64 n] 63)) [.bool false, .int .i64 0] 24
      have b1 := Blk.rules2 k1
      have hWb : Below w.heap.size w W := by subst hW; go_grown
      have sr := Seen.refl W
      have c0 := b0 W sr
      go_enter Tryz.func67, Tryz.ntmps67
      go_wp2_with fail
      rw [← hW]
      clear hW
      have r0 := fun w' h => (b0 w' h).2.1
      go_region_held3 (fun w' => w'.cell? ⟨w.heap.size, 1, none⟩ = some (.int .i64 n))
        (first | exact r0 _ sr.drew | exact r0 _ s1 | (rw [World.cell?_setCell_far _ _ _ _ (by simp), World.cell?_setCell_far _ _ _ _ (by simp)]; exact r0 _ s1))
        (first
          | (go_at_call 91; refine (fits_eq n _).mono ?_; rintro _ w' ⟨rfl, rfl⟩)
          | (go_at_call 90; refine (known_as _ _ (fitN n) rfl _).mono ?_; rintro e w' ⟨rfl, hb⟩; have s1 : Seen W w' := sr.drew.next hb; clear hb))
      go_wp2_with fail
      have z := ((k1.seen s1).set 0 (.bool false)).set 1 (.int .i64 (fitN n))
      have z0 := z.cell 0
      have z1 := z.cell 1
      refine bodyPost_ret (by simp [results, Tryz.results67, go_sem, z0, z1]; try rfl) rfl ?_
      exact ⟨by rw [HS.out, HB.out], (hWb.trans (s1.mono hWb.size)).setCell (by simp) _ |>.setCell (by simp) _⟩
    · by_cases h2 : k = 2
      · subst h2
        clear h0 h1
        cases has
        · go_enter Tryz.func67, Tryz.ntmps67
          go_wp2
          go_returns
          exact ⟨rfl, by go_grown⟩
        · have HS := Lib.hid (show ofS 2 n b true = ⟨false, partN b n⟩ from rfl)
          have HB := Lib.hid (show ofB 2 n b true = partB b n from rfl)
          obtain ⟨W, hW⟩ : ∃ W, W = (w.alloc (.cells #[.int .i64 2, .int .i64 n] 63)).alloc (.cells #[.bool false, .int .i64 0] 24) := ⟨_, rfl⟩
          have b0 := Blk.rules2 (show Blk W w.heap.size [.int .i64 2, .int .i64 n] 63 by rw [hW]; exact (Blk.new w _ _).alloc _)
          have k1 : Blk W (w.heap.size + 1) [.bool false, .int .i64 0] 24 := by rw [hW]; simpa using Blk.new (w.alloc (.cells #[.int .i64 2, .int .i64 n] 63)) [.bool false, .int .i64 0] 24
          have b1 := Blk.rules2 k1
          have hWb : Below w.heap.size w W := by subst hW; go_grown
          have sr := Seen.refl W
          go_enter Tryz.func67, Tryz.ntmps67
          go_wp2_with (first | (go_at_call 92; rw [← hW]; clear hW; refine (part_any _ _ _).mono ?_; rintro e w' ⟨rfl, rfl⟩) | (go_at_call 90; refine (known_as _ _ (partN b n) (partN_if b n) _).mono ?_; rintro e w' ⟨rfl, hb⟩; have s1 : Seen W w' := sr.next hb; clear hb))
          have z := ((k1.seen s1).set 0 (.bool false)).set 1 (.int .i64 (partN b n))
          have z0 := z.cell 0
          have z1 := z.cell 1
          refine bodyPost_ret (by simp [results, Tryz.results67, go_sem, z0, z1]; try rfl) rfl ?_
          exact ⟨by rw [HS.out, HB.out], (hWb.trans (s1.mono hWb.size)).setCell (by simp) _ |>.setCell (by simp) _⟩
      · have HS := Lib.hid (show ofS k n b has = ⟨false, 0⟩ by unfold ofS; rw [if_neg h0, if_neg h1, if_neg h2])
        have HB := Lib.hid (show ofB k n b has = false by unfold ofB; rw [if_neg h0, if_neg h1, if_neg h2])
        go_enter Tryz.func67, Tryz.ntmps67
        go_wp2
        go_returns
        exact ⟨by rw [HS.out, HB.out], by go_grown⟩
theorem ofOr_any (k n b : Int) (has : Bool) (d : Int) (w : World) :
    Calls Tryz.prog 93 #[.agg #[.int .i64 k, .int .i64 n], .int .i64 b, .bool has, .int .i64 d] w fun e w' => e = .returned (.tuple #[.int .i64 (ofOrV k n b has d), .bool (ofB k n b has)]) ∧ Below w.heap.size w w' := by
  have HV := Lib.hid (show ofOrV k n b has d = if ofB k n b has then orV (ofS k n b has) d else 0 from rfl)
  obtain ⟨W, hW⟩ : ∃ W, W = w.alloc (.cells #[.int .i64 k, .int .i64 n] 63) := ⟨_, rfl⟩
  have b0 := Blk.rules2 (show Blk W w.heap.size [.int .i64 k, .int .i64 n] 63 by rw [hW]; exact Blk.new w _ _)
  have hWb : Below w.heap.size w W := by subst hW; go_grown
  have sr := Seen.refl W
  have oa := fun w => of_any k n b has w
  obtain ⟨s, hs⟩ : ∃ s, ofS k n b has = s := ⟨_, rfl⟩
  obtain ⟨c, hc⟩ : ∃ c, ofB k n b has = c := ⟨_, rfl⟩
  rw [hs, hc] at HV oa
  rw [hc]
  clear hs hc
  cases c
  · go_enter Tryz.func93, Tryz.ntmps93
    go_wp2_with (go_at_call 67; rw [← hW]; clear hW; refine (oa _).mono ?_; rintro e w' ⟨rfl, hb⟩; have s1 : Seen W w' := sr.next hb; clear hb)
    go_ret2
    exact ⟨ret_two HV.out.symm rfl, Seen.alloc (Seen.trans hWb s1) _⟩
  · go_enter Tryz.func93, Tryz.ntmps93
    go_wp2_with (first | (go_at_call 67; rw [← hW]; clear hW; refine (oa _).mono ?_; rintro e w' ⟨rfl, hb⟩; have s1 : Seen W w' := sr.next hb; clear hb) | (go_at_call 40; refine (or_any s d _).mono ?_; rintro e w2 ⟨rfl, hb⟩))
    go_ret2
    exact ⟨ret_two HV.out.symm rfl, Seen.next (Seen.alloc (Seen.trans hWb s1) _) hb⟩
end Go.Proofs.YtngeaigkafamiaaGreat
namespace Go.Proofs.YtngeaigkafamiaaGreat
open Go.ChangeShapes Go.WideShapes Go.ChangeAt Go.RowKit
set_option maxRecDepth 100000
abbrev szv (s : Sz) : Value := .agg #[.bool s.au, .int .i64 s.n]
structure Bx where
  base : Int
  lf : Sz
  wd : Sz
  rt : Sz
  ar : Int
  rtl : Bool
  lo : Int
  hi : Int
abbrev bxl (b : Bx) : List Value := [.int .i64 b.base, .bool b.lf.au, .int .i64 b.lf.n, .bool b.wd.au, .int .i64 b.wd.n, .bool b.rt.au, .int .i64 b.rt.n, .int .i64 b.ar, .bool b.rtl, .int .i64 b.lo, .int .i64 b.hi]
abbrev bxv (b : Bx) : Value := .agg #[.int .i64 b.base, .bool b.lf.au, .int .i64 b.lf.n, .bool b.wd.au, .int .i64 b.wd.n, .bool b.rt.au, .int .i64 b.rt.n, .int .i64 b.ar, .bool b.rtl, .int .i64 b.lo, .int .i64 b.hi]
structure O3 where
  l : Int
  w : Int
  r : Int
abbrev o3l (o : O3) : List Value := [.int .i64 o.l, .int .i64 o.w, .int .i64 o.r]
abbrev o3v (o : O3) : Value := .agg #[.int .i64 o.l, .int .i64 o.w, .int .i64 o.r]
def zO : O3 := ⟨0, 0, 0⟩
def tkL (b : Bx) (t : Int) : Bool := if t < 0 then b.rtl else if b.lf.au = false ∧ b.rt.au = false then b.rtl else b.lf.au
def tkR (b : Bx) (t : Int) : Bool := if t < 0 then !b.rtl else if b.lf.au = false ∧ b.rt.au = false then !b.rtl else b.rt.au
def fillR (b : Bx) (s : Sz) (t : Int) : O3 :=
  if s.au then ⟨orV b.lf 0, t, orV b.rt 0⟩
  else if tkL b t then (if tkR b t then ⟨halfI t, orV s 0, wrap64 (t - halfI t)⟩ else ⟨wrap64 (orV b.lf 0 + t), orV s 0, orV b.rt 0⟩)
  else ⟨orV b.lf 0, orV s 0, wrap64 (orV b.rt 0 + t)⟩
def restW (b : Bx) (s : Sz) : Int := wrap64 (wrap64 (wrap64 (wrap64 (b.base - b.ar) - orV b.lf 0) - orV s 0) - orV b.rt 0)
def fillW (b : Bx) (s : Sz) : O3 := fillR b s (restW b s)
def fitO (o : O3) : Bool := fitsB o.l && fitsB o.w && fitsB o.r
def tryB (b : Bx) (s : Sz) : Bool := fitO (fillW b s)
def tryO (b : Bx) (s : Sz) : O3 := if tryB b s then fillW b s else zO
def tryN (b : Bx) (s : Sz) : Int := if tryB b s then (fillW b s).w else 0
def okF (b : Bx) : Bool := fitsB b.base && fitsB b.ar && fitsB (orV b.lf 0) && fitsB (orV b.rt 0)
def nextHi (b : Bx) (s : Sz) : Sz := if tryB b s = true ∧ b.hi < (fillW b s).w then ⟨false, b.hi⟩ else s
def nextLo (b : Bx) (s : Sz) : Sz := if tryB b s = true ∧ (fillW b s).w < b.lo then ⟨false, b.lo⟩ else s
def lastS (b : Bx) : Sz := nextLo b (nextHi b b.wd)
def solB (b : Bx) : Bool := okF b && tryB b (lastS b)
def solO (b : Bx) : O3 := if solB b then fillW b (lastS b) else zO
theorem refFits_eq (n : Int) (w : World) : Calls Tryz.prog 52 #[.int .i64 n] w fun e w' => e = .returned (.bool (fitsB n)) ∧ w' = w := (refFits_any n w).mono fun _ _ h => ⟨h.1, h.2.symm⟩
theorem half_eq (n : Int) (w : World) : Calls Tryz.prog 115 #[.int .i64 n] w fun e w' => e = .returned (.int .i64 (halfI n)) ∧ w' = w := (half_any n w).mono fun _ _ h => ⟨h.1, h.2.symm⟩
theorem Blk.rules3 {w : World} {B : Nat} {t : TypeId} {x y z : Value} (h : Blk w B [x, y, z] t) : ∀ w', Seen w w' → w'.cell? ⟨B, 0, none⟩ = some x ∧ w'.cell? ⟨B, 1, none⟩ = some y ∧ w'.cell? ⟨B, 2, none⟩ = some z ∧ (∀ o, w'.frozen? ⟨B, o, none⟩ = false) :=
  fun _ hs => ⟨(h.seen hs).cell 0, (h.seen hs).cell 1, (h.seen hs).cell 2, (h.seen hs).free⟩
theorem ld28 {w : World} {A : Nat} {l m r : Int} (h : Blk w A [.int .i64 l, .int .i64 m, .int .i64 r] 159) : (Instr.loadAt 159 (.pointer (some ⟨A, 0, none⟩))).run Tryz.prog w = .ok (.agg #[.int .i64 l, .int .i64 m, .int .i64 r]) w := by
  have ra := h.rules3 _ (Seen.refl _)
  go_simp
theorem st28 {w : World} {A : Nat} {x y z : Value} (l m r : Int) (h : Blk w A [x, y, z] 159) : (Instr.storeAt 159 (.pointer (some ⟨A, 0, none⟩)) (.agg #[.int .i64 l, .int .i64 m, .int .i64 r])).run Tryz.prog w = .ok () (((w.setCell ⟨A, 0, none⟩ (.int .i64 l)).setCell ⟨A, 1, none⟩ (.int .i64 m)).setCell ⟨A, 2, none⟩ (.int .i64 r)) := by
  have ra := h.rules3 _ (Seen.refl _)
  go_simp
theorem ld31 {w : World} {A : Nat} {l m r : Int} (h : Blk w A [.int .i64 l, .int .i64 m, .int .i64 r] 101) : (Instr.loadAt 101 (.pointer (some ⟨A, 0, none⟩))).run Tryz.prog w = .ok (.agg #[.int .i64 l, .int .i64 m, .int .i64 r]) w := by
  have ra := h.rules3 _ (Seen.refl _)
  go_simp
theorem st31 {w : World} {A : Nat} {x y z : Value} (l m r : Int) (h : Blk w A [x, y, z] 101) : (Instr.storeAt 101 (.pointer (some ⟨A, 0, none⟩)) (.agg #[.int .i64 l, .int .i64 m, .int .i64 r])).run Tryz.prog w = .ok () (((w.setCell ⟨A, 0, none⟩ (.int .i64 l)).setCell ⟨A, 1, none⟩ (.int .i64 m)).setCell ⟨A, 2, none⟩ (.int .i64 r)) := by
  have ra := h.rules3 _ (Seen.refl _)
  go_simp
theorem ldk0 {w : World} {A : Nat} {t : TypeId} {l m r : Int} (h : Blk w A [.int .i64 l, .int .i64 m, .int .i64 r] t) : (Instr.loadAt 2 (.pointer (some ⟨A, 0, none⟩))).run Tryz.prog w = .ok (.int .i64 l) w := by
  have ra := h.rules3 _ (Seen.refl _)
  go_simp
theorem ldk1 {w : World} {A : Nat} {t : TypeId} {l m r : Int} (h : Blk w A [.int .i64 l, .int .i64 m, .int .i64 r] t) : (Instr.loadAt 2 (.pointer (some ⟨A, 1, none⟩))).run Tryz.prog w = .ok (.int .i64 m) w := by
  have ra := h.rules3 _ (Seen.refl _)
  go_simp
theorem ldk2 {w : World} {A : Nat} {t : TypeId} {l m r : Int} (h : Blk w A [.int .i64 l, .int .i64 m, .int .i64 r] t) : (Instr.loadAt 2 (.pointer (some ⟨A, 2, none⟩))).run Tryz.prog w = .ok (.int .i64 r) w := by
  have ra := h.rules3 _ (Seen.refl _)
  go_simp
theorem Blk.rulesB {w : World} {B : Nat} {t : TypeId} {b : Bx} (h : Blk w B (bxl b) t) : ∀ w', Seen w w' → w'.cell? ⟨B, 0, none⟩ = some (.int .i64 b.base) ∧ w'.cell? ⟨B, 1, none⟩ = some (.bool b.lf.au) ∧ w'.cell? ⟨B, 2, none⟩ = some (.int .i64 b.lf.n) ∧ w'.cell? ⟨B, 3, none⟩ = some (.bool b.wd.au) ∧ w'.cell? ⟨B, 4, none⟩ = some (.int .i64 b.wd.n) ∧ w'.cell? ⟨B, 5, none⟩ = some (.bool b.rt.au) ∧ w'.cell? ⟨B, 6, none⟩ = some (.int .i64 b.rt.n) ∧ w'.cell? ⟨B, 7, none⟩ = some (.int .i64 b.ar) ∧ w'.cell? ⟨B, 8, none⟩ = some (.bool b.rtl) ∧ w'.cell? ⟨B, 9, none⟩ = some (.int .i64 b.lo) ∧ w'.cell? ⟨B, 10, none⟩ = some (.int .i64 b.hi) ∧ (∀ o, w'.frozen? ⟨B, o, none⟩ = false) :=
  fun _ hs => ⟨(h.seen hs).cell 0, (h.seen hs).cell 1, (h.seen hs).cell 2, (h.seen hs).cell 3, (h.seen hs).cell 4, (h.seen hs).cell 5, (h.seen hs).cell 6, (h.seen hs).cell 7, (h.seen hs).cell 8, (h.seen hs).cell 9, (h.seen hs).cell 10, (h.seen hs).free⟩
theorem Seen.drewN {W w : World} (h : Seen W w) (n : Nat) : Seen W (w.drewN n) := by
  induction n with
  | zero => exact h
  | succ n ih => exact ih.drew
set_option maxHeartbeats 1000000 in
theorem takers_any (b : Bx) (t : Int) (w : World) :
    Calls Tryz.prog 114 #[bxv b, .int .i64 t] w fun e w' => e = .returned (.tuple #[.bool (tkL b t), .bool (tkR b t)]) ∧ Below w.heap.size w w' := by
  obtain ⟨base, ⟨la, ln⟩, ⟨wa, wn⟩, ⟨ra, rn⟩, ar, rtl, lo, hi⟩ := b
  obtain ⟨xl, hxl⟩ : ∃ x, tkL ⟨base, ⟨la, ln⟩, ⟨wa, wn⟩, ⟨ra, rn⟩, ar, rtl, lo, hi⟩ t = x := ⟨_, rfl⟩
  obtain ⟨xr, hxr⟩ : ∃ x, tkR ⟨base, ⟨la, ln⟩, ⟨wa, wn⟩, ⟨ra, rn⟩, ar, rtl, lo, hi⟩ t = x := ⟨_, rfl⟩
  rw [hxl, hxr]
  have HL : Hid ((if t < 0 then rtl else if la = false ∧ ra = false then rtl else la) = xl) := hxl
  have HR : Hid ((if t < 0 then !rtl else if la = false ∧ ra = false then !rtl else ra) = xr) := hxr
  clear hxl hxr
  by_cases ht : t < 0
  · rw [if_pos ht] at HL HR
    go_enter Tryz.func114, Tryz.ntmps114
    go_wp2_with fail
    go_quiet (fail)
    go_wp2_with fail
    go_returns
    exact ⟨by rw [← HL.out, ← HR.out]; rfl, Seen.drewN (by unfold Seen; go_grown) _⟩
  · rw [if_neg ht] at HL HR
    cases la <;> cases ra
    all_goals
      simp only [reduceCtorEq, and_self, and_false, false_and, if_true, if_false] at HL HR
      go_enter Tryz.func114, Tryz.ntmps114
      go_wp2_with fail
      go_quiet (fail)
      go_wp2_with fail
      go_returns
      exact ⟨by rw [← HL.out, ← HR.out]; rfl, Seen.drewN (by unfold Seen; go_grown) _⟩
end Go.Proofs.YtngeaigkafamiaaGreat
namespace Go.Proofs.YtngeaigkafamiaaGreat
open Go.ChangeShapes Go.WideShapes Go.ChangeAt Go.RowKit
set_option maxRecDepth 100000
theorem least_any (k n b : Int) (has : Bool) (w : World) :
    Calls Tryz.prog 68 #[.agg #[.int .i64 k, .int .i64 n], .int .i64 b, .bool has] w fun e w' => e = .returned (.tuple #[.int .i64 (ofOrV k n b has 0), .bool (ofB k n b has)]) ∧ Below w.heap.size w w' := by
  go_enter Tryz.func68, Tryz.ntmps68
  go_wp2_with (go_at_call 93; refine (ofOr_any k n b has 0 _).mono ?_; rintro e w' ⟨rfl, hb⟩)
  go_ret2
  exact ⟨rfl, ((Seen.refl w).alloc _).next hb⟩
theorem most_any (k n b : Int) (has : Bool) (w : World) :
    Calls Tryz.prog 69 #[.agg #[.int .i64 k, .int .i64 n], .int .i64 b, .bool has] w fun e w' => e = .returned (.tuple #[.int .i64 (ofOrV k n b has 1125899906842624), .bool (ofB k n b has)]) ∧ Below w.heap.size w w' := by
  go_enter Tryz.func69, Tryz.ntmps69
  go_wp2_with (go_at_call 93; refine (ofOr_any k n b has 1125899906842624 _).mono ?_; rintro e w' ⟨rfl, hb⟩)
  go_ret2
  exact ⟨rfl, ((Seen.refl w).alloc _).next hb⟩
theorem refOf_any (k n b : Int) (has : Bool) (w : World) :
    Calls Tryz.prog 25 #[.agg #[.int .i64 k, .int .i64 n], .int .i64 b, .bool has] w fun e w' => e = .returned (.tuple #[.agg #[.bool (ofS k n b has).au, .int .i64 (ofS k n b has).n], .bool (ofB k n b has)]) ∧ Below w.heap.size w w' := by
  by_cases h0 : k = 0
  · subst h0
    go_enter Tryz.func25, Tryz.ntmps25
    go_wp2
    go_returns
    exact ⟨rfl, by go_grown⟩
  · by_cases h2 : k = 2
    · subst h2
      clear h0
      cases has
      · go_enter Tryz.func25, Tryz.ntmps25
        go_wp2
        go_returns
        exact ⟨rfl, by go_grown⟩
      · have HS := Lib.hid (show ofS 2 n b true = ⟨false, partN b n⟩ from rfl)
        have HB := Lib.hid (show ofB 2 n b true = partB b n from rfl)
        have HP := Lib.hid (partN_if b n)
        have rp := fun w => refPart_any b n w
        cases hp : partB b n with
        | true =>
          rw [hp] at HP HB rp
          clear hp
          go_enter Tryz.func25, Tryz.ntmps25
          go_wp2_with fail
          go_quiet (fail)
          go_wp2_with (go_at_call 53; refine (rp _).mono ?_; rintro e w' ⟨rfl, m, rfl⟩)
          go_returns
          exact ⟨by rw [HS.out, HB.out], by go_grown; exact Seen.drewN (show Seen w _ by unfold Seen; go_grown) _⟩
        | false =>
          rw [hp] at HP HB rp
          clear hp
          go_enter Tryz.func25, Tryz.ntmps25
          go_wp2_with fail
          go_quiet (fail)
          go_wp2_with (go_at_call 53; refine (rp _).mono ?_; rintro e w' ⟨rfl, m, rfl⟩)
          go_returns
          exact ⟨by rw [HS.out, HB.out, ← HP.out]; rfl, by go_grown; exact Seen.drewN (show Seen w _ by unfold Seen; go_grown) _⟩
    · by_cases h1 : k = 1
      · subst h1
        clear h0 h2
        have HS := Lib.hid (show ofS 1 n b has = ⟨false, fitN n⟩ from rfl)
        have HB := Lib.hid (show ofB 1 n b has = fitsB n from rfl)
        have HP := Lib.hid (show fitN n = if fitsB n then n else 0 from rfl)
        have rp : ∀ w, Calls Tryz.prog 52 #[.int .i64 n] w fun e w' => e = .returned (.bool (fitsB n)) ∧ w' = w := fun w => (refFits_any n w).mono fun _ _ h => ⟨h.1, h.2.symm⟩
        cases hp : fitsB n with
        | true =>
          rw [hp] at HP HB rp
          clear hp
          go_enter Tryz.func25, Tryz.ntmps25
          go_wp2_with fail
          go_quiet ((go_at_call 52; exact Calls.quiet_of_same (rp _)))
          go_wp2
          go_returns
          exact ⟨by rw [HS.out, HB.out, HP.out]; rfl, by go_grown; exact Seen.drewN (show Seen w _ by unfold Seen; go_grown) _⟩
        | false =>
          rw [hp] at HP HB rp
          clear hp
          go_enter Tryz.func25, Tryz.ntmps25
          go_wp2_with fail
          go_quiet ((go_at_call 52; exact Calls.quiet_of_same (rp _)))
          go_wp2
          go_returns
          exact ⟨by rw [HS.out, HB.out, HP.out]; rfl, by go_grown; exact Seen.drewN (show Seen w _ by unfold Seen; go_grown) _⟩
      · have HS := Lib.hid (show ofS k n b has = ⟨false, 0⟩ by unfold ofS; rw [if_neg h0, if_neg h1, if_neg h2])
        have HB := Lib.hid (show ofB k n b has = false by unfold ofB; rw [if_neg h0, if_neg h1, if_neg h2])
        go_enter Tryz.func25, Tryz.ntmps25
        go_wp2_with fail
        go_quiet (fail)
        go_wp2
        go_returns
        exact ⟨by rw [HS.out, HB.out], by go_grown; exact Seen.drewN (show Seen w _ by unfold Seen; go_grown) _⟩
end Go.Proofs.YtngeaigkafamiaaGreat
namespace Go.Proofs.YtngeaigkafamiaaGreat
open Go.ChangeShapes Go.WideShapes Go.ChangeAt Go.RowKit
set_option maxRecDepth 100000
inductive Atom where
  | int (k : IntKind)
  | bool
def Atom.fits : Atom → Value → Prop
  | .int k, v => ∃ n, v = .int k n ∧ (Lit.int k n).wf = true
  | .bool, v => ∃ b, v = .bool b
def atomAt (P : Program) : Nat → TypeId → Nat → Option Atom
  | 0, _, _ => none
  | d + 1, t, i =>
    match P.underlying t with
    | some (.int k) => if i = 0 then some (.int k) else none
    | some .bool => if i = 0 then some .bool else none
    | some (.struct fs) =>
      match fs.find? (fun f => decide (f.offset ≤ i) && decide (i < f.offset + P.cellsOf f.type)) with
      | some f => atomAt P d f.type (i - f.offset)
      | none => none
    | some (.array n e) => if i / P.cellsOf e < n ∧ 0 < P.cellsOf e then atomAt P d e (i % P.cellsOf e) else none
    | _ => none
section
variable {H : Type} {enc : TypeId × Value → H} {P : Program} {w : World} {base : Nat} {spare : Nat → Bool} {held : Bool}
theorem get_part {l : List Value} {o c i : Nat} (h1 : o ≤ i) (h2 : i < o + c) : ((l.drop o).take c)[i - o]? = l[i]? := by
  rw [List.getElem?_take_of_lt (by omega), List.getElem?_drop, show o + (i - o) = i by omega]
theorem trod_atom {d : Nat} : ∀ {t : TypeId} {i : Nat} {a : Atom} {fuel : Nat} {cs : List Value} {x : DataW H × List MemPlace}, atomAt P d t i = some a → DataW.trod enc P w base spare held fuel t cs = some x → ∃ v, cs[i]? = some v ∧ a.fits v := by
  induction d with
  | zero => intro t i a fuel cs x h; simp [atomAt] at h
  | succ d ih =>
    intro t i a fuel cs x h hx
    unfold atomAt at h
    split at h
    · rename_i k hu
      split at h
      · rename_i hi; subst hi
        obtain ⟨n, rfl, _, hw⟩ := DataW.trod_int hu hx
        cases h
        exact ⟨_, rfl, n, rfl, hw⟩
      · cases h
    · rename_i hu
      split at h
      · rename_i hi; subst hi
        obtain ⟨b, rfl, _⟩ := DataW.trod_bool hu hx
        cases h
        exact ⟨_, rfl, b, rfl⟩
      · cases h
    · rename_i fs hu
      split at h
      · rename_i f hf
        have hm := Array.mem_of_find?_eq_some hf
        have hp := Array.find?_some hf
        simp only [Bool.and_eq_true, decide_eq_true_eq] at hp
        obtain ⟨xs, n, _, _, hl, hxl, hfl⟩ := DataW.trod_struct hu hx
        obtain ⟨j, hj, hjf⟩ := Array.getElem_of_mem hm
        have hfj := hfl j f (by rw [Array.getElem?_eq_getElem hj, hjf])
        rw [List.getElem?_eq_getElem (by omega)] at hfj
        obtain ⟨v, hv, hfit⟩ := ih h hfj
        exact ⟨v, by rw [← hv, get_part hp.1 hp.2], hfit⟩
      · cases h
    · rename_i n e hu
      split at h
      · rename_i hi
        obtain ⟨xs, m, _, _, hl, hxl, hfl⟩ := DataW.trod_array hu hx
        have hfj := hfl (i / P.cellsOf e) hi.1
        rw [List.getElem?_eq_getElem (by omega)] at hfj
        obtain ⟨v, hv, hfit⟩ := ih h hfj
        refine ⟨v, ?_, hfit⟩
        have hdm := Nat.div_add_mod i (P.cellsOf e)
        have hml := Nat.mod_lt i hi.2
        rw [Nat.mul_comm] at hdm
        have e1 : i - i / P.cellsOf e * P.cellsOf e = i % P.cellsOf e := by omega
        rw [← hv, ← e1, get_part (by omega) (by omega)]
      · cases h
    · cases h
def isAggT (P : Program) (t : TypeId) : Bool := match P.underlying t with | some (.struct _) => true | some (.array _ _) => true | _ => false
theorem open_flat {r : Reach} {b0 : Nat} {t : TypeId} {v : Value} {dd : DataW H} {p : List MemPlace} (ht : isAggT P t = true) (hv : Value.okWide P w r b0 t v) (h : DataW.Trod enc P w base spare held t v dd p) :
    ∃ cs, v = .agg cs ∧ cs.size = P.cellsOf t ∧ ∀ d i a, atomAt P d t i = some a → ∃ u, cs[i]? = some u ∧ a.fits u := by
  have h1 : ∃ cs, v = .agg cs ∧ cs.size = P.cellsOf t := by
    unfold isAggT at ht
    unfold Value.okWide at hv
    split at ht
    · rename_i hu
      simp only [hu] at hv
      obtain ⟨cs, h1, h2, _⟩ := hv
      exact ⟨cs, h1, h2⟩
    · rename_i hu
      simp only [hu] at hv
      obtain ⟨cs, h1, h2, _⟩ := hv
      exact ⟨cs, h1, h2⟩
    · cases ht
  obtain ⟨cs, rfl, hs⟩ := h1
  refine ⟨cs, rfl, hs, fun d i a ha => ?_⟩
  obtain ⟨fuel, hf⟩ := h
  obtain ⟨u, hu, hfit⟩ := trod_atom ha hf
  exact ⟨u, by simpa [Value.cells] using hu, hfit⟩
theorem fits_i64 {v : Value} (h : (Atom.int .i64).fits v) : ∃ n : Int, v = .int .i64 n ∧ -9223372036854775808 ≤ n ∧ n ≤ 9223372036854775807 := by
  obtain ⟨n, rfl, hw⟩ := h
  exact ⟨n, rfl, bounds_i64 hw⟩
end
end Go.Proofs.YtngeaigkafamiaaGreat
namespace Go.Proofs.YtngeaigkafamiaaGreat
open Go.ChangeShapes Go.WideShapes Go.ChangeAt Go.RowKit
set_option maxRecDepth 100000
def isum : List Int → Int
  | [] => 0
  | x :: r => x + isum r
theorem isum_append (a b : List Int) : isum (a ++ b) = isum a + isum b := by
  induction a with
  | nil => simp [isum]
  | cons x r ih => simp only [List.cons_append, isum, ih]; omega
def zat (zs : List Int) (k : Nat) : Int := zs.getD k 0
theorem zat_eq {zs : List Int} {k : Nat} (h : k < zs.length) : zat zs k = zs[k] := by unfold zat; simp [h]
theorem isum_take_succ (zs : List Int) (k : Nat) (h : k < zs.length) : isum (zs.take (k + 1)) = isum (zs.take k) + zat zs k := by
  have e : zs.take (k + 1) = zs.take k ++ [zat zs k] := by
    rw [List.take_succ_eq_append_getElem h, zat_eq h]
  rw [e, isum_append]; simp [isum]
theorem isum_bound (zs : List Int) (h : zs.all fitsB = true) : -(zs.length * 1125899906842624 : Int) ≤ isum zs ∧ isum zs ≤ (zs.length * 1125899906842624 : Int) := by
  induction zs with
  | nil => simp [isum]
  | cons x r ih =>
    rw [List.all_cons, Bool.and_eq_true] at h
    have h1 := ih h.2
    have h2 : -1125899906842624 ≤ x ∧ x ≤ 1125899906842624 := by have := h.1; unfold fitsB at this; simpa using this
    simp only [isum, List.length_cons]
    omega
def sumB (zs : List Int) : Bool := zs.all fitsB && fitsB (isum zs)
def sumN (zs : List Int) : Int := if sumB zs then isum zs else 0
theorem sum_bad {zs : List Int} {k : Nat} (hk : k < zs.length) (h : fitsB (zat zs k) = false) : sumN zs = 0 ∧ sumB zs = false := by
  have hB : sumB zs = false := by
    unfold sumB
    rw [Bool.and_eq_false_iff]
    left
    rw [List.all_eq_false]
    exact ⟨zat zs k, by rw [zat_eq hk]; exact List.getElem_mem hk, by rw [h]; decide⟩
  exact ⟨by unfold sumN; rw [hB]; rfl, hB⟩
theorem all_take_succ {zs : List Int} {k : Nat} (hk : k < zs.length) (h : (zs.take k).all fitsB = true) (h2 : fitsB (zat zs k) = true) : (zs.take (k + 1)).all fitsB = true := by
  have e : zs.take (k + 1) = zs.take k ++ [zat zs k] := by
    rw [List.take_succ_eq_append_getElem hk, zat_eq hk]
  rw [e, List.all_append, h]; simpa using h2
theorem sum_good {zs : List Int} (h : zs.all fitsB = true) (h2 : fitsB (isum zs) = true) : sumN zs = isum zs ∧ sumB zs = true := by
  have hB : sumB zs = true := by unfold sumB; rw [h, h2]; rfl
  exact ⟨by unfold sumN; rw [hB]; rfl, hB⟩
theorem sum_great {zs : List Int} (h2 : fitsB (isum zs) = false) : sumN zs = 0 ∧ sumB zs = false := by
  have hB : sumB zs = false := by unfold sumB; rw [h2, Bool.and_false]
  exact ⟨by unfold sumN; rw [hB]; rfl, hB⟩
def ZI (w : World) (a : Option Addr) (n : Nat) (zs : List Int) : Prop :=
  zs.length = n ∧ (0 < n → ∃ b off, a = some ⟨b, off, none⟩ ∧ ∀ i, i < n → w.cell? ⟨b, off + i, none⟩ = some (.int .i64 (zat zs i)))
end Go.Proofs.YtngeaigkafamiaaGreat
namespace Go.Proofs.YtngeaigkafamiaaGreat
open Go.ChangeShapes Go.WideShapes Go.ChangeAt Go.RowKit
set_option maxRecDepth 100000
theorem refSum_any (a : Option Addr) (n c : Nat) (zs : List Int) (w : World) (h : ZI w a n zs) (hn : n ≤ 4000) :
    Calls Tryz.prog 24 #[.slice a n c] w fun e w' => e = .returned (.tuple #[.int .i64 (sumN zs), .bool (sumB zs)]) ∧ w = w' := by
  obtain ⟨hl, hc⟩ := h
  have HL := Lib.hid hl
  clear hl
  have HC := Lib.hid hc
  clear hc
  go_enter Tryz.func24, Tryz.ntmps24
  go_wp2
  go_loop [4, 9] (fun s i => ∃ k : Nat, k ≤ n ∧ i = .int .i64 k ∧ s = .int .i64 (isum (zs.take k)) ∧ (zs.take k).all fitsB = true) (fun _ i => n - (intOf i).toNat)
  case atStart => exact ⟨0, Nat.zero_le _, rfl, rfl, rfl⟩
  case round =>
    obtain ⟨k, hk, rfl, rfl, hall⟩ := hrel
    have hb := isum_bound _ hall
    have hlt : (zs.take k).length ≤ k := List.length_take_le _ _
    have hb1 : -4503599627370496000 ≤ isum (zs.take k) := by omega
    have hb2 : isum (zs.take k) ≤ 4503599627370496000 := by omega
    clear hb hlt
    have HA := Lib.hid hall
    clear hall
    by_cases hkn : k < n
    · obtain ⟨b, off, rfl, hcell⟩ := HC.out (by omega)
      have hck := hcell k hkn
      clear hcell
      have HT := Lib.hid (isum_take_succ zs k (by rw [HL.out]; exact hkn))
      cases hf : fitsB (zat zs k) with
      | false =>
        have HF := Lib.hid (sum_bad (by rw [HL.out]; exact hkn) hf)
        go_wp2_with (go_at_call 52; refine (refFits_any _ _).mono ?_; rintro e w' ⟨rfl, rfl⟩)
        go_ret2
        exact ⟨ret_two HF.out.1.symm HF.out.2.symm, rfl⟩
      | true =>
        have hz : -1125899906842624 ≤ zat zs k ∧ zat zs k ≤ 1125899906842624 := by unfold fitsB at hf; simpa using hf
        obtain ⟨hz1, hz2⟩ := hz
        have HN := Lib.hid (all_take_succ (by rw [HL.out]; exact hkn) HA.out hf)
        go_wp2_with (go_at_call 52; refine (refFits_any _ _).mono ?_; rintro e w' ⟨rfl, rfl⟩)
        go_round
        case rel => exact ⟨k + 1, by omega, by go_num, by rw [HT.out], HN.out⟩
        case measure => simp [intOf]; omega
    · have hke : zs.take k = zs := List.take_of_length_le (by rw [HL.out]; omega)
      rw [hke]
      rw [hke] at HA hb1 hb2
      clear hke
      cases hf : fitsB (isum zs) with
      | true =>
        have HF := Lib.hid (sum_good HA.out hf)
        have HF2 := Lib.hid hf
        clear hf
        go_wp2_with (go_at_call 52; refine (refFits_any _ _).mono ?_; rintro e w' ⟨rfl, rfl⟩; rw [HF2.out])
        go_ret2
        exact ⟨ret_two HF.out.1.symm HF.out.2.symm, rfl⟩
      | false =>
        have HF := Lib.hid (sum_great hf)
        have HF2 := Lib.hid hf
        clear hf
        go_wp2_with (go_at_call 52; refine (refFits_any _ _).mono ?_; rintro e w' ⟨rfl, rfl⟩; rw [HF2.out])
        go_ret2
        exact ⟨ret_two HF.out.1.symm HF.out.2.symm, rfl⟩
def loS (s : Int) : Int := s % 18446744073709551616
def hiS (s : Int) : Int := s / 18446744073709551616
theorem add64_0 (x y : Int) (hx : 0 ≤ x) (hy : 0 ≤ y) (w : World) : (callFunc 107 #[.int .u64 x, .int .u64 y, .int .u64 0]).run Tryz.prog w =
    .ok (.value (.tuple #[.int .u64 (loS (x + y)), .int .u64 (hiS (x + y))])) w := by
  rw [run_callFunc_extern Tryz.func107 (by kernel_rfl) (by kernel_rfl) (by kernel_rfl) (e := add64Entry) (by kernel_rfl), run_add64 x y 0 hx hy (by omega) (by omega)]
  simp only [Result.andThen, Int.add_zero]
  rfl
theorem hi_step (S z : Int) (h1 : -4503599627370496000 ≤ S) (h2 : S ≤ 4503599627370496000) (h3 : -1125899906842624 ≤ z) (h4 : z ≤ 1125899906842624) :
    wrap64 (hiS S + wrap64 (z / 9223372036854775808 + wrap64 (hiS (loS S + IntKind.u64.wrap z)))) = hiS (S + z) := by
  rw [IntKind.wrap_u64]
  unfold hiS loS
  have a1 : 0 ≤ (S % 18446744073709551616 + z % 18446744073709551616) / 18446744073709551616 ∧ (S % 18446744073709551616 + z % 18446744073709551616) / 18446744073709551616 ≤ 1 := by omega
  have a2 : -1 ≤ z / 9223372036854775808 ∧ z / 9223372036854775808 ≤ 0 := by omega
  have a3 : -1 ≤ S / 18446744073709551616 ∧ S / 18446744073709551616 ≤ 0 := by omega
  rw [IntWalk.wrap64_in ((S % 18446744073709551616 + z % 18446744073709551616) / 18446744073709551616) (by omega)]
  rw [IntWalk.wrap64_in (z / 9223372036854775808 + (S % 18446744073709551616 + z % 18446744073709551616) / 18446744073709551616) (by omega)]
  rw [IntWalk.wrap64_in _ (by omega)]
  have a4 : z / 9223372036854775808 = z / 18446744073709551616 := by omega
  rw [a4]
  omega
theorem lo_step (S z : Int) : loS (loS S + IntKind.u64.wrap z) = loS (S + z) := by
  rw [IntKind.wrap_u64]; unfold loS; omega
theorem sum_any (a : Option Addr) (n c : Nat) (zs : List Int) (w : World) (h : ZI w a n zs) (hn : n ≤ 4000) :
    Calls Tryz.prog 98 #[.slice a n c] w fun e w' => e = .returned (.tuple #[.int .i64 (sumN zs), .bool (sumB zs)]) ∧ w = w' := by
  obtain ⟨hl, hc⟩ := h
  have HL := Lib.hid hl
  clear hl
  have HC := Lib.hid hc
  clear hc
  go_enter Tryz.func98, Tryz.ntmps98
  go_wp2
  go_loop [4, 5, 12] (fun hi lo i => ∃ k : Nat, k ≤ n ∧ i = .int .i64 k ∧ hi = .int .i64 (hiS (isum (zs.take k))) ∧ lo = .int .u64 (loS (isum (zs.take k))) ∧ (zs.take k).all fitsB = true) (fun _ _ i => n - (intOf i).toNat)
  case atStart => exact ⟨0, Nat.zero_le _, rfl, rfl, rfl, rfl⟩
  case round =>
    obtain ⟨k, hk, rfl, rfl, rfl, hall⟩ := hrel
    have hb := isum_bound _ hall
    have hlt : (zs.take k).length ≤ k := List.length_take_le _ _
    have hb1 : -4503599627370496000 ≤ isum (zs.take k) := by omega
    have hb2 : isum (zs.take k) ≤ 4503599627370496000 := by omega
    clear hb hlt
    have HA := Lib.hid hall
    clear hall
    by_cases hkn : k < n
    · obtain ⟨b, off, rfl, hcell⟩ := HC.out (by omega)
      have hck := hcell k hkn
      clear hcell
      have HT := Lib.hid (isum_take_succ zs k (by rw [HL.out]; exact hkn))
      cases hf : fitsB (zat zs k) with
      | false =>
        have HF := Lib.hid (sum_bad (by rw [HL.out]; exact hkn) hf)
        go_wp2_with (go_at_call 91; refine (fits_any _ _).mono ?_; rintro e w' ⟨rfl, rfl⟩)
        go_ret2
        exact ⟨ret_two HF.out.1.symm HF.out.2.symm, rfl⟩
      | true =>
        have hz : -1125899906842624 ≤ zat zs k ∧ zat zs k ≤ 1125899906842624 := by unfold fitsB at hf; simpa using hf
        obtain ⟨hz1, hz2⟩ := hz
        have HN := Lib.hid (all_take_succ (by rw [HL.out]; exact hkn) HA.out hf)
        have lo0 : 0 ≤ loS (isum (zs.take k)) := by unfold loS; omega
        have wr0 : 0 ≤ IntKind.u64.wrap (zat zs k) := by rw [IntKind.wrap_u64]; omega
        go_wp2_with (first | (go_at_call 91; refine (fits_any _ _).mono ?_; rintro e w' ⟨rfl, rfl⟩) | simp only [add64_0 _ _ lo0 wr0])
        go_round
        case rel =>
          refine ⟨k + 1, by omega, by go_num, ?_, ?_, HN.out⟩
          · rw [HT.out]; exact congrArg (Value.int .i64) (hi_step _ _ hb1 hb2 hz1 hz2)
          · rw [HT.out]; exact congrArg (Value.int .u64) (lo_step _ _)
        case measure => simp [intOf]; omega
    · have hke : zs.take k = zs := List.take_of_length_le (by rw [HL.out]; omega)
      rw [hke]
      rw [hke] at HA hb1 hb2
      clear hke
      have hw : wrap64 (loS (isum zs)) = isum zs := by unfold wrap64 loS; omega
      have hh : hiS (isum zs) = if isum zs < 0 then -1 else 0 := by unfold hiS; split <;> omega
      rw [hh]
      clear hh
      cases hf : fitsB (isum zs) with
      | true =>
        have HF := Lib.hid (sum_good HA.out hf)
        have HF2 := Lib.hid hf
        clear hf HA HC HL
        generalize isum zs = S at *
        by_cases hs : S < 0
        · rw [if_pos hs]
          go_wp2_with (go_at_call 91; refine (fits_any _ _).mono ?_; rintro e w' ⟨rfl, rfl⟩; rw [HF2.out])
          go_ret2
          exact ⟨ret_two HF.out.1.symm HF.out.2.symm, rfl⟩
        · rw [if_neg hs]
          go_wp2_with (go_at_call 91; refine (fits_any _ _).mono ?_; rintro e w' ⟨rfl, rfl⟩; rw [HF2.out])
          go_ret2
          exact ⟨ret_two HF.out.1.symm HF.out.2.symm, rfl⟩
      | false =>
        have HF := Lib.hid (sum_great hf)
        have HF2 := Lib.hid hf
        clear hf HA HC HL
        generalize isum zs = S at *
        by_cases hs : S < 0
        · rw [if_pos hs]
          go_wp2_with (go_at_call 91; refine (fits_any _ _).mono ?_; rintro e w' ⟨rfl, rfl⟩; rw [HF2.out])
          go_ret2
          exact ⟨ret_two HF.out.1.symm HF.out.2.symm, rfl⟩
        · rw [if_neg hs]
          go_wp2_with (go_at_call 91; refine (fits_any _ _).mono ?_; rintro e w' ⟨rfl, rfl⟩; rw [HF2.out])
          go_ret2
          exact ⟨ret_two HF.out.1.symm HF.out.2.symm, rfl⟩
end Go.Proofs.YtngeaigkafamiaaGreat
namespace Go.Proofs.YtngeaigkafamiaaGreat
open Go.ChangeShapes Go.WideShapes Go.ChangeAt Go.RowKit
set_option maxRecDepth 100000
structure St where
  p : Int
  n : Int
deriving DecidableEq
abbrev stv (s : St) : Value := .agg #[.int .i64 s.p, .int .i64 s.n]
def ofM (m : Int) : St := ⟨max m 0, min m 0⟩
def joinS (a b : St) : St := ⟨max a.p b.p, min a.n b.n⟩
theorem ret_st {a b c d : Int} (h : a = c) (h2 : b = d) : Ending.returned (.agg #[.int .i64 a, .int .i64 b]) = .returned (.agg #[.int .i64 c, .int .i64 d]) := by rw [h, h2]
theorem join_any (a b : St) (w : World) :
    Calls Tryz.prog 77 #[.agg #[.int .i64 a.p, .int .i64 a.n], .agg #[.int .i64 b.p, .int .i64 b.n]] w fun e w' => e = .returned (.agg #[.int .i64 (joinS a b).p, .int .i64 (joinS a b).n]) ∧ Below w.heap.size w w' := by
  have H := Lib.hid (show (joinS a b).p = max a.p b.p ∧ (joinS a b).n = min a.n b.n from ⟨rfl, rfl⟩)
  go_enter Tryz.func77, Tryz.ntmps77
  go_wp2
  all_goals
    go_returns
    exact ⟨ret_st (by rw [H.out.1]; omega) (by rw [H.out.2]; omega), by go_grown⟩
theorem refJoin_any (a b : St) (w : World) :
    Calls Tryz.prog 58 #[.agg #[.int .i64 a.p, .int .i64 a.n], .agg #[.int .i64 b.p, .int .i64 b.n]] w fun e w' => e = .returned (.agg #[.int .i64 (joinS a b).p, .int .i64 (joinS a b).n]) ∧ Below w.heap.size w w' := by
  have H := Lib.hid (show (joinS a b).p = max a.p b.p ∧ (joinS a b).n = min a.n b.n from ⟨rfl, rfl⟩)
  go_enter Tryz.func58, Tryz.ntmps58
  go_wp2
  all_goals
    go_returns
    exact ⟨ret_st (by rw [H.out.1]; omega) (by rw [H.out.2]; omega), by go_grown⟩
theorem zs_two (w : World) (a b : Int) (o : Obj) (t : TypeId) : ZI ((w.alloc o).alloc (.cells #[.int .i64 a, .int .i64 b] t)) (some ⟨w.heap.size + 1, 0, none⟩) 2 [a, b] := by
  have k : Blk ((w.alloc o).alloc (.cells #[.int .i64 a, .int .i64 b] t)) (w.heap.size + 1) [.int .i64 a, .int .i64 b] t := by simpa using Blk.new (w.alloc o) [.int .i64 a, .int .i64 b] t
  refine ⟨rfl, fun _ => ⟨_, _, rfl, fun i hi => ?_⟩⟩
  rcases (show i = 0 ∨ i = 1 by omega) with rfl | rfl
  · exact k.cell 0
  · exact k.cell 1
def valN (s : St) : Int := sumN [s.p, s.n]
def valB (s : St) : Bool := sumB [s.p, s.n]
theorem value_any (s : St) (w : World) :
    Calls Tryz.prog 95 #[.agg #[.int .i64 s.p, .int .i64 s.n]] w fun e w' => e = .returned (.tuple #[.int .i64 (valN s), .bool (valB s)]) ∧ Below w.heap.size w w' := by
  have h1 := Lib.hid (show sumN [s.p, s.n] = valN s from rfl)
  have h2 := Lib.hid (show sumB [s.p, s.n] = valB s from rfl)
  go_enter Tryz.func95, Tryz.ntmps95
  go_wp2_with (go_at_call 98; refine (sum_any _ _ _ [s.p, s.n] _ (zs_two w s.p s.n (.cells #[.int .i64 s.p, .int .i64 s.n] 33) 2) (by decide)).mono ?_; rintro e w' ⟨rfl, rfl⟩; rw [h1.out, h2.out])
  go_ret2
  exact ⟨rfl, by go_grown⟩
theorem refValue_any (s : St) (w : World) :
    Calls Tryz.prog 57 #[.agg #[.int .i64 s.p, .int .i64 s.n]] w fun e w' => e = .returned (.tuple #[.int .i64 (valN s), .bool (valB s)]) ∧ Below w.heap.size w w' := by
  have h1 := Lib.hid (show sumN [s.p, s.n] = valN s from rfl)
  have h2 := Lib.hid (show sumB [s.p, s.n] = valB s from rfl)
  go_enter Tryz.func57, Tryz.ntmps57
  go_wp2_with (go_at_call 24; refine (refSum_any _ _ _ [s.p, s.n] _ (zs_two w s.p s.n (.cells #[.int .i64 s.p, .int .i64 s.n] 46) 2) (by decide)).mono ?_; rintro e w' ⟨rfl, rfl⟩; rw [h1.out, h2.out])
  go_ret2
  exact ⟨rfl, by go_grown⟩
end Go.Proofs.YtngeaigkafamiaaGreat

