/- Slices of rectangles, as lists; how the law package's reference compares two of them. -/
import Derived.Test.YtckfdlolmenigaaCutDefs
import Derived.Lib.SmallJoins
namespace Go.Proofs.Ytckfdlolmenigaa
open Go.ChangeShapes Go.WideShapes Go.ChangeAt Go.RowKit
/-- Element i of a list of rectangles. -/
def rat (rs : List R4) (i : Nat) : R4 := rs.getD i ⟨0, 0, 0, 0⟩
theorem rat_eq {rs : List R4} {i : Nat} (h : i < rs.length) : rat rs i = rs[i] := by
  unfold rat; rw [List.getD_eq_getElem?_getD, List.getElem?_eq_getElem h]; rfl
/-- A rectangle's four cells lie here. -/
def At4 (w : World) (b o : Nat) (r : R4) : Prop :=
  w.cell? ⟨b, o, none⟩ = some (.int .i64 r.x0) ∧ w.cell? ⟨b, o + 1, none⟩ = some (.int .i64 r.y0) ∧ w.cell? ⟨b, o + 2, none⟩ = some (.int .i64 r.x1) ∧ w.cell? ⟨b, o + 3, none⟩ = some (.int .i64 r.y1)
theorem Seen.at4 {W w' : World} (h : Seen W w') {b o : Nat} {r : R4} (hb : At4 W b o r) : At4 w' b o r := ⟨h.cell hb.1, h.cell hb.2.1, h.cell hb.2.2.1, h.cell hb.2.2.2⟩
/-- A slice of n elements reads as this list. -/
def RS (w : World) (ad : Option Addr) (n : Nat) (rs : List R4) : Prop :=
  rs.length = n ∧ (0 < n → ∃ b off, ad = some ⟨b, off, none⟩ ∧ ∀ i, i < n → At4 w b (off + i * 4) (rat rs i))
theorem RS.seen {w w' : World} {ad : Option Addr} {n : Nat} {rs : List R4} (h : RS w ad n rs) (hs : Seen w w') : RS w' ad n rs :=
  ⟨h.1, fun h0 => let ⟨b, off, e, hc⟩ := h.2 h0; ⟨b, off, e, fun i hi => hs.at4 (hc i hi)⟩⟩
theorem flat_at {rs : List R4} {i : Nat} (h : i < rs.length) :
    (flat rs)[i * 4]? = some (.int .i64 (rat rs i).x0) ∧ (flat rs)[i * 4 + 1]? = some (.int .i64 (rat rs i).y0) ∧ (flat rs)[i * 4 + 2]? = some (.int .i64 (rat rs i).x1) ∧ (flat rs)[i * 4 + 3]? = some (.int .i64 (rat rs i).y1) := by
  induction rs generalizing i with
  | nil => simp at h
  | cons r l ih =>
    cases i with
    | zero => simp [flat, rat]
    | succ i =>
      have h' : i < l.length := by simpa using h
      have := ih h'
      have e : rat (r :: l) (i + 1) = rat l i := by simp [rat]
      rw [e, show (i + 1) * 4 = i * 4 + 1 + 1 + 1 + 1 by omega, show i * 4 + 1 + 1 + 1 + 1 + 1 = (i * 4 + 1) + 1 + 1 + 1 + 1 by omega, show i * 4 + 1 + 1 + 1 + 1 + 2 = (i * 4 + 2) + 1 + 1 + 1 + 1 by omega, show i * 4 + 1 + 1 + 1 + 1 + 3 = (i * 4 + 3) + 1 + 1 + 1 + 1 by omega]
      simpa only [flat, List.getElem?_cons_succ] using this
theorem rs_of_own {w : World} {base n : Nat} {v : Value} {rs : List R4} (h : w.ownsRow base 23 4 v n (flat rs)) (hl : rs.length = n) :
    ∃ a c, v = .slice a n c ∧ RS w a n rs := by
  rcases h.2 with ⟨rfl, rfl⟩ | ⟨g, cap, cur, rfl, hb, hh, h1, h2, h3, h4⟩
  · exact ⟨none, 0, rfl, hl, fun h => absurd h (by omega)⟩
  · refine ⟨_, cap, rfl, hl, fun _ => ⟨g, 0, rfl, fun i hi => ?_⟩⟩
    obtain ⟨f0, f1, f2, f3⟩ := flat_at (rs := rs) (i := i) (by omega)
    unfold At4
    rw [Nat.zero_add, h.cellAt (i * 4) (by omega), h.cellAt (i * 4 + 1) (by omega), h.cellAt (i * 4 + 2) (by omega), h.cellAt (i * 4 + 3) (by omega)]
    exact ⟨f0, f1, f2, f3⟩
theorem eq4_same (p q r s : Int) : eq4 p q r s p q r s = true := by simp [eq4]
theorem refSame_any (a1 a2 : Option Addr) (n c1 c2 : Nat) (rs : List R4) (w : World) (h1 : RS w a1 n rs) (h2 : RS w a2 n rs) (hn : n ≤ 4000) :
    Calls Try.prog 11 #[.slice a1 n c1, .slice a2 n c2] w fun e w' => e = .returned (.bool true) ∧ Below w.heap.size w w' := by
  have H1 := Lib.hid h1
  have H2 := Lib.hid h2
  clear h1 h2
  have hq := run_neq23
  have hs4 := eq4_same
  go_enter Try.func11, Try.ntmps11
  go_wp2_with fail
  go_loopw [13] (fun i wr => ∃ k : Nat, k ≤ n ∧ i = .int .i64 k ∧ Seen w wr) (fun i _ => n - (intOf i).toNat)
  case atStart => exact ⟨0, Nat.zero_le _, rfl, Seen.refl w⟩
  case round =>
    obtain ⟨k, hk, rfl, hs⟩ := hrel
    have HS := Lib.hid hs
    clear hs
    by_cases hlt : k < n
    · obtain ⟨b1, o1, rfl, hc1⟩ := H1.out.2 (by omega)
      obtain ⟨b2, o2, rfl, hc2⟩ := H2.out.2 (by omega)
      obtain ⟨p0, p1, p2, p3⟩ := HS.out.at4 (hc1 k hlt)
      obtain ⟨q0, q1, q2, q3⟩ := HS.out.at4 (hc2 k hlt)
      clear hc1 hc2
      go_wp2_with fail
      go_quiet (fail)
      go_wp2_with fail
      go_roundw
      case rel => exact ⟨k + 1, by omega, by go_num, Seen.next HS.out (Go.Joins.below_draws _ _ _)⟩
      case measure => simp [intOf]; omega
    · go_wp2_with fail
      go_ret
      exact ⟨rfl, HS.out⟩
end Go.Proofs.Ytckfdlolmenigaa
