/- Layer 15 as plain mathematics: the preferred width of a box; no conditions beyond those written in each theorem. -/
import Derived.Test.YtlnnaegmcopiiaaKinAt
import Derived.Test.YtlnnaegmcopiiaaSumMath
import Derived.Test.YtlnnaegmcopiiaaBase
namespace Go.Proofs.Ytlnnaegmcopiiaa
open Go.ChangeShapes Go.WideShapes Go.ChangeAt Go.RowKit
set_option maxRecDepth 100000
/-- A length in units, or another number. -/
def uN (x : Ln) (o : Int) : Int := if x.k = 1 then x.n else o
/-- What adds up to the outer width. -/
def zsO (s : Sty) (x : Int) : List Int := [uN (lat s.lens 13) 0, bat s.bord 3, uN (lat s.lens 17) 0, x, uN (lat s.lens 15) 0, bat s.bord 1, uN (lat s.lens 11) 0]
def outP (s : Sty) : Option Int → Option Int
  | none => none
  | some x => if sumB (zsO s x) then some (sumN (zsO s x)) else none
/-- The greatest of some widths, but at least m. -/
def prW (O : Int → Option Int) : List Int → Int → Option Int
  | [], m => some m
  | k :: r, m => match O k with
    | none => none
    | some x => prW O r (max m x)
def bndP (s : Sty) : Option Int → Option Int
  | none => none
  | some w => some (clampI w (uN (lat s.lens 6) 0) (uN (lat s.lens 7) 1125899906842624))
/-- The preferred width, to some depth. -/
def prO (l : List Nd) : Nat → Int → Option Int
  | 0, _ => none
  | f + 1, n => bndP (styAt l n) (if (lat (styAt l n).lens 4).k = 1 then some (lat (styAt l n).lens 4).n else prW (fun k => outP (styAt l k) (prO l f k)) (flowV l n) 0)
/-- Content's answer. -/
def prefO (l : List Nd) (n : Int) : Option Int := if (plAt l n).made then prO l l.length n else none
/-- The answer as a value. -/
def prA (o : Option Int) : Value := .tuple #[.int .i64 (o.getD 0), .bool o.isSome]
theorem flow_mem {l : List Nd} {n : Nat} (h : FormedT l) {x : Int} (hx : x ∈ flowV l n) : ∃ m : Nat, x = m ∧ n < m ∧ m < l.length ∧ madeB l m = true ∧ (nd l m).p = n := by
  unfold flowV at hx
  split at hx
  · unfold flowTo at hx
    obtain ⟨h1, h2⟩ := List.mem_filter.1 hx
    unfold kidsTo at h1
    obtain ⟨m, hm, rfl⟩ := List.mem_map.1 h1
    obtain ⟨h3, h4⟩ := List.mem_filter.1 hm
    have h5 : m < l.length := by simpa using h3
    unfold kidB at h4
    rw [Bool.and_eq_true] at h4
    have h6 : (nd l m).p = n := by simpa using h4.2
    unfold flowF at h2
    rw [Bool.and_eq_true] at h2
    have := (par_lt h h5).2
    exact ⟨m, rfl, by omega, h5, h2.1, h6⟩
  · cases hx
end Go.Proofs.Ytlnnaegmcopiiaa
