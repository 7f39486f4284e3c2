/- An argument made of numbers and Booleans alone (structs, arrays, nested), opened cell by cell. No number of a seat in it; no conditions beyond those written in each theorem. -/
import Derived.Test.YtimnhognjkgohaaGen
namespace Go.Proofs.Ytimnhognjkgohaa
open Go.ChangeShapes Go.WideShapes Go.ChangeAt Go.RowKit
set_option maxRecDepth 100000
/-- What one cell is. -/
inductive Atom where
  | int (k : IntKind)
  | bool
def Atom.fits : Atom → Value → Prop
  | .int k, v => ∃ n, v = .int k n ∧ (Lit.int k n).wf = true
  | .bool, v => ∃ b, v = .bool b
/-- What cell i of a value of type t is. -/
def atomAt (P : Program) : Nat → TypeId → Nat → Option Atom
  | 0, _, _ => none
  | d + 1, t, i =>
    match P.underlying t with
    | some (.int k) => if i = 0 then some (.int k) else none
    | some .bool => if i = 0 then some .bool else none
    | some (.struct fs) =>
      match fs.find? (fun f => decide (f.offset ≤ i) && decide (i < f.offset + P.cellsOf f.type)) with
      | some f => atomAt P d f.type (i - f.offset)
      | none => none
    | some (.array n e) => if i / P.cellsOf e < n ∧ 0 < P.cellsOf e then atomAt P d e (i % P.cellsOf e) else none
    | _ => none
section
variable {H : Type} {enc : TypeId × Value → H} {P : Program} {w : World} {base : Nat} {spare : Nat → Bool} {held : Bool}
theorem get_part {l : List Value} {o c i : Nat} (h1 : o ≤ i) (h2 : i < o + c) : ((l.drop o).take c)[i - o]? = l[i]? := by
  rw [List.getElem?_take_of_lt (by omega), List.getElem?_drop, show o + (i - o) = i by omega]
theorem trod_atom {d : Nat} : ∀ {t : TypeId} {i : Nat} {a : Atom} {fuel : Nat} {cs : List Value} {x : DataW H × List MemPlace}, atomAt P d t i = some a → DataW.trod enc P w base spare held fuel t cs = some x → ∃ v, cs[i]? = some v ∧ a.fits v := by
  induction d with
  | zero => intro t i a fuel cs x h; simp [atomAt] at h
  | succ d ih =>
    intro t i a fuel cs x h hx
    unfold atomAt at h
    split at h
    · rename_i k hu
      split at h
      · rename_i hi; subst hi
        obtain ⟨n, rfl, _, hw⟩ := DataW.trod_int hu hx
        cases h
        exact ⟨_, rfl, n, rfl, hw⟩
      · cases h
    · rename_i hu
      split at h
      · rename_i hi; subst hi
        obtain ⟨b, rfl, _⟩ := DataW.trod_bool hu hx
        cases h
        exact ⟨_, rfl, b, rfl⟩
      · cases h
    · rename_i fs hu
      split at h
      · rename_i f hf
        have hm := Array.mem_of_find?_eq_some hf
        have hp := Array.find?_some hf
        simp only [Bool.and_eq_true, decide_eq_true_eq] at hp
        obtain ⟨xs, n, _, _, hl, hxl, hfl⟩ := DataW.trod_struct hu hx
        obtain ⟨j, hj, hjf⟩ := Array.getElem_of_mem hm
        have hfj := hfl j f (by rw [Array.getElem?_eq_getElem hj, hjf])
        rw [List.getElem?_eq_getElem (by omega)] at hfj
        obtain ⟨v, hv, hfit⟩ := ih h hfj
        exact ⟨v, by rw [← hv, get_part hp.1 hp.2], hfit⟩
      · cases h
    · rename_i n e hu
      split at h
      · rename_i hi
        obtain ⟨xs, m, _, _, hl, hxl, hfl⟩ := DataW.trod_array hu hx
        have hfj := hfl (i / P.cellsOf e) hi.1
        rw [List.getElem?_eq_getElem (by omega)] at hfj
        obtain ⟨v, hv, hfit⟩ := ih h hfj
        refine ⟨v, ?_, hfit⟩
        have hdm := Nat.div_add_mod i (P.cellsOf e)
        have hml := Nat.mod_lt i hi.2
        rw [Nat.mul_comm] at hdm
        have e1 : i - i / P.cellsOf e * P.cellsOf e = i % P.cellsOf e := by omega
        rw [← hv, ← e1, get_part (by omega) (by omega)]
      · cases h
    · cases h
/-- Struct or array. -/
def isAggT (P : Program) (t : TypeId) : Bool := match P.underlying t with | some (.struct _) => true | some (.array _ _) => true | _ => false
theorem open_flat {r : Reach} {b0 : Nat} {t : TypeId} {v : Value} {dd : DataW H} {p : List MemPlace} (ht : isAggT P t = true) (hv : Value.okWide P w r b0 t v) (h : DataW.Trod enc P w base spare held t v dd p) :
    ∃ cs, v = .agg cs ∧ cs.size = P.cellsOf t ∧ ∀ d i a, atomAt P d t i = some a → ∃ u, cs[i]? = some u ∧ a.fits u := by
  have h1 : ∃ cs, v = .agg cs ∧ cs.size = P.cellsOf t := by
    unfold isAggT at ht
    unfold Value.okWide at hv
    split at ht
    · rename_i hu
      simp only [hu] at hv
      obtain ⟨cs, h1, h2, _⟩ := hv
      exact ⟨cs, h1, h2⟩
    · rename_i hu
      simp only [hu] at hv
      obtain ⟨cs, h1, h2, _⟩ := hv
      exact ⟨cs, h1, h2⟩
    · cases ht
  obtain ⟨cs, rfl, hs⟩ := h1
  refine ⟨cs, rfl, hs, fun d i a ha => ?_⟩
  obtain ⟨fuel, hf⟩ := h
  obtain ⟨u, hu, hfit⟩ := trod_atom ha hf
  exact ⟨u, by simpa [Value.cells] using hu, hfit⟩
theorem fits_i64 {v : Value} (h : (Atom.int .i64).fits v) : ∃ n : Int, v = .int .i64 n ∧ -9223372036854775808 ≤ n ∧ n ≤ 9223372036854775807 := by
  obtain ⟨n, rfl, hw⟩ := h
  exact ⟨n, rfl, bounds_i64 hw⟩
end
end Go.Proofs.Ytimnhognjkgohaa
