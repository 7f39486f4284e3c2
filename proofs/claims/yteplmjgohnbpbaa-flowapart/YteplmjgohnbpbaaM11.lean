/- Texts of the proof, merged: Size, RefSize, OpenA, SumMath. -/
import Derived.Test.YteplmjgohnbpbaaM10
import Derived.Test.YteplmjgohnbpbaaM0
import Derived.Test.YteplmjgohnbpbaaM9
import Derived.Below
/- Contracts of package size (known, Of, Or, Least, Most) and of their reference twins, over the translation of this seat; no conditions. -/
namespace Go.Proofs.Yteplmjgohnbpbaa
open Go.ChangeShapes Go.WideShapes Go.ChangeAt Go.RowKit
set_option maxRecDepth 100000
/-- A size: auto, or a number. -/
structure Sz where
  au : Bool
  n : Int
deriving DecidableEq
/-- A length (kind k, number n) of the base b: the size. -/
def ofS (k n b : Int) (has : Bool) : Sz :=
  if k = 0 then ⟨true, 0⟩ else if k = 1 then ⟨false, if fitsB n then n else 0⟩ else if k = 2 then (if has then ⟨false, partN b n⟩ else ⟨true, 0⟩) else ⟨false, 0⟩
/-- Whether it is one. -/
def ofB (k n b : Int) (has : Bool) : Bool :=
  if k = 0 then true else if k = 1 then fitsB n else if k = 2 then (if has then partB b n else true) else false
def orV (s : Sz) (n : Int) : Int := if s.au then n else s.n
def ofOrV (k n b : Int) (has : Bool) (d : Int) : Int := if ofB k n b has then orV (ofS k n b has) d else 0
theorem ret_sz {a b : Sz} {c d : Bool} (h : a = b) (h2 : c = d) : Ending.returned (.tuple #[.agg #[.bool a.au, .int .i64 a.n], .bool c]) = .returned (.tuple #[.agg #[.bool b.au, .int .i64 b.n], .bool d]) := by rw [h, h2]
theorem known_any (n : Int) (b : Bool) (w : World) :
    Calls Try.prog 84 #[.int .i64 n, .bool b] w fun e w' => e = .returned (.tuple #[.agg #[.bool false, .int .i64 (if b then n else 0)], .bool b]) ∧ Below w.heap.size w w' := by
  cases b
  · go_enter Try.func84, Try.ntmps84
    go_wp2
    go_returns
    exact ⟨rfl, by go_grown⟩
  · go_enter Try.func84, Try.ntmps84
    go_wp2
    go_returns
    exact ⟨rfl, by go_grown⟩
theorem or_any (s : Sz) (n : Int) (w : World) :
    Calls Try.prog 39 #[.agg #[.bool s.au, .int .i64 s.n], .int .i64 n] w fun e w' => e = .returned (.int .i64 (orV s n)) ∧ Below w.heap.size w w' := by
  obtain ⟨a, m⟩ := s
  cases a
  all_goals
    go_enter Try.func39, Try.ntmps39
    go_wp2
    go_ret
    exact ⟨rfl, by go_grown⟩
theorem known_as (n : Int) (b : Bool) (m : Int) (hm : (if b then n else 0) = m) (w : World) :
    Calls Try.prog 84 #[.int .i64 n, .bool b] w fun e w' => e = .returned (.tuple #[.agg #[.bool false, .int .i64 m], .bool b]) ∧ Below w.heap.size w w' := hm ▸ known_any n b w
def fitN (n : Int) : Int := if fitsB n then n else 0
theorem fits_eq (n : Int) (w : World) : Calls Try.prog 76 #[.int .i64 n] w fun e w' => e = .returned (.bool (fitsB n)) ∧ w' = w := (fits_any n w).mono fun _ _ h => ⟨h.1, h.2.symm⟩
theorem partN_if (b n : Int) : (if partB b n then partN b n else 0) = partN b n := by unfold partN; split <;> simp_all
theorem of_any (k n b : Int) (has : Bool) (w : World) :
    Calls Try.prog 63 #[.agg #[.int .i64 k, .int .i64 n], .int .i64 b, .bool has] w fun e w' => e = .returned (.tuple #[.agg #[.bool (ofS k n b has).au, .int .i64 (ofS k n b has).n], .bool (ofB k n b has)]) ∧ Below w.heap.size w w' := by
  by_cases h0 : k = 0
  · subst h0
    go_enter Try.func63, Try.ntmps63
    go_wp2
    go_returns
    exact ⟨rfl, by go_grown⟩
  · by_cases h1 : k = 1
    · subst h1
      clear h0
      have HS := Lib.hid (show ofS 1 n b has = ⟨false, fitN n⟩ from rfl)
      have HB := Lib.hid (show ofB 1 n b has = fitsB n from rfl)
      obtain ⟨W, hW⟩ : ∃ W, W = (w.alloc (.cells #[.int .i64 1, .int .i64 n] 35)).alloc (.cells #[.bool false, .int .i64 0] 24) := ⟨_, rfl⟩
      have b0 := Blk.rules2 (show Blk W w.heap.size [.int .i64 1, .int .i64 n] 35 by rw [hW]; exact (Blk.new w _ _).alloc _)
      have k1 : Blk W (w.heap.size + 1) [.bool false, .int .i64 0] 24 := by rw [hW]; simpa using Blk.new (w.alloc (.cells #[.int .i64 1, .int .i64 n] 35)) [.bool false, .int .i64 0] 24
      have b1 := Blk.rules2 k1
      have hWb : Below w.heap.size w W := by subst hW; go_grown
      have sr := Seen.refl W
      have c0 := b0 W sr
      go_enter Try.func63, Try.ntmps63
      go_wp2_with fail
      rw [← hW]
      clear hW
      have r0 := fun w' h => (b0 w' h).2.1
      go_region_held3 (fun w' => w'.cell? ⟨w.heap.size, 1, none⟩ = some (.int .i64 n))
        (first | exact r0 _ sr.drew | exact r0 _ s1 | (rw [World.cell?_setCell_far _ _ _ _ (by simp), World.cell?_setCell_far _ _ _ _ (by simp)]; exact r0 _ s1))
        (first
          | (go_at_call 76; refine (fits_eq n _).mono ?_; rintro _ w' ⟨rfl, rfl⟩)
          | (go_at_call 84; refine (known_as _ _ (fitN n) rfl _).mono ?_; rintro e w' ⟨rfl, hb⟩; have s1 : Seen W w' := sr.drew.next hb; clear hb))
      go_wp2_with fail
      have z := ((k1.seen s1).set 0 (.bool false)).set 1 (.int .i64 (fitN n))
      have z0 := z.cell 0
      have z1 := z.cell 1
      refine bodyPost_ret (by simp [results, Try.results63, go_sem, z0, z1]; try rfl) rfl ?_
      exact ⟨by rw [HS.out, HB.out], (hWb.trans (s1.mono hWb.size)).setCell (by simp) _ |>.setCell (by simp) _⟩
    · by_cases h2 : k = 2
      · subst h2
        clear h0 h1
        cases has
        · go_enter Try.func63, Try.ntmps63
          go_wp2
          go_returns
          exact ⟨rfl, by go_grown⟩
        · have HS := Lib.hid (show ofS 2 n b true = ⟨false, partN b n⟩ from rfl)
          have HB := Lib.hid (show ofB 2 n b true = partB b n from rfl)
          obtain ⟨W, hW⟩ : ∃ W, W = (w.alloc (.cells #[.int .i64 2, .int .i64 n] 35)).alloc (.cells #[.bool false, .int .i64 0] 24) := ⟨_, rfl⟩
          have b0 := Blk.rules2 (show Blk W w.heap.size [.int .i64 2, .int .i64 n] 35 by rw [hW]; exact (Blk.new w _ _).alloc _)
          have k1 : Blk W (w.heap.size + 1) [.bool false, .int .i64 0] 24 := by rw [hW]; simpa using Blk.new (w.alloc (.cells #[.int .i64 2, .int .i64 n] 35)) [.bool false, .int .i64 0] 24
          have b1 := Blk.rules2 k1
          have hWb : Below w.heap.size w W := by subst hW; go_grown
          have sr := Seen.refl W
          go_enter Try.func63, Try.ntmps63
          go_wp2_with (first | (go_at_call 85; rw [← hW]; clear hW; refine (part_any _ _ _).mono ?_; rintro e w' ⟨rfl, rfl⟩) | (go_at_call 84; refine (known_as _ _ (partN b n) (partN_if b n) _).mono ?_; rintro e w' ⟨rfl, hb⟩; have s1 : Seen W w' := sr.next hb; clear hb))
          have z := ((k1.seen s1).set 0 (.bool false)).set 1 (.int .i64 (partN b n))
          have z0 := z.cell 0
          have z1 := z.cell 1
          refine bodyPost_ret (by simp [results, Try.results63, go_sem, z0, z1]; try rfl) rfl ?_
          exact ⟨by rw [HS.out, HB.out], (hWb.trans (s1.mono hWb.size)).setCell (by simp) _ |>.setCell (by simp) _⟩
      · have HS := Lib.hid (show ofS k n b has = ⟨false, 0⟩ by unfold ofS; rw [if_neg h0, if_neg h1, if_neg h2])
        have HB := Lib.hid (show ofB k n b has = false by unfold ofB; rw [if_neg h0, if_neg h1, if_neg h2])
        go_enter Try.func63, Try.ntmps63
        go_wp2
        go_returns
        exact ⟨by rw [HS.out, HB.out], by go_grown⟩
theorem ofOr_any (k n b : Int) (has : Bool) (d : Int) (w : World) :
    Calls Try.prog 86 #[.agg #[.int .i64 k, .int .i64 n], .int .i64 b, .bool has, .int .i64 d] w fun e w' => e = .returned (.tuple #[.int .i64 (ofOrV k n b has d), .bool (ofB k n b has)]) ∧ Below w.heap.size w w' := by
  have HV := Lib.hid (show ofOrV k n b has d = if ofB k n b has then orV (ofS k n b has) d else 0 from rfl)
  obtain ⟨W, hW⟩ : ∃ W, W = w.alloc (.cells #[.int .i64 k, .int .i64 n] 35) := ⟨_, rfl⟩
  have b0 := Blk.rules2 (show Blk W w.heap.size [.int .i64 k, .int .i64 n] 35 by rw [hW]; exact Blk.new w _ _)
  have hWb : Below w.heap.size w W := by subst hW; go_grown
  have sr := Seen.refl W
  have oa := fun w => of_any k n b has w
  obtain ⟨s, hs⟩ : ∃ s, ofS k n b has = s := ⟨_, rfl⟩
  obtain ⟨c, hc⟩ : ∃ c, ofB k n b has = c := ⟨_, rfl⟩
  rw [hs, hc] at HV oa
  rw [hc]
  clear hs hc
  cases c
  · go_enter Try.func86, Try.ntmps86
    go_wp2_with (go_at_call 63; rw [← hW]; clear hW; refine (oa _).mono ?_; rintro e w' ⟨rfl, hb⟩; have s1 : Seen W w' := sr.next hb; clear hb)
    go_ret2
    exact ⟨ret_two HV.out.symm rfl, Seen.alloc (Seen.trans hWb s1) _⟩
  · go_enter Try.func86, Try.ntmps86
    go_wp2_with (first | (go_at_call 63; rw [← hW]; clear hW; refine (oa _).mono ?_; rintro e w' ⟨rfl, hb⟩; have s1 : Seen W w' := sr.next hb; clear hb) | (go_at_call 39; refine (or_any s d _).mono ?_; rintro e w2 ⟨rfl, hb⟩))
    go_ret2
    exact ⟨ret_two HV.out.symm rfl, Seen.next (Seen.alloc (Seen.trans hWb s1) _) hb⟩
end Go.Proofs.Yteplmjgohnbpbaa

/- Contracts of Least and Most, of the reference's Of, of the law package's own check, and how two sizes are compared; no conditions. -/
namespace Go.Proofs.Yteplmjgohnbpbaa
open Go.ChangeShapes Go.WideShapes Go.ChangeAt Go.RowKit
set_option maxRecDepth 100000
theorem least_any (k n b : Int) (has : Bool) (w : World) :
    Calls Try.prog 64 #[.agg #[.int .i64 k, .int .i64 n], .int .i64 b, .bool has] w fun e w' => e = .returned (.tuple #[.int .i64 (ofOrV k n b has 0), .bool (ofB k n b has)]) ∧ Below w.heap.size w w' := by
  go_enter Try.func64, Try.ntmps64
  go_wp2_with (go_at_call 86; refine (ofOr_any k n b has 0 _).mono ?_; rintro e w' ⟨rfl, hb⟩)
  go_ret2
  exact ⟨rfl, ((Seen.refl w).alloc _).next hb⟩
theorem most_any (k n b : Int) (has : Bool) (w : World) :
    Calls Try.prog 65 #[.agg #[.int .i64 k, .int .i64 n], .int .i64 b, .bool has] w fun e w' => e = .returned (.tuple #[.int .i64 (ofOrV k n b has 1125899906842624), .bool (ofB k n b has)]) ∧ Below w.heap.size w w' := by
  go_enter Try.func65, Try.ntmps65
  go_wp2_with (go_at_call 86; refine (ofOr_any k n b has 1125899906842624 _).mono ?_; rintro e w' ⟨rfl, hb⟩)
  go_ret2
  exact ⟨rfl, ((Seen.refl w).alloc _).next hb⟩
/-- Two sizes are alike. -/
def eqSz (a b : Sz) : Bool := decide (a.au = b.au ∧ a.n = b.n)
theorem eqSz_self (a : Sz) : eqSz a a = true := by simp [eqSz]
theorem run_eql26 (w : World) (a : Bool) (n : Int) (b : Bool) (m : Int) : (binOp .eql 24 (.agg #[.bool a, .int .i64 n]) (.agg #[.bool b, .int .i64 m])).run Try.prog w = .ok (.bool (eqSz ⟨a, n⟩ ⟨b, m⟩)) w := by
  unfold eqSz
  by_cases h1 : a = b
  · by_cases h2 : n = m
    · subst h1 h2; go_simp
    · subst h1; go_simp
  · go_simp
theorem run_neq26 (w : World) (a : Bool) (n : Int) (b : Bool) (m : Int) : (binOp .neq 24 (.agg #[.bool a, .int .i64 n]) (.agg #[.bool b, .int .i64 m])).run Try.prog w = .ok (.bool (!eqSz ⟨a, n⟩ ⟨b, m⟩)) w := by
  unfold eqSz
  by_cases h1 : a = b
  · by_cases h2 : n = m
    · subst h1 h2; go_simp
    · subst h1; go_simp
  · go_simp
end Go.Proofs.Yteplmjgohnbpbaa

/- An argument made of numbers and Booleans alone (structs, arrays, nested), opened cell by cell. No number of a seat in it; no conditions beyond those written in each theorem. -/
namespace Go.Proofs.Yteplmjgohnbpbaa
open Go.ChangeShapes Go.WideShapes Go.ChangeAt Go.RowKit
set_option maxRecDepth 100000
/-- What one cell is. -/
inductive Atom where
  | int (k : IntKind)
  | bool
def Atom.fits : Atom → Value → Prop
  | .int k, v => ∃ n, v = .int k n ∧ (Lit.int k n).wf = true
  | .bool, v => ∃ b, v = .bool b
/-- What cell i of a value of type t is. -/
def atomAt (P : Program) : Nat → TypeId → Nat → Option Atom
  | 0, _, _ => none
  | d + 1, t, i =>
    match P.underlying t with
    | some (.int k) => if i = 0 then some (.int k) else none
    | some .bool => if i = 0 then some .bool else none
    | some (.struct fs) =>
      match fs.find? (fun f => decide (f.offset ≤ i) && decide (i < f.offset + P.cellsOf f.type)) with
      | some f => atomAt P d f.type (i - f.offset)
      | none => none
    | some (.array n e) => if i / P.cellsOf e < n ∧ 0 < P.cellsOf e then atomAt P d e (i % P.cellsOf e) else none
    | _ => none
section
variable {H : Type} {enc : TypeId × Value → H} {P : Program} {w : World} {base : Nat} {spare : Nat → Bool} {held : Bool}
theorem get_part {l : List Value} {o c i : Nat} (h1 : o ≤ i) (h2 : i < o + c) : ((l.drop o).take c)[i - o]? = l[i]? := by
  rw [List.getElem?_take_of_lt (by omega), List.getElem?_drop, show o + (i - o) = i by omega]
theorem trod_atom {d : Nat} : ∀ {t : TypeId} {i : Nat} {a : Atom} {fuel : Nat} {cs : List Value} {x : DataW H × List MemPlace}, atomAt P d t i = some a → DataW.trod enc P w base spare held fuel t cs = some x → ∃ v, cs[i]? = some v ∧ a.fits v := by
  induction d with
  | zero => intro t i a fuel cs x h; simp [atomAt] at h
  | succ d ih =>
    intro t i a fuel cs x h hx
    unfold atomAt at h
    split at h
    · rename_i k hu
      split at h
      · rename_i hi; subst hi
        obtain ⟨n, rfl, _, hw⟩ := DataW.trod_int hu hx
        cases h
        exact ⟨_, rfl, n, rfl, hw⟩
      · cases h
    · rename_i hu
      split at h
      · rename_i hi; subst hi
        obtain ⟨b, rfl, _⟩ := DataW.trod_bool hu hx
        cases h
        exact ⟨_, rfl, b, rfl⟩
      · cases h
    · rename_i fs hu
      split at h
      · rename_i f hf
        have hm := Array.mem_of_find?_eq_some hf
        have hp := Array.find?_some hf
        simp only [Bool.and_eq_true, decide_eq_true_eq] at hp
        obtain ⟨xs, n, _, _, hl, hxl, hfl⟩ := DataW.trod_struct hu hx
        obtain ⟨j, hj, hjf⟩ := Array.getElem_of_mem hm
        have hfj := hfl j f (by rw [Array.getElem?_eq_getElem hj, hjf])
        rw [List.getElem?_eq_getElem (by omega)] at hfj
        obtain ⟨v, hv, hfit⟩ := ih h hfj
        exact ⟨v, by rw [← hv, get_part hp.1 hp.2], hfit⟩
      · cases h
    · rename_i n e hu
      split at h
      · rename_i hi
        obtain ⟨xs, m, _, _, hl, hxl, hfl⟩ := DataW.trod_array hu hx
        have hfj := hfl (i / P.cellsOf e) hi.1
        rw [List.getElem?_eq_getElem (by omega)] at hfj
        obtain ⟨v, hv, hfit⟩ := ih h hfj
        refine ⟨v, ?_, hfit⟩
        have hdm := Nat.div_add_mod i (P.cellsOf e)
        have hml := Nat.mod_lt i hi.2
        rw [Nat.mul_comm] at hdm
        have e1 : i - i / P.cellsOf e * P.cellsOf e = i % P.cellsOf e := by omega
        rw [← hv, ← e1, get_part (by omega) (by omega)]
      · cases h
    · cases h
/-- Struct or array. -/
def isAggT (P : Program) (t : TypeId) : Bool := match P.underlying t with | some (.struct _) => true | some (.array _ _) => true | _ => false
theorem open_flat {r : Reach} {b0 : Nat} {t : TypeId} {v : Value} {dd : DataW H} {p : List MemPlace} (ht : isAggT P t = true) (hv : Value.okWide P w r b0 t v) (h : DataW.Trod enc P w base spare held t v dd p) :
    ∃ cs, v = .agg cs ∧ cs.size = P.cellsOf t ∧ ∀ d i a, atomAt P d t i = some a → ∃ u, cs[i]? = some u ∧ a.fits u := by
  have h1 : ∃ cs, v = .agg cs ∧ cs.size = P.cellsOf t := by
    unfold isAggT at ht
    unfold Value.okWide at hv
    split at ht
    · rename_i hu
      simp only [hu] at hv
      obtain ⟨cs, h1, h2, _⟩ := hv
      exact ⟨cs, h1, h2⟩
    · rename_i hu
      simp only [hu] at hv
      obtain ⟨cs, h1, h2, _⟩ := hv
      exact ⟨cs, h1, h2⟩
    · cases ht
  obtain ⟨cs, rfl, hs⟩ := h1
  refine ⟨cs, rfl, hs, fun d i a ha => ?_⟩
  obtain ⟨fuel, hf⟩ := h
  obtain ⟨u, hu, hfit⟩ := trod_atom ha hf
  exact ⟨u, by simpa [Value.cells] using hu, hfit⟩
theorem fits_i64 {v : Value} (h : (Atom.int .i64).fits v) : ∃ n : Int, v = .int .i64 n ∧ -9223372036854775808 ≤ n ∧ n ≤ 9223372036854775807 := by
  obtain ⟨n, rfl, hw⟩ := h
  exact ⟨n, rfl, bounds_i64 hw⟩
end
end Go.Proofs.Yteplmjgohnbpbaa

/- Plain facts on lists of integers and on a slice of int64 in memory: what the sum contracts speak of. -/
namespace Go.Proofs.Yteplmjgohnbpbaa
open Go.ChangeShapes Go.WideShapes Go.ChangeAt Go.RowKit
set_option maxRecDepth 100000

def isum : List Int → Int
  | [] => 0
  | x :: r => x + isum r

theorem isum_append (a b : List Int) : isum (a ++ b) = isum a + isum b := by
  induction a with
  | nil => simp [isum]
  | cons x r ih => simp only [List.cons_append, isum, ih]; omega

theorem isum_reverse (a : List Int) : isum a.reverse = isum a := by
  induction a with
  | nil => rfl
  | cons x r ih => rw [List.reverse_cons, isum_append, ih]; simp only [isum]; omega

/-- The element at k (0 beyond the end), under a name of its own. -/
def zat (zs : List Int) (k : Nat) : Int := zs.getD k 0
theorem zat_eq {zs : List Int} {k : Nat} (h : k < zs.length) : zat zs k = zs[k] := by unfold zat; simp [h]

theorem isum_take_succ (zs : List Int) (k : Nat) (h : k < zs.length) : isum (zs.take (k + 1)) = isum (zs.take k) + zat zs k := by
  have e : zs.take (k + 1) = zs.take k ++ [zat zs k] := by
    rw [List.take_succ_eq_append_getElem h, zat_eq h]
  rw [e, isum_append]; simp [isum]

theorem isum_bound (zs : List Int) (h : zs.all fitsB = true) : -(zs.length * 1125899906842624 : Int) ≤ isum zs ∧ isum zs ≤ (zs.length * 1125899906842624 : Int) := by
  induction zs with
  | nil => simp [isum]
  | cons x r ih =>
    rw [List.all_cons, Bool.and_eq_true] at h
    have h1 := ih h.2
    have h2 : -1125899906842624 ≤ x ∧ x ≤ 1125899906842624 := by have := h.1; unfold fitsB at this; simpa using this
    simp only [isum, List.length_cons]
    omega

/-- What Sum returns of a list: the sum and true where each element and the sum fit, else 0 and false. -/
def sumB (zs : List Int) : Bool := zs.all fitsB && fitsB (isum zs)
def sumN (zs : List Int) : Int := if sumB zs then isum zs else 0

theorem sumB_reverse (zs : List Int) : sumB zs.reverse = sumB zs := by
  unfold sumB; rw [isum_reverse, List.all_reverse]
theorem sumN_reverse (zs : List Int) : sumN zs.reverse = sumN zs := by
  unfold sumN; rw [sumB_reverse, isum_reverse]

theorem sum_bad {zs : List Int} {k : Nat} (hk : k < zs.length) (h : fitsB (zat zs k) = false) : sumN zs = 0 ∧ sumB zs = false := by
  have hB : sumB zs = false := by
    unfold sumB
    rw [Bool.and_eq_false_iff]
    left
    rw [List.all_eq_false]
    exact ⟨zat zs k, by rw [zat_eq hk]; exact List.getElem_mem hk, by rw [h]; decide⟩
  exact ⟨by unfold sumN; rw [hB]; rfl, hB⟩

theorem all_take_succ {zs : List Int} {k : Nat} (hk : k < zs.length) (h : (zs.take k).all fitsB = true) (h2 : fitsB (zat zs k) = true) : (zs.take (k + 1)).all fitsB = true := by
  have e : zs.take (k + 1) = zs.take k ++ [zat zs k] := by
    rw [List.take_succ_eq_append_getElem hk, zat_eq hk]
  rw [e, List.all_append, h]; simpa using h2

theorem sum_good {zs : List Int} (h : zs.all fitsB = true) (h2 : fitsB (isum zs) = true) : sumN zs = isum zs ∧ sumB zs = true := by
  have hB : sumB zs = true := by unfold sumB; rw [h, h2]; rfl
  exact ⟨by unfold sumN; rw [hB]; rfl, hB⟩
theorem sum_great {zs : List Int} (h2 : fitsB (isum zs) = false) : sumN zs = 0 ∧ sumB zs = false := by
  have hB : sumB zs = false := by unfold sumB; rw [h2, Bool.and_false]
  exact ⟨by unfold sumN; rw [hB]; rfl, hB⟩

/-- A slice of int64, nil let in, that reads as the list zs. -/
def ZI (w : World) (a : Option Addr) (n : Nat) (zs : List Int) : Prop :=
  zs.length = n ∧ (0 < n → ∃ b off, a = some ⟨b, off, none⟩ ∧ ∀ i, i < n → w.cell? ⟨b, off + i, none⟩ = some (.int .i64 (zat zs i)))
end Go.Proofs.Yteplmjgohnbpbaa
