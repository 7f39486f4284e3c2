/- Arguments that came in, opened: an entry, a slice of entries, a slice of acts; how two entries are compared by == and !=. -/
import Derived.Test.YtacdgfihabjfkaaMem
import Derived.Deep.Slices
namespace Go.Proofs.Ytacdgfihabjfkaa
open Go.ChangeShapes Go.WideShapes Go.ChangeAt Go.RowKit Go.Joins Go.Deep
theorem cells31 : Try.prog.cellsOf 31 = 3 := by kernel_rfl
/-- Two entries are alike. -/
def eq3 (p q r p' q' r' : Int) : Bool := decide (p = p' ∧ q = q' ∧ r = r')
theorem run_eql31 (w : World) (p q r p' q' r' : Int) : (binOp .eql 31 (.agg #[.int .i64 p, .int .i64 q, .int .i64 r]) (.agg #[.int .i64 p', .int .i64 q', .int .i64 r'])).run Try.prog w = .ok (.bool (eq3 p q r p' q' r')) w := by
  unfold eq3
  by_cases h1 : p = p'
  · by_cases h2 : q = q'
    · by_cases h3 : r = r'
      · subst h1 h2 h3; go_simp
      · subst h1 h2; go_simp
    · subst h1; go_simp
  · go_simp
theorem run_neq31 (w : World) (p q r p' q' r' : Int) : (binOp .neq 31 (.agg #[.int .i64 p, .int .i64 q, .int .i64 r]) (.agg #[.int .i64 p', .int .i64 q', .int .i64 r'])).run Try.prog w = .ok (.bool (!eq3 p q r p' q' r')) w := by
  unfold eq3
  by_cases h1 : p = p'
  · by_cases h2 : q = q'
    · by_cases h3 : r = r'
      · subst h1 h2 h3; go_simp
      · subst h1 h2; go_simp
    · subst h1; go_simp
  · go_simp
theorem eq3_same (p q r : Int) : eq3 p q r p q r = true := by simp [eq3]
theorem entry_of_cells {H : Type} {enc : TypeId × Value → H} {w : World} {base : Nat} {spare : Nat → Bool} {held : Bool} {fuel : Nat} {cs : List Value} {x : DataW H × List MemPlace}
    (h : DataW.trod enc Try.prog w base spare held fuel 31 cs = some x) : ∃ q : E3, cs = flatE [q] := by
  obtain ⟨xs, n, _, _, hl, hx, hf⟩ := DataW.trod_struct Try.underlying31 h
  rw [cells31] at hl
  have hc2 : Try.prog.cellsOf 2 = 1 := by kernel_rfl
  have hc3 : Try.prog.cellsOf 3 = 1 := by kernel_rfl
  match cs, hl, xs, hx with
  | [c0, c1, c2], _, [y0, y1, y2], _ =>
    have e0 : DataW.trod enc Try.prog w base spare held n 2 [c0] = some y0 := by
      have h := hf 0 _ rfl
      simpa [hc2] using h
    have e1 : DataW.trod enc Try.prog w base spare held n 2 [c1] = some y1 := by
      have h := hf 1 _ rfl
      simpa [hc2] using h
    have e2 : DataW.trod enc Try.prog w base spare held n 3 [c2] = some y2 := by
      have h := hf 2 _ rfl
      simpa [hc3] using h
    obtain ⟨n0, q0, _⟩ := DataW.trod_int Try.underlying2 e0
    obtain ⟨n1, q1, _⟩ := DataW.trod_int Try.underlying2 e1
    obtain ⟨n2, q2, _⟩ := DataW.trod_int Try.underlying3 e2
    simp only [List.cons.injEq, and_true] at q0 q1 q2
    subst q0 q1 q2
    exact ⟨⟨n0, n1, n2⟩, rfl⟩
theorem open_entry {H : Type} {enc : TypeId × Value → H} {w : World} {base : Nat} {spare : Nat → Bool} {held : Bool} {r : Reach} {b0 : Nat} {v : Value} {d : DataW H} {p : List MemPlace}
    (hv : Value.okWide Try.prog w r b0 31 v) (h : DataW.Trod enc Try.prog w base spare held 31 v d p) :
    ∃ q : E3, v = .agg #[.int .i64 q.k, .int .i64 q.t, .int .i64 q.n] ∧ True := by
  obtain ⟨c0, c1, c2, y0, y1, y2, m, rfl, rfl, rfl, hy0, hy1, hy2⟩ := open_agg3 Try.underlying31 (by kernel_rfl) cells31 hv h
  obtain ⟨n0, e0, rfl, _⟩ := DataW.trod_int Try.underlying2 hy0
  obtain ⟨n1, e1, rfl, _⟩ := DataW.trod_int Try.underlying2 hy1
  obtain ⟨n2, e2, rfl, _⟩ := DataW.trod_int Try.underlying3 hy2
  simp only [List.cons.injEq, and_true] at e0 e1 e2
  subst e0 e1 e2
  exact ⟨⟨n0, n1, n2⟩, rfl, trivial⟩
theorem open_rowE {H : Type} {enc : TypeId × Value → H} {w : World} {base : Nat} {spare : Nat → Bool} {held : Bool} {r : Reach} {b0 : Nat} {v : Value} {d : DataW H} {p : List MemPlace}
    (hv : Value.okWide Try.prog w r b0 24 v) (h : DataW.Trod enc Try.prog w base spare held 24 v d p) :
    ∃ (a : Option Addr) (len cap : Nat) (rs : List E3), v = .slice a len cap ∧ ES w a len rs ∧ len ≤ cap ∧ (a = none → cap = 0) := by
  obtain ⟨a, len, cap, rfl⟩ := okWide_slice Try.underlying24 hv
  refine ⟨a, len, cap, ?_⟩
  obtain ⟨fuel, hf⟩ := h
  rcases open_slice Try.underlying24 hf with ⟨hcs, _⟩ | ⟨x, l, c, m, n, D, Pl, hcs, _, hl, _, hm, _, hi⟩
  · simp [Value.cells] at hcs
    obtain ⟨rfl, rfl, rfl⟩ := hcs
    exact ⟨[], rfl, ⟨rfl, fun h => absurd h (by omega)⟩, by omega, fun _ => rfl⟩
  · simp [Value.cells] at hcs
    obtain ⟨rfl, rfl, rfl⟩ := hcs
    have hlm : len ≤ m := by rw [hm]; split <;> omega
    rw [cells31] at hi
    have key : ∀ i, i < len → ∃ q : E3, ∀ j, j < 3 → w.cell? ((x.add (i * 3)).add j) = (flatE [q])[j]? := by
      intro i hil
      obtain ⟨cs', hc, ht⟩ := hi i (by omega)
      obtain ⟨q, rfl⟩ := entry_of_cells ht
      exact ⟨q, (World.cells?_some hc).2.2⟩
    obtain ⟨f, hfd⟩ : ∃ f : Nat → E3, ∀ i, i < len → ∀ j, j < 3 → w.cell? ((x.add (i * 3)).add j) = (flatE [f i])[j]? := by
      refine ⟨fun i => if h : i < len then Classical.choose (key i h) else ⟨0, 0, 0⟩, fun i hil => ?_⟩
      simp only [hil, dite_true]
      exact Classical.choose_spec (key i hil)
    refine ⟨(List.range len).map f, rfl, ⟨by simp, fun h0 => ?_⟩, hl, fun e => by cases e⟩
    obtain ⟨b, off, spot⟩ := x
    have hsp : spot = none := by
      have h1 := hfd 0 h0 0 (by omega)
      have h2 : w.cell? ⟨b, off, spot⟩ = some (.int .i64 (f 0).k) := by simpa [Addr.add, flatE] using h1
      exact World.cell?_spot h2
    subst hsp
    refine ⟨b, off, rfl, fun i hil => ?_⟩
    have e : eat ((List.range len).map f) i = f i := by
      rw [eat_eq (by simpa using hil)]; simp
    rw [e]
    have h1 := hfd i hil 0 (by omega)
    have h2 := hfd i hil 1 (by omega)
    have h3 := hfd i hil 2 (by omega)
    simp only [add_plain, Nat.add_zero] at h1 h2 h3
    exact ⟨h1, h2, h3⟩
/-- An act: what is done, and with which entry. -/
structure A4 where
  kd : Int
  e : E3
/-- The cells of an act. -/
def flatA (q : A4) : List Value := [.int .u8 q.kd, .int .i64 q.e.k, .int .i64 q.e.t, .int .i64 q.e.n]
/-- Element i of a list of acts. -/
def aat (l : List A4) (i : Nat) : A4 := l.getD i ⟨0, ⟨0, 0, 0⟩⟩
theorem aat_eq {l : List A4} {i : Nat} (h : i < l.length) : aat l i = l[i] := by
  unfold aat; rw [List.getD_eq_getElem?_getD, List.getElem?_eq_getElem h]; rfl
/-- An act's four cells lie here. -/
def AtA (w : World) (b o : Nat) (r : A4) : Prop :=
  w.cell? ⟨b, o, none⟩ = some (.int .u8 r.kd) ∧ At3 w b (o + 1) r.e
/-- A slice of n acts reads as this list. -/
def AS (w : World) (ad : Option Addr) (n : Nat) (l : List A4) : Prop :=
  l.length = n ∧ (0 < n → ∃ b off, ad = some ⟨b, off, none⟩ ∧ ∀ i, i < n → AtA w b (off + i * 4) (aat l i))
theorem AS.seen {w w' : World} {ad : Option Addr} {n : Nat} {l : List A4} (h : AS w ad n l) (hs : Seen w w') : AS w' ad n l :=
  ⟨h.1, fun h0 => let ⟨b, off, e, hc⟩ := h.2 h0; ⟨b, off, e, fun i hi => ⟨hs.cell (hc i hi).1, hs.at3 (hc i hi).2⟩⟩⟩
theorem cells34 : Try.prog.cellsOf 34 = 4 := by kernel_rfl
theorem act_of_cells {H : Type} {enc : TypeId × Value → H} {w : World} {base : Nat} {spare : Nat → Bool} {held : Bool} {fuel : Nat} {cs : List Value} {x : DataW H × List MemPlace}
    (h : DataW.trod enc Try.prog w base spare held fuel 34 cs = some x) : ∃ q : A4, cs = flatA q := by
  obtain ⟨xs, n, _, _, hl, hx, hf⟩ := DataW.trod_struct Try.underlying34 h
  rw [cells34] at hl
  have hc5 : Try.prog.cellsOf 5 = 1 := by kernel_rfl
  match cs, hl, xs, hx with
  | [c0, c1, c2, c3], _, [y0, y1], _ =>
    have e0 : DataW.trod enc Try.prog w base spare held n 5 [c0] = some y0 := by
      have h := hf 0 _ rfl
      simpa [hc5] using h
    have e1 : DataW.trod enc Try.prog w base spare held n 31 [c1, c2, c3] = some y1 := by
      have h := hf 1 _ rfl
      simpa [cells31] using h
    obtain ⟨n0, q0, _⟩ := DataW.trod_int Try.underlying5 e0
    obtain ⟨q, q1⟩ := entry_of_cells e1
    simp only [List.cons.injEq, and_true, flatE] at q0 q1
    obtain ⟨rfl, rfl, rfl⟩ := q1
    subst q0
    exact ⟨⟨n0, q⟩, rfl⟩
theorem open_acts {H : Type} {enc : TypeId × Value → H} {w : World} {base : Nat} {spare : Nat → Bool} {held : Bool} {r : Reach} {b0 : Nat} {v : Value} {d : DataW H} {p : List MemPlace}
    (hv : Value.okWide Try.prog w r b0 22 v) (h : DataW.Trod enc Try.prog w base spare held 22 v d p) :
    ∃ (a : Option Addr) (len cap : Nat) (rs : List A4), v = .slice a len cap ∧ AS w a len rs := by
  obtain ⟨a, len, cap, rfl⟩ := okWide_slice Try.underlying22 hv
  refine ⟨a, len, cap, ?_⟩
  obtain ⟨fuel, hf⟩ := h
  rcases open_slice Try.underlying22 hf with ⟨hcs, _⟩ | ⟨x, l, c, m, n, D, Pl, hcs, _, hl, _, hm, _, hi⟩
  · simp [Value.cells] at hcs
    obtain ⟨rfl, rfl, rfl⟩ := hcs
    exact ⟨[], rfl, rfl, fun h => absurd h (by omega)⟩
  · simp [Value.cells] at hcs
    obtain ⟨rfl, rfl, rfl⟩ := hcs
    have hlm : len ≤ m := by rw [hm]; split <;> omega
    rw [cells34] at hi
    have key : ∀ i, i < len → ∃ q : A4, ∀ j, j < 4 → w.cell? ((x.add (i * 4)).add j) = (flatA q)[j]? := by
      intro i hil
      obtain ⟨cs', hc, ht⟩ := hi i (by omega)
      obtain ⟨q, rfl⟩ := act_of_cells ht
      exact ⟨q, (World.cells?_some hc).2.2⟩
    obtain ⟨f, hfd⟩ : ∃ f : Nat → A4, ∀ i, i < len → ∀ j, j < 4 → w.cell? ((x.add (i * 4)).add j) = (flatA (f i))[j]? := by
      refine ⟨fun i => if h : i < len then Classical.choose (key i h) else ⟨0, ⟨0, 0, 0⟩⟩, fun i hil => ?_⟩
      simp only [hil, dite_true]
      exact Classical.choose_spec (key i hil)
    refine ⟨(List.range len).map f, rfl, by simp, fun h0 => ?_⟩
    obtain ⟨b, off, spot⟩ := x
    have hsp : spot = none := by
      have h1 := hfd 0 h0 0 (by omega)
      have h2 : w.cell? ⟨b, off, spot⟩ = some (.int .u8 (f 0).kd) := by simpa [Addr.add, flatA] using h1
      exact World.cell?_spot h2
    subst hsp
    refine ⟨b, off, rfl, fun i hil => ?_⟩
    have e : aat ((List.range len).map f) i = f i := by
      rw [aat_eq (by simpa using hil)]; simp
    rw [e]
    have h1 := hfd i hil 0 (by omega)
    have h2 := hfd i hil 1 (by omega)
    have h3 := hfd i hil 2 (by omega)
    have h4 := hfd i hil 3 (by omega)
    simp only [add_plain, Nat.add_zero] at h1 h2 h3 h4
    exact ⟨h1, h2, h3, h4⟩
end Go.Proofs.Ytacdgfihabjfkaa
