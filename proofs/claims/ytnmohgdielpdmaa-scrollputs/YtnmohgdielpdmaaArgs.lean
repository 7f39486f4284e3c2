/- Arguments that came in, opened: a number, bytes, pieces; no conditions beyond those written in each theorem. -/
import Derived.Test.YtnmohgdielpdmaaOpenL
import Derived.Test.YtnmohgdielpdmaaBytes
namespace Go.Proofs.Ytnmohgdielpdmaa
open Go.ChangeShapes Go.WideShapes Go.ChangeAt Go.RowKit Go.Joins Go.Deep
theorem wf_u8 {n : Int} (h : (Lit.int .u8 n).wf = true) : 0 ≤ n ∧ n < 256 := by
  simp [Lit.wf, IntKind.min, IntKind.max, IntKind.signed, IntKind.bits] at h; omega
theorem wf_i64 {n : Int} (h : (Lit.int .i64 n).wf = true) : -9223372036854775808 ≤ n ∧ n < 9223372036854775808 := by
  simp [Lit.wf, IntKind.min, IntKind.max, IntKind.signed, IntKind.bits] at h; omega
section
variable {H : Type} {enc : TypeId × Value → H} {w : World} {base : Nat} {spare : Nat → Bool} {held : Bool} {r : Reach} {b0 : Nat} {v : Value} {d : DataW H} {p : List MemPlace}
theorem open_num (hv : Value.okWide Try.prog w r b0 2 v) (h : DataW.Trod enc Try.prog w base spare held 2 v d p) : ∃ n : Int, v = .int .i64 n ∧ -9223372036854775808 ≤ n ∧ n < 9223372036854775808 := by
  obtain ⟨n, rfl, rfl, rfl, wn⟩ := open_int Try.underlying2 hv h
  exact ⟨n, rfl, wf_i64 wn⟩
theorem open_bytes (hv : Value.okWide Try.prog w r b0 24 v) (h : DataW.Trod enc Try.prog w base spare held 24 v d p) :
    ∃ (a : Option Addr) (len cap : Nat) (l : List Int), v = .slice a len cap ∧ BS w a len l ∧ Bytes8 l ∧ len ≤ cap ∧ (a = none → cap = 0) := by
  obtain ⟨a, len, cap, l, rfl, hs, hok, hc, hn⟩ := open_list (fun x : Int => [Value.int .u8 x]) (fun x => 0 ≤ x ∧ x < 256) 0 Try.underlying24 (by kernel_rfl : Try.prog.cellsOf 5 = 1) (by omega) (fun _ => rfl)
    (fun fuel cs x hx => by obtain ⟨n, rfl, _, wn⟩ := DataW.trod_int Try.underlying5 hx; exact ⟨n, rfl, wf_u8 wn⟩) hv h
  refine ⟨a, len, cap, l, rfl, ⟨hs.1, fun h0 => ?_⟩, hok, hc, hn⟩
  obtain ⟨b, off, e, hcell⟩ := hs.2 h0
  refine ⟨b, off, e, fun i hi => ?_⟩
  have := hcell i hi 0 (by omega)
  rwa [Nat.mul_one, Nat.add_zero] at this
/-- A piece: its kind, its number. -/
structure Pc where
  kd : Int
  n : Int
/-- The cells of a piece. -/
def flatP (q : Pc) : List Value := [.int .u8 q.kd, .int .i64 q.n]
/-- Piece i of a list. -/
def pat (l : List Pc) (i : Nat) : Pc := l.getD i ⟨0, 0⟩
/-- Its numbers are of their kinds. -/
def okP (q : Pc) : Prop := (0 ≤ q.kd ∧ q.kd < 256) ∧ -9223372036854775808 ≤ q.n ∧ q.n < 9223372036854775808
theorem pat_eq {l : List Pc} {i : Nat} (h : i < l.length) : pat l i = l[i] := by
  unfold pat; rw [List.getD_eq_getElem?_getD, List.getElem?_eq_getElem h]; rfl
/-- A slice of n pieces reads as this list. -/
def PS (w : World) (ad : Option Addr) (n : Nat) (l : List Pc) : Prop :=
  l.length = n ∧ (0 < n → ∃ b off, ad = some ⟨b, off, none⟩ ∧ ∀ i, i < n → w.cell? ⟨b, off + i * 2, none⟩ = some (.int .u8 (pat l i).kd) ∧ w.cell? ⟨b, off + i * 2 + 1, none⟩ = some (.int .i64 (pat l i).n))
theorem open_pieces (hv : Value.okWide Try.prog w r b0 22 v) (h : DataW.Trod enc Try.prog w base spare held 22 v d p) :
    ∃ (a : Option Addr) (len cap : Nat) (l : List Pc), v = .slice a len cap ∧ PS w a len l ∧ ∀ q ∈ l, okP q := by
  have c28 : Try.prog.cellsOf 28 = 2 := by kernel_rfl
  have c5 : Try.prog.cellsOf 5 = 1 := by kernel_rfl
  have c2 : Try.prog.cellsOf 2 = 1 := by kernel_rfl
  obtain ⟨a, len, cap, l, rfl, hs, hok, hc, hn⟩ := open_list flatP okP ⟨0, 0⟩ Try.underlying22 c28 (by omega) (fun _ => rfl)
    (fun fuel cs x hx => by
      obtain ⟨xs, n, _, _, hl, hx', hf⟩ := DataW.trod_struct Try.underlying28 hx
      rw [c28] at hl
      match cs, hl, xs, hx' with
      | [k0, k1], _, [y0, y1], _ =>
        have e0 : DataW.trod enc Try.prog w base spare held n 5 [k0] = some y0 := by
          have h := hf 0 _ rfl
          simpa [c5] using h
        have e1 : DataW.trod enc Try.prog w base spare held n 2 [k1] = some y1 := by
          have h := hf 1 _ rfl
          simpa [c2] using h
        obtain ⟨n0, q0, _, w0⟩ := DataW.trod_int Try.underlying5 e0
        obtain ⟨n1, q1, _, w1⟩ := DataW.trod_int Try.underlying2 e1
        simp only [List.cons.injEq, and_true] at q0 q1
        subst q0 q1
        exact ⟨⟨n0, n1⟩, rfl, wf_u8 w0, wf_i64 w1⟩) hv h
  refine ⟨a, len, cap, l, rfl, ⟨hs.1, fun h0 => ?_⟩, hok⟩
  obtain ⟨b, off, e, hcell⟩ := hs.2 h0
  exact ⟨b, off, e, fun i hi => ⟨hcell i hi 0 (by omega), hcell i hi 1 (by omega)⟩⟩
end
theorem PS.seen {w w' : World} {ad : Option Addr} {n : Nat} {l : List Pc} (h : PS w ad n l) (hs : Seen w w') : PS w' ad n l :=
  ⟨h.1, fun h0 => let ⟨b, off, e, hc⟩ := h.2 h0; ⟨b, off, e, fun i hi => ⟨hs.cell (hc i hi).1, hs.cell (hc i hi).2⟩⟩⟩
theorem pat_ok {l : List Pc} (h : ∀ q ∈ l, okP q) (i : Nat) : okP (pat l i) := by
  by_cases hi : i < l.length
  · rw [pat_eq hi]; exact h _ (List.getElem_mem hi)
  · unfold pat; rw [List.getD_eq_getElem?_getD, List.getElem?_eq_none (by omega)]; simp [okP]
end Go.Proofs.Ytnmohgdielpdmaa
