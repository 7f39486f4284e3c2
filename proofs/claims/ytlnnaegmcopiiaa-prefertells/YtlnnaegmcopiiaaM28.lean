/- Texts of the proof, merged: OpenS, OpenN, Push, Cat. -/
import Derived.Test.YtlnnaegmcopiiaaM11
import Derived.Test.YtlnnaegmcopiiaaM10
/- An argument that is a style, opened; no conditions beyond those written in each theorem. -/
namespace Go.Proofs.Ytlnnaegmcopiiaa
open Go.ChangeShapes Go.WideShapes Go.ChangeAt Go.RowKit Go.Joins Go.Deep
set_option maxRecDepth 100000
section
variable {H : Type} {enc : TypeId × Value → H} {w : World} {base : Nat} {spare : Nat → Bool} {held : Bool} {fuel : Nat} {x : DataW H × List MemPlace}
theorem c2 : Try.prog.cellsOf 2 = 1 := by kernel_rfl
theorem c3 : Try.prog.cellsOf 3 = 1 := by kernel_rfl
theorem c4 : Try.prog.cellsOf 4 = 1 := by kernel_rfl
theorem c23 : Try.prog.cellsOf 35 = 2 := by kernel_rfl
theorem c24 : Try.prog.cellsOf 36 = 8 := by kernel_rfl
theorem c25 : Try.prog.cellsOf 37 = 4 := by kernel_rfl
theorem c27 : Try.prog.cellsOf 39 = 48 := by kernel_rfl
theorem trod_i {t : TypeId} (ht : Try.prog.underlying t = some (.int .i64)) {a : Value} (h : DataW.trod enc Try.prog w base spare held fuel t [a] = some x) : ∃ n, a = .int .i64 n ∧ i64B n := by
  obtain ⟨n, q, _, wn⟩ := DataW.trod_int ht h
  simp only [List.cons.injEq, and_true] at q
  exact ⟨n, q, wf_i64 wn⟩
theorem trod_b {a : Value} (h : DataW.trod enc Try.prog w base spare held fuel 4 [a] = some x) : ∃ b, a = .bool b := by
  obtain ⟨b, q, _⟩ := DataW.trod_bool Try.underlying4 h
  simp only [List.cons.injEq, and_true] at q
  exact ⟨b, q⟩
/-- The numbers of a length are of 64 bits. -/
def okLn (q : Ln) : Prop := i64B q.k ∧ i64B q.n
theorem some_of {α : Type} {l : List α} {i n : Nat} (h : l.length = n) (hi : i < n) : ∃ y, l[i]? = some y := ⟨l[i], List.getElem?_eq_getElem (by omega)⟩
theorem trod_len {a b : Value} (h : DataW.trod enc Try.prog w base spare held fuel 35 [a, b] = some x) : ∃ q : Ln, a = .int .i64 q.k ∧ b = .int .i64 q.n ∧ okLn q := by
  obtain ⟨xs, n, _, _, _, hxl, hf⟩ := DataW.trod_struct Try.underlying35 h
  obtain ⟨y0, e0⟩ := some_of (i := 0) hxl (by decide)
  obtain ⟨y1, e1⟩ := some_of (i := 1) hxl (by decide)
  have h0 : DataW.trod enc Try.prog w base spare held n 3 [a] = some y0 := by have h := (hf 0 _ rfl).trans e0; simpa [c3] using h
  have h1 : DataW.trod enc Try.prog w base spare held n 2 [b] = some y1 := by have h := (hf 1 _ rfl).trans e1; simpa [c2] using h
  obtain ⟨k, rfl, hk⟩ := trod_i Try.underlying3 h0
  obtain ⟨m, rfl, hm⟩ := trod_i Try.underlying2 h1
  exact ⟨⟨k, m⟩, rfl, rfl, hk, hm⟩
theorem trod_lens4 {a0 b0 a1 b1 a2 b2 a3 b3 : Value} (h : DataW.trod enc Try.prog w base spare held fuel 36 [a0, b0, a1, b1, a2, b2, a3, b3] = some x) :
    ∃ q0 q1 q2 q3 : Ln, (a0 = .int .i64 q0.k ∧ b0 = .int .i64 q0.n ∧ okLn q0) ∧ (a1 = .int .i64 q1.k ∧ b1 = .int .i64 q1.n ∧ okLn q1) ∧ (a2 = .int .i64 q2.k ∧ b2 = .int .i64 q2.n ∧ okLn q2) ∧ (a3 = .int .i64 q3.k ∧ b3 = .int .i64 q3.n ∧ okLn q3) := by
  obtain ⟨xs, n, _, _, _, hxl, hf⟩ := DataW.trod_array Try.underlying36 h
  rw [c23] at hf
  obtain ⟨y0, e0⟩ := some_of (i := 0) hxl (by decide)
  obtain ⟨q0, r0⟩ := trod_len ((hf 0 (by decide)).trans e0)
  obtain ⟨y1, e1⟩ := some_of (i := 1) hxl (by decide)
  obtain ⟨q1, r1⟩ := trod_len ((hf 1 (by decide)).trans e1)
  obtain ⟨y2, e2⟩ := some_of (i := 2) hxl (by decide)
  obtain ⟨q2, r2⟩ := trod_len ((hf 2 (by decide)).trans e2)
  obtain ⟨y3, e3⟩ := some_of (i := 3) hxl (by decide)
  obtain ⟨q3, r3⟩ := trod_len ((hf 3 (by decide)).trans e3)
  exact ⟨q0, q1, q2, q3, r0, r1, r2, r3⟩
theorem trod_ints4 {a0 a1 a2 a3 : Value} (h : DataW.trod enc Try.prog w base spare held fuel 37 [a0, a1, a2, a3] = some x) :
    ∃ n0 n1 n2 n3 : Int, (a0 = .int .i64 n0 ∧ i64B n0) ∧ (a1 = .int .i64 n1 ∧ i64B n1) ∧ (a2 = .int .i64 n2 ∧ i64B n2) ∧ (a3 = .int .i64 n3 ∧ i64B n3) := by
  obtain ⟨xs, n, _, _, _, hxl, hf⟩ := DataW.trod_array Try.underlying37 h
  rw [c2] at hf
  obtain ⟨y0, e0⟩ := some_of (i := 0) hxl (by decide)
  obtain ⟨n0, r0⟩ := trod_i Try.underlying2 ((hf 0 (by decide)).trans e0)
  obtain ⟨y1, e1⟩ := some_of (i := 1) hxl (by decide)
  obtain ⟨n1, r1⟩ := trod_i Try.underlying2 ((hf 1 (by decide)).trans e1)
  obtain ⟨y2, e2⟩ := some_of (i := 2) hxl (by decide)
  obtain ⟨n2, r2⟩ := trod_i Try.underlying2 ((hf 2 (by decide)).trans e2)
  obtain ⟨y3, e3⟩ := some_of (i := 3) hxl (by decide)
  obtain ⟨n3, r3⟩ := trod_i Try.underlying2 ((hf 3 (by decide)).trans e3)
  exact ⟨n0, n1, n2, n3, r0, r1, r2, r3⟩
set_option maxHeartbeats 4000000 in
set_option maxRecDepth 100000 in
theorem trod_style {cs : List Value} (h : DataW.trod enc Try.prog w base spare held fuel 39 cs = some x) : ∃ s : Sty, cs = stl s ∧ OkS s := by
  obtain ⟨xs, n, _, _, hl, hxl, hf⟩ := DataW.trod_struct Try.underlying39 h
  clear h
  rw [c27] at hl
  match cs, hl with
  | k0 :: k1 :: k2 :: k3 :: k4 :: k5 :: k6 :: k7 :: k8 :: k9 :: k10 :: k11 :: k12 :: k13 :: k14 :: k15 :: k16 :: k17 :: k18 :: k19 :: k20 :: k21 :: k22 :: k23 :: k24 :: k25 :: k26 :: k27 :: k28 :: k29 :: k30 :: k31 :: k32 :: k33 :: k34 :: k35 :: k36 :: k37 :: k38 :: k39 :: k40 :: k41 :: k42 :: k43 :: k44 :: k45 :: k46 :: k47 :: [], _ =>
    obtain ⟨y0, e0⟩ := some_of (i := 0) hxl (by decide)
    have h0 : DataW.trod enc Try.prog w base spare held n 4 [k0] = some y0 := by have h := (hf 0 _ rfl).trans e0; simpa [c4] using h
    obtain ⟨v0, rfl⟩ := trod_b h0
    obtain ⟨y1, e1⟩ := some_of (i := 1) hxl (by decide)
    have h1 : DataW.trod enc Try.prog w base spare held n 3 [k1] = some y1 := by have h := (hf 1 _ rfl).trans e1; simpa [c3] using h
    obtain ⟨v1, rfl, g1⟩ := trod_i Try.underlying3 h1
    obtain ⟨y2, e2⟩ := some_of (i := 2) hxl (by decide)
    have h2 : DataW.trod enc Try.prog w base spare held n 36 [k2, k3, k4, k5, k6, k7, k8, k9] = some y2 := by have h := (hf 2 _ rfl).trans e2; simpa [c24] using h
    obtain ⟨q0, q1, q2, q3, ⟨rfl, rfl, g2⟩, ⟨rfl, rfl, g4⟩, ⟨rfl, rfl, g6⟩, ⟨rfl, rfl, g8⟩⟩ := trod_lens4 h2
    obtain ⟨y3, e3⟩ := some_of (i := 3) hxl (by decide)
    have h3 : DataW.trod enc Try.prog w base spare held n 35 [k10, k11] = some y3 := by have h := (hf 3 _ rfl).trans e3; simpa [c23] using h
    obtain ⟨q4, rfl, rfl, g10⟩ := trod_len h3
    obtain ⟨y4, e4⟩ := some_of (i := 4) hxl (by decide)
    have h4 : DataW.trod enc Try.prog w base spare held n 35 [k12, k13] = some y4 := by have h := (hf 4 _ rfl).trans e4; simpa [c23] using h
    obtain ⟨q5, rfl, rfl, g12⟩ := trod_len h4
    obtain ⟨y5, e5⟩ := some_of (i := 5) hxl (by decide)
    have h5 : DataW.trod enc Try.prog w base spare held n 35 [k14, k15] = some y5 := by have h := (hf 5 _ rfl).trans e5; simpa [c23] using h
    obtain ⟨q6, rfl, rfl, g14⟩ := trod_len h5
    obtain ⟨y6, e6⟩ := some_of (i := 6) hxl (by decide)
    have h6 : DataW.trod enc Try.prog w base spare held n 35 [k16, k17] = some y6 := by have h := (hf 6 _ rfl).trans e6; simpa [c23] using h
    obtain ⟨q7, rfl, rfl, g16⟩ := trod_len h6
    obtain ⟨y7, e7⟩ := some_of (i := 7) hxl (by decide)
    have h7 : DataW.trod enc Try.prog w base spare held n 35 [k18, k19] = some y7 := by have h := (hf 7 _ rfl).trans e7; simpa [c23] using h
    obtain ⟨q8, rfl, rfl, g18⟩ := trod_len h7
    obtain ⟨y8, e8⟩ := some_of (i := 8) hxl (by decide)
    have h8 : DataW.trod enc Try.prog w base spare held n 35 [k20, k21] = some y8 := by have h := (hf 8 _ rfl).trans e8; simpa [c23] using h
    obtain ⟨q9, rfl, rfl, g20⟩ := trod_len h8
    obtain ⟨y9, e9⟩ := some_of (i := 9) hxl (by decide)
    have h9 : DataW.trod enc Try.prog w base spare held n 36 [k22, k23, k24, k25, k26, k27, k28, k29] = some y9 := by have h := (hf 9 _ rfl).trans e9; simpa [c24] using h
    obtain ⟨q10, q11, q12, q13, ⟨rfl, rfl, g22⟩, ⟨rfl, rfl, g24⟩, ⟨rfl, rfl, g26⟩, ⟨rfl, rfl, g28⟩⟩ := trod_lens4 h9
    obtain ⟨y10, e10⟩ := some_of (i := 10) hxl (by decide)
    have h10 : DataW.trod enc Try.prog w base spare held n 36 [k30, k31, k32, k33, k34, k35, k36, k37] = some y10 := by have h := (hf 10 _ rfl).trans e10; simpa [c24] using h
    obtain ⟨q14, q15, q16, q17, ⟨rfl, rfl, g30⟩, ⟨rfl, rfl, g32⟩, ⟨rfl, rfl, g34⟩, ⟨rfl, rfl, g36⟩⟩ := trod_lens4 h10
    obtain ⟨y11, e11⟩ := some_of (i := 11) hxl (by decide)
    have h11 : DataW.trod enc Try.prog w base spare held n 37 [k38, k39, k40, k41] = some y11 := by have h := (hf 11 _ rfl).trans e11; simpa [c25] using h
    obtain ⟨n0, n1, n2, n3, ⟨rfl, g38⟩, ⟨rfl, g39⟩, ⟨rfl, g40⟩, ⟨rfl, g41⟩⟩ := trod_ints4 h11
    obtain ⟨y12, e12⟩ := some_of (i := 12) hxl (by decide)
    have h12 : DataW.trod enc Try.prog w base spare held n 4 [k42] = some y12 := by have h := (hf 12 _ rfl).trans e12; simpa [c4] using h
    obtain ⟨v42, rfl⟩ := trod_b h12
    obtain ⟨y13, e13⟩ := some_of (i := 13) hxl (by decide)
    have h13 : DataW.trod enc Try.prog w base spare held n 4 [k43] = some y13 := by have h := (hf 13 _ rfl).trans e13; simpa [c4] using h
    obtain ⟨v43, rfl⟩ := trod_b h13
    obtain ⟨y14, e14⟩ := some_of (i := 14) hxl (by decide)
    have h14 : DataW.trod enc Try.prog w base spare held n 2 [k44] = some y14 := by have h := (hf 14 _ rfl).trans e14; simpa [c2] using h
    obtain ⟨v44, rfl, g44⟩ := trod_i Try.underlying2 h14
    obtain ⟨y15, e15⟩ := some_of (i := 15) hxl (by decide)
    have h15 : DataW.trod enc Try.prog w base spare held n 4 [k45] = some y15 := by have h := (hf 15 _ rfl).trans e15; simpa [c4] using h
    obtain ⟨v45, rfl⟩ := trod_b h15
    obtain ⟨y16, e16⟩ := some_of (i := 16) hxl (by decide)
    have h16 : DataW.trod enc Try.prog w base spare held n 2 [k46] = some y16 := by have h := (hf 16 _ rfl).trans e16; simpa [c2] using h
    obtain ⟨v46, rfl, g46⟩ := trod_i Try.underlying2 h16
    obtain ⟨y17, e17⟩ := some_of (i := 17) hxl (by decide)
    have h17 : DataW.trod enc Try.prog w base spare held n 2 [k47] = some y17 := by have h := (hf 17 _ rfl).trans e17; simpa [c2] using h
    obtain ⟨v47, rfl, g47⟩ := trod_i Try.underlying2 h17
    refine ⟨⟨v0, v1, [q0, q1, q2, q3, q4, q5, q6, q7, q8, q9, q10, q11, q12, q13, q14, q15, q16, q17], [n0, n1, n2, n3], v42, v43, v44, v45, v46, v47⟩, rfl, ⟨⟨rfl, rfl⟩, g1, ?_, ?_, g44, g46, g47⟩⟩
    · intro y hy
      simp only [List.mem_cons, List.not_mem_nil, or_false] at hy
      rcases hy with rfl | rfl | rfl | rfl | rfl | rfl | rfl | rfl | rfl | rfl | rfl | rfl | rfl | rfl | rfl | rfl | rfl | rfl
      · exact g2
      · exact g4
      · exact g6
      · exact g8
      · exact g10
      · exact g12
      · exact g14
      · exact g16
      · exact g18
      · exact g20
      · exact g22
      · exact g24
      · exact g26
      · exact g28
      · exact g30
      · exact g32
      · exact g34
      · exact g36
    · intro y hy
      simp only [List.mem_cons, List.not_mem_nil, or_false] at hy
      rcases hy with rfl | rfl | rfl | rfl
      · exact g38
      · exact g39
      · exact g40
      · exact g41
theorem open_style {r : Reach} {b0 : Nat} {v : Value} {d : DataW H} {p : List MemPlace} (hv : Value.okWide Try.prog w r b0 39 v) (h : DataW.Trod enc Try.prog w base spare held 39 v d p) : ∃ s : Sty, v = sv s ∧ OkS s := by
  obtain ⟨cs, rfl, hsz⟩ := okWide_struct Try.underlying39 hv
  obtain ⟨fuel, hf⟩ := h
  obtain ⟨s, hs, hok⟩ := trod_style hf
  refine ⟨s, ?_, hok⟩
  unfold sv
  rw [← hs]
  rfl
end
end Go.Proofs.Ytlnnaegmcopiiaa

/- An argument that is a slice of nodes, opened; no conditions beyond those written in each theorem. -/
namespace Go.Proofs.Ytlnnaegmcopiiaa
open Go.ChangeShapes Go.WideShapes Go.ChangeAt Go.RowKit
set_option maxRecDepth 100000
/-- All that a node of the program can hold. -/
def OkN (q : Nd) : Prop := OkS q.s ∧ i64B q.p
section
variable {H : Type} {enc : TypeId × Value → H} {w : World} {base : Nat} {spare : Nat → Bool} {held : Bool}
theorem c51 : Try.prog.cellsOf 42 = 49 := by kernel_rfl
theorem trod_node {fuel : Nat} {x : DataW H × List MemPlace} {cs : List Value} (h : DataW.trod enc Try.prog w base spare held fuel 42 cs = some x) : ∃ q : Nd, cs = ndl q ∧ OkN q := by
  obtain ⟨xs, n, _, _, hl, hxl, hf⟩ := DataW.trod_struct Try.underlying42 h
  rw [c51] at hl
  obtain ⟨y0, e0⟩ := some_of (i := 0) hxl (by decide)
  obtain ⟨y1, e1⟩ := some_of (i := 1) hxl (by decide)
  have h0 : DataW.trod enc Try.prog w base spare held n 39 (cs.take 48) = some y0 := by have h := (hf 0 _ rfl).trans e0; simpa [c27] using h
  have h1 : DataW.trod enc Try.prog w base spare held n 3 ((cs.drop 48).take 1) = some y1 := by have h := (hf 1 _ rfl).trans e1; simpa [c3] using h
  obtain ⟨s, hs, oks⟩ := trod_style h0
  have hd : (cs.drop 48).length = 1 := by rw [List.length_drop, hl]
  rw [List.take_of_length_le (by omega)] at h1
  match hq : cs.drop 48, hd with
  | [v], _ =>
    rw [hq] at h1
    obtain ⟨p, rfl, okp⟩ := trod_i Try.underlying3 h1
    refine ⟨⟨s, p, oks.full⟩, ?_, oks, okp⟩
    show cs = stl s ++ [.int .i64 p]
    rw [← hs, ← hq, List.take_append_drop]
theorem open_nodes {r : Reach} {b0 : Nat} {v : Value} {d : DataW H} {p : List MemPlace} (hv : Value.okWide Try.prog w r b0 22 v) (h : DataW.Trod enc Try.prog w base spare held 22 v d p) :
    ∃ (a : Option Addr) (len cap : Nat) (l : List Nd), v = .slice a len cap ∧ NS w a len l ∧ (∀ q ∈ l, OkN q) ∧ len ≤ cap ∧ (a = none → cap = 0) :=
  open_list ndl OkN zeroN Try.underlying22 c51 (by omega) ndl_length (fun _ _ _ hx => trod_node hx) hv h
end
end Go.Proofs.Ytlnnaegmcopiiaa

/- A slice of elements laid flat that is owned: one element appended. No number of a seat in it; no conditions beyond those written in each theorem. -/
namespace Go.Proofs.Ytlnnaegmcopiiaa
open Go.ChangeShapes Go.WideShapes Go.ChangeAt Go.RowKit
set_option maxRecDepth 100000
/-- The row of elements that it owns. -/
def GR {α : Type} (enc : α → List Value) (e : TypeId) (size : Nat) (w : World) (base : Nat) (v : Value) (l : List α) : Prop := w.ownsRow base e size v l.length (l.flatMap enc)
section
variable {α : Type} {enc : α → List Value} {e : TypeId} {size : Nat} {w w' : World} {base : Nat} {v : Value} {l : List α}
theorem GR.seen (h : GR enc e size w base v l) (hs : Seen w w') : GR enc e size w' base v l := row_seen h hs
theorem GR.nil (w : World) (base : Nat) : GR enc e size w base (.slice none 0 0) [] := ⟨by simp, .inl ⟨rfl, rfl⟩⟩
theorem GR.slice (h : GR enc e size w base v l) (hf : ∀ q, (enc q).length = size) (z : α) : ∃ a c, v = .slice a l.length c ∧ SL enc size z w a l.length l ∧ l.length ≤ c := by
  rcases h.2 with ⟨rfl, hn⟩ | ⟨g, cap, cur, rfl, hb, hh, h1, h2, h3, h4⟩
  · refine ⟨none, 0, by rw [hn], ⟨rfl, fun h => absurd h (by omega)⟩, by omega⟩
  · refine ⟨_, cap, rfl, ⟨rfl, fun _ => ⟨g, 0, rfl, fun i hi j hj => ?_⟩⟩, h1⟩
    have hl : i * size + j < l.length * size := by
      have : (i + 1) * size ≤ l.length * size := Nat.mul_le_mul_right size hi
      rw [Nat.add_mul] at this; omega
    have hc := World.ownsRow.cellAt h (i * size + j) hl
    rw [Nat.zero_add, hc]
    exact fl_at hf l z hi hj
theorem GR.far (h : GR enc e size w base v l) {B : Nat} (hB : B < base) (o : Nat) (u : Value) : GR enc e size (w.setCell ⟨B, o, none⟩ u) base v l :=
  ownsRow_keeps h (fun g hg => Below.heap_setCell w _ _ g (fun e => by have := (h.lt g hg).1; simp at e; omega))
end
theorem cells_at (w : World) (xs : List Value) (t : TypeId) : ∀ j v, xs[j]? = some v → (w.alloc (.cells xs.toArray t)).cell? ((⟨w.heap.size, 0, none⟩ : Addr).add j) = some v := by
  intro j v h
  rw [add_plain, Go.Joins.cell_of_block (World.alloc_heap_new w _), List.getElem?_toArray, Nat.zero_add]
  exact h
/-- x = append(x, y), y in a new block. -/
theorem wpList_pushG {P : Program} {α : Type} {enc : α → List Value} {size bytes : Nat} {z : Value} {t e : TypeId} (ht : P.underlying t = some (.slice e))
    (hinfo : (P.info? e).map (fun i => (i.zero, i.size, i.bytes)) = some (some z, size, bytes)) (hz : z.cells.size = size) (hpos : 0 < size) (hf : ∀ q, (enc q).length = size) (h1 : ∀ q, ∀ u ∈ enc q, u.oneCell' = true) (hby : bytes ≤ 10000)
    {ops : Array Oper} {rest : List Oper} {op : Oper} {a : Act} {w : World} {Q : Exit → Act → World → Prop} (hgd : op.guard = none) (s x : Operand) (ho : op.op = .call { callee := .builtin .append, args := #[s, x], argTypes := #[t, t] })
    (base : Nat) (v : Value) (l : List α) (y : α) (hs : a.eval s = v) (hx : a.eval x = .slice (some ⟨w.heap.size, 0, none⟩) 1 1) (hown : GR enc e size w base v l) (hl : l.length ≤ 1000000) (hb : base ≤ w.heap.size)
    (h : ∀ g cap w', GR enc e size w' base (.slice (some ⟨g, 0, none⟩) (l.length + 1) cap) (l ++ [y]) → (w.alloc (.cells (enc y).toArray e)).grownBy w' v.ownBlock → wpList P ops Q rest (a.put op.dst (.slice (some ⟨g, 0, none⟩) (l.length + 1) cap)) w') :
    wpList P ops Q (op :: rest) a (w.alloc (.cells (enc y).toArray e)) := by
  obtain ⟨i0, hi, hz0, hz1, hz2⟩ := info_parts hinfo
  have hm : (l.length + 1) * bytes ≤ 1000001 * 10000 := Nat.mul_le_mul (by omega) hby
  refine wpList_append_own (P := P) _ hgd s x t ho base e i0 z size bytes ht hi hz0 hz1 hz2 hz hpos v l.length (l.flatMap enc) hs (World.ownsRow.alloc hown _) ⟨w.heap.size, 0, none⟩ 1 1 (enc y) hx (by rw [hf]; omega) (cells_at _ _ _) (h1 y) (by unfold maxLen; omega) (by omega) (by simp; omega) ?_
  intro v' w' h1 h2 _
  obtain ⟨g, cap, rfl⟩ := ownsRow_succ h1
  refine h g cap w' ?_ h2
  unfold GR
  rw [List.flatMap_append, List.length_append, List.flatMap_cons, List.flatMap_nil, List.append_nil]
  exact h1
end Go.Proofs.Ytlnnaegmcopiiaa

/- A slice of elements laid flat that is owned: another slice appended. No number of a seat in it; no conditions beyond those written in each theorem. -/
namespace Go.Proofs.Ytlnnaegmcopiiaa
open Go.ChangeShapes Go.WideShapes Go.ChangeAt Go.RowKit
set_option maxRecDepth 100000
/-- A slice that reads as a list, as a source of append. -/
theorem src_sl {α : Type} {enc : α → List Value} {size : Nat} {z : α} {w : World} {a : Option Addr} {m c : Nat} {r : List α} (hf : ∀ q, (enc q).length = size) (hpos : 0 < size) (h : SL enc size z w a m r) (hc : a = none → c = 0) :
    SrcC w (.slice a m c) m size (r.flatMap enc) := by
  obtain ⟨hl, hcell⟩ := h
  rcases Nat.eq_zero_or_pos m with h0 | h0
  · subst h0
    obtain rfl : r = [] := List.eq_nil_of_length_eq_zero hl
    cases a with
    | none => exact .inl ⟨by rw [hc rfl], rfl, rfl⟩
    | some x => exact .inr ⟨x, c, rfl, by simp, fun j v h => by simp at h⟩
  · obtain ⟨b, off, rfl, hh⟩ := hcell h0
    refine .inr ⟨_, c, rfl, by rw [fl_len hf, hl], fun j v hj => ?_⟩
    have hjl : j < m * size := by
      have := (List.getElem?_eq_some_iff.1 hj).1
      rw [fl_len hf, hl] at this; exact this
    have hq : j / size < m := Nat.div_lt_of_lt_mul (by rw [Nat.mul_comm]; exact hjl)
    have hm : j % size < size := Nat.mod_lt _ hpos
    have e : j = j / size * size + j % size := by rw [Nat.mul_comm]; exact (Nat.div_add_mod j size).symm
    have h1 := hh (j / size) hq (j % size) hm
    have h2 := fl_at hf r z (i := j / size) (by rw [hl]; exact hq) hm
    rw [← e, hj] at h2
    rw [add_plain, show off + j = off + j / size * size + j % size by omega, h1, ← h2]
/-- x = append(x, r...). -/
theorem wpList_catG {P : Program} {α : Type} {enc : α → List Value} {size bytes : Nat} {z : Value} {t e : TypeId} (ht : P.underlying t = some (.slice e))
    (hinfo : (P.info? e).map (fun i => (i.zero, i.size, i.bytes)) = some (some z, size, bytes)) (hz : z.cells.size = size) (hpos : 0 < size) (h1 : ∀ q, ∀ u ∈ enc q, u.oneCell' = true) (hby : bytes ≤ 10000)
    {ops : Array Oper} {rest : List Oper} {op : Oper} {a : Act} {w : World} {Q : Exit → Act → World → Prop} (hgd : op.guard = none) (s x : Operand) (ho : op.op = .call { callee := .builtin .append, args := #[s, x], argTypes := #[t, t] })
    (base : Nat) (v : Value) (l : List α) (u : Value) (m : Nat) (r : List α) (hs : a.eval s = v) (hx : a.eval x = u) (hown : GR enc e size w base v l) (hsrc : SrcC w u m size (r.flatMap enc)) (hr : r.length = m) (hl : l.length + m ≤ 1000000) (hb : base ≤ w.heap.size)
    (h : ∀ v' w', GR enc e size w' base v' (l ++ r) → w.grownBy w' v.ownBlock → wpList P ops Q rest (a.put op.dst v') w') :
    wpList P ops Q (op :: rest) a w := by
  obtain ⟨i0, hi, hz0, hz1, hz2⟩ := info_parts hinfo
  have hm : (l.length + m) * bytes ≤ 1000001 * 10000 := Nat.mul_le_mul (by omega) hby
  refine wpList_append_src (P := P) w hgd s x t ho e i0 z size bytes ht hi hz0 hz1 hz2 hz hpos base v l.length (l.flatMap enc) hs hown u m (r.flatMap enc) hx hsrc ?_ (by unfold maxLen; omega) (by omega) hb ?_
  · intro y hy
    obtain ⟨q, _, hq⟩ := List.mem_flatMap.1 hy
    exact h1 q y hq
  · intro v' w' h1 h2 _
    refine h v' w' ?_ h2
    unfold GR
    rw [List.flatMap_append, List.length_append, hr]
    exact h1
end Go.Proofs.Ytlnnaegmcopiiaa
