/- An argument that is a style, opened; no conditions beyond those written in each theorem. -/
import Derived.Test.YtlnnaegmcopiiaaAwake
namespace Go.Proofs.Ytlnnaegmcopiiaa
open Go.ChangeShapes Go.WideShapes Go.ChangeAt Go.RowKit Go.Joins Go.Deep
set_option maxRecDepth 100000
section
variable {H : Type} {enc : TypeId × Value → H} {w : World} {base : Nat} {spare : Nat → Bool} {held : Bool} {fuel : Nat} {x : DataW H × List MemPlace}
theorem c2 : Try.prog.cellsOf 2 = 1 := by kernel_rfl
theorem c3 : Try.prog.cellsOf 3 = 1 := by kernel_rfl
theorem c4 : Try.prog.cellsOf 4 = 1 := by kernel_rfl
theorem c23 : Try.prog.cellsOf 35 = 2 := by kernel_rfl
theorem c24 : Try.prog.cellsOf 36 = 8 := by kernel_rfl
theorem c25 : Try.prog.cellsOf 37 = 4 := by kernel_rfl
theorem c27 : Try.prog.cellsOf 39 = 48 := by kernel_rfl
theorem trod_i {t : TypeId} (ht : Try.prog.underlying t = some (.int .i64)) {a : Value} (h : DataW.trod enc Try.prog w base spare held fuel t [a] = some x) : ∃ n, a = .int .i64 n ∧ i64B n := by
  obtain ⟨n, q, _, wn⟩ := DataW.trod_int ht h
  simp only [List.cons.injEq, and_true] at q
  exact ⟨n, q, wf_i64 wn⟩
theorem trod_b {a : Value} (h : DataW.trod enc Try.prog w base spare held fuel 4 [a] = some x) : ∃ b, a = .bool b := by
  obtain ⟨b, q, _⟩ := DataW.trod_bool Try.underlying4 h
  simp only [List.cons.injEq, and_true] at q
  exact ⟨b, q⟩
/-- The numbers of a length are of 64 bits. -/
def okLn (q : Ln) : Prop := i64B q.k ∧ i64B q.n
theorem some_of {α : Type} {l : List α} {i n : Nat} (h : l.length = n) (hi : i < n) : ∃ y, l[i]? = some y := ⟨l[i], List.getElem?_eq_getElem (by omega)⟩
theorem trod_len {a b : Value} (h : DataW.trod enc Try.prog w base spare held fuel 35 [a, b] = some x) : ∃ q : Ln, a = .int .i64 q.k ∧ b = .int .i64 q.n ∧ okLn q := by
  obtain ⟨xs, n, _, _, _, hxl, hf⟩ := DataW.trod_struct Try.underlying35 h
  obtain ⟨y0, e0⟩ := some_of (i := 0) hxl (by decide)
  obtain ⟨y1, e1⟩ := some_of (i := 1) hxl (by decide)
  have h0 : DataW.trod enc Try.prog w base spare held n 3 [a] = some y0 := by have h := (hf 0 _ rfl).trans e0; simpa [c3] using h
  have h1 : DataW.trod enc Try.prog w base spare held n 2 [b] = some y1 := by have h := (hf 1 _ rfl).trans e1; simpa [c2] using h
  obtain ⟨k, rfl, hk⟩ := trod_i Try.underlying3 h0
  obtain ⟨m, rfl, hm⟩ := trod_i Try.underlying2 h1
  exact ⟨⟨k, m⟩, rfl, rfl, hk, hm⟩
theorem trod_lens4 {a0 b0 a1 b1 a2 b2 a3 b3 : Value} (h : DataW.trod enc Try.prog w base spare held fuel 36 [a0, b0, a1, b1, a2, b2, a3, b3] = some x) :
    ∃ q0 q1 q2 q3 : Ln, (a0 = .int .i64 q0.k ∧ b0 = .int .i64 q0.n ∧ okLn q0) ∧ (a1 = .int .i64 q1.k ∧ b1 = .int .i64 q1.n ∧ okLn q1) ∧ (a2 = .int .i64 q2.k ∧ b2 = .int .i64 q2.n ∧ okLn q2) ∧ (a3 = .int .i64 q3.k ∧ b3 = .int .i64 q3.n ∧ okLn q3) := by
  obtain ⟨xs, n, _, _, _, hxl, hf⟩ := DataW.trod_array Try.underlying36 h
  rw [c23] at hf
  obtain ⟨y0, e0⟩ := some_of (i := 0) hxl (by decide)
  obtain ⟨q0, r0⟩ := trod_len ((hf 0 (by decide)).trans e0)
  obtain ⟨y1, e1⟩ := some_of (i := 1) hxl (by decide)
  obtain ⟨q1, r1⟩ := trod_len ((hf 1 (by decide)).trans e1)
  obtain ⟨y2, e2⟩ := some_of (i := 2) hxl (by decide)
  obtain ⟨q2, r2⟩ := trod_len ((hf 2 (by decide)).trans e2)
  obtain ⟨y3, e3⟩ := some_of (i := 3) hxl (by decide)
  obtain ⟨q3, r3⟩ := trod_len ((hf 3 (by decide)).trans e3)
  exact ⟨q0, q1, q2, q3, r0, r1, r2, r3⟩
theorem trod_ints4 {a0 a1 a2 a3 : Value} (h : DataW.trod enc Try.prog w base spare held fuel 37 [a0, a1, a2, a3] = some x) :
    ∃ n0 n1 n2 n3 : Int, (a0 = .int .i64 n0 ∧ i64B n0) ∧ (a1 = .int .i64 n1 ∧ i64B n1) ∧ (a2 = .int .i64 n2 ∧ i64B n2) ∧ (a3 = .int .i64 n3 ∧ i64B n3) := by
  obtain ⟨xs, n, _, _, _, hxl, hf⟩ := DataW.trod_array Try.underlying37 h
  rw [c2] at hf
  obtain ⟨y0, e0⟩ := some_of (i := 0) hxl (by decide)
  obtain ⟨n0, r0⟩ := trod_i Try.underlying2 ((hf 0 (by decide)).trans e0)
  obtain ⟨y1, e1⟩ := some_of (i := 1) hxl (by decide)
  obtain ⟨n1, r1⟩ := trod_i Try.underlying2 ((hf 1 (by decide)).trans e1)
  obtain ⟨y2, e2⟩ := some_of (i := 2) hxl (by decide)
  obtain ⟨n2, r2⟩ := trod_i Try.underlying2 ((hf 2 (by decide)).trans e2)
  obtain ⟨y3, e3⟩ := some_of (i := 3) hxl (by decide)
  obtain ⟨n3, r3⟩ := trod_i Try.underlying2 ((hf 3 (by decide)).trans e3)
  exact ⟨n0, n1, n2, n3, r0, r1, r2, r3⟩
set_option maxHeartbeats 4000000 in
set_option maxRecDepth 100000 in
theorem trod_style {cs : List Value} (h : DataW.trod enc Try.prog w base spare held fuel 39 cs = some x) : ∃ s : Sty, cs = stl s ∧ OkS s := by
  obtain ⟨xs, n, _, _, hl, hxl, hf⟩ := DataW.trod_struct Try.underlying39 h
  clear h
  rw [c27] at hl
  match cs, hl with
  | k0 :: k1 :: k2 :: k3 :: k4 :: k5 :: k6 :: k7 :: k8 :: k9 :: k10 :: k11 :: k12 :: k13 :: k14 :: k15 :: k16 :: k17 :: k18 :: k19 :: k20 :: k21 :: k22 :: k23 :: k24 :: k25 :: k26 :: k27 :: k28 :: k29 :: k30 :: k31 :: k32 :: k33 :: k34 :: k35 :: k36 :: k37 :: k38 :: k39 :: k40 :: k41 :: k42 :: k43 :: k44 :: k45 :: k46 :: k47 :: [], _ =>
    obtain ⟨y0, e0⟩ := some_of (i := 0) hxl (by decide)
    have h0 : DataW.trod enc Try.prog w base spare held n 4 [k0] = some y0 := by have h := (hf 0 _ rfl).trans e0; simpa [c4] using h
    obtain ⟨v0, rfl⟩ := trod_b h0
    obtain ⟨y1, e1⟩ := some_of (i := 1) hxl (by decide)
    have h1 : DataW.trod enc Try.prog w base spare held n 3 [k1] = some y1 := by have h := (hf 1 _ rfl).trans e1; simpa [c3] using h
    obtain ⟨v1, rfl, g1⟩ := trod_i Try.underlying3 h1
    obtain ⟨y2, e2⟩ := some_of (i := 2) hxl (by decide)
    have h2 : DataW.trod enc Try.prog w base spare held n 36 [k2, k3, k4, k5, k6, k7, k8, k9] = some y2 := by have h := (hf 2 _ rfl).trans e2; simpa [c24] using h
    obtain ⟨q0, q1, q2, q3, ⟨rfl, rfl, g2⟩, ⟨rfl, rfl, g4⟩, ⟨rfl, rfl, g6⟩, ⟨rfl, rfl, g8⟩⟩ := trod_lens4 h2
    obtain ⟨y3, e3⟩ := some_of (i := 3) hxl (by decide)
    have h3 : DataW.trod enc Try.prog w base spare held n 35 [k10, k11] = some y3 := by have h := (hf 3 _ rfl).trans e3; simpa [c23] using h
    obtain ⟨q4, rfl, rfl, g10⟩ := trod_len h3
    obtain ⟨y4, e4⟩ := some_of (i := 4) hxl (by decide)
    have h4 : DataW.trod enc Try.prog w base spare held n 35 [k12, k13] = some y4 := by have h := (hf 4 _ rfl).trans e4; simpa [c23] using h
    obtain ⟨q5, rfl, rfl, g12⟩ := trod_len h4
    obtain ⟨y5, e5⟩ := some_of (i := 5) hxl (by decide)
    have h5 : DataW.trod enc Try.prog w base spare held n 35 [k14, k15] = some y5 := by have h := (hf 5 _ rfl).trans e5; simpa [c23] using h
    obtain ⟨q6, rfl, rfl, g14⟩ := trod_len h5
    obtain ⟨y6, e6⟩ := some_of (i := 6) hxl (by decide)
    have h6 : DataW.trod enc Try.prog w base spare held n 35 [k16, k17] = some y6 := by have h := (hf 6 _ rfl).trans e6; simpa [c23] using h
    obtain ⟨q7, rfl, rfl, g16⟩ := trod_len h6
    obtain ⟨y7, e7⟩ := some_of (i := 7) hxl (by decide)
    have h7 : DataW.trod enc Try.prog w base spare held n 35 [k18, k19] = some y7 := by have h := (hf 7 _ rfl).trans e7; simpa [c23] using h
    obtain ⟨q8, rfl, rfl, g18⟩ := trod_len h7
    obtain ⟨y8, e8⟩ := some_of (i := 8) hxl (by decide)
    have h8 : DataW.trod enc Try.prog w base spare held n 35 [k20, k21] = some y8 := by have h := (hf 8 _ rfl).trans e8; simpa [c23] using h
    obtain ⟨q9, rfl, rfl, g20⟩ := trod_len h8
    obtain ⟨y9, e9⟩ := some_of (i := 9) hxl (by decide)
    have h9 : DataW.trod enc Try.prog w base spare held n 36 [k22, k23, k24, k25, k26, k27, k28, k29] = some y9 := by have h := (hf 9 _ rfl).trans e9; simpa [c24] using h
    obtain ⟨q10, q11, q12, q13, ⟨rfl, rfl, g22⟩, ⟨rfl, rfl, g24⟩, ⟨rfl, rfl, g26⟩, ⟨rfl, rfl, g28⟩⟩ := trod_lens4 h9
    obtain ⟨y10, e10⟩ := some_of (i := 10) hxl (by decide)
    have h10 : DataW.trod enc Try.prog w base spare held n 36 [k30, k31, k32, k33, k34, k35, k36, k37] = some y10 := by have h := (hf 10 _ rfl).trans e10; simpa [c24] using h
    obtain ⟨q14, q15, q16, q17, ⟨rfl, rfl, g30⟩, ⟨rfl, rfl, g32⟩, ⟨rfl, rfl, g34⟩, ⟨rfl, rfl, g36⟩⟩ := trod_lens4 h10
    obtain ⟨y11, e11⟩ := some_of (i := 11) hxl (by decide)
    have h11 : DataW.trod enc Try.prog w base spare held n 37 [k38, k39, k40, k41] = some y11 := by have h := (hf 11 _ rfl).trans e11; simpa [c25] using h
    obtain ⟨n0, n1, n2, n3, ⟨rfl, g38⟩, ⟨rfl, g39⟩, ⟨rfl, g40⟩, ⟨rfl, g41⟩⟩ := trod_ints4 h11
    obtain ⟨y12, e12⟩ := some_of (i := 12) hxl (by decide)
    have h12 : DataW.trod enc Try.prog w base spare held n 4 [k42] = some y12 := by have h := (hf 12 _ rfl).trans e12; simpa [c4] using h
    obtain ⟨v42, rfl⟩ := trod_b h12
    obtain ⟨y13, e13⟩ := some_of (i := 13) hxl (by decide)
    have h13 : DataW.trod enc Try.prog w base spare held n 4 [k43] = some y13 := by have h := (hf 13 _ rfl).trans e13; simpa [c4] using h
    obtain ⟨v43, rfl⟩ := trod_b h13
    obtain ⟨y14, e14⟩ := some_of (i := 14) hxl (by decide)
    have h14 : DataW.trod enc Try.prog w base spare held n 2 [k44] = some y14 := by have h := (hf 14 _ rfl).trans e14; simpa [c2] using h
    obtain ⟨v44, rfl, g44⟩ := trod_i Try.underlying2 h14
    obtain ⟨y15, e15⟩ := some_of (i := 15) hxl (by decide)
    have h15 : DataW.trod enc Try.prog w base spare held n 4 [k45] = some y15 := by have h := (hf 15 _ rfl).trans e15; simpa [c4] using h
    obtain ⟨v45, rfl⟩ := trod_b h15
    obtain ⟨y16, e16⟩ := some_of (i := 16) hxl (by decide)
    have h16 : DataW.trod enc Try.prog w base spare held n 2 [k46] = some y16 := by have h := (hf 16 _ rfl).trans e16; simpa [c2] using h
    obtain ⟨v46, rfl, g46⟩ := trod_i Try.underlying2 h16
    obtain ⟨y17, e17⟩ := some_of (i := 17) hxl (by decide)
    have h17 : DataW.trod enc Try.prog w base spare held n 2 [k47] = some y17 := by have h := (hf 17 _ rfl).trans e17; simpa [c2] using h
    obtain ⟨v47, rfl, g47⟩ := trod_i Try.underlying2 h17
    refine ⟨⟨v0, v1, [q0, q1, q2, q3, q4, q5, q6, q7, q8, q9, q10, q11, q12, q13, q14, q15, q16, q17], [n0, n1, n2, n3], v42, v43, v44, v45, v46, v47⟩, rfl, ⟨⟨rfl, rfl⟩, g1, ?_, ?_, g44, g46, g47⟩⟩
    · intro y hy
      simp only [List.mem_cons, List.not_mem_nil, or_false] at hy
      rcases hy with rfl | rfl | rfl | rfl | rfl | rfl | rfl | rfl | rfl | rfl | rfl | rfl | rfl | rfl | rfl | rfl | rfl | rfl
      · exact g2
      · exact g4
      · exact g6
      · exact g8
      · exact g10
      · exact g12
      · exact g14
      · exact g16
      · exact g18
      · exact g20
      · exact g22
      · exact g24
      · exact g26
      · exact g28
      · exact g30
      · exact g32
      · exact g34
      · exact g36
    · intro y hy
      simp only [List.mem_cons, List.not_mem_nil, or_false] at hy
      rcases hy with rfl | rfl | rfl | rfl
      · exact g38
      · exact g39
      · exact g40
      · exact g41
theorem open_style {r : Reach} {b0 : Nat} {v : Value} {d : DataW H} {p : List MemPlace} (hv : Value.okWide Try.prog w r b0 39 v) (h : DataW.Trod enc Try.prog w base spare held 39 v d p) : ∃ s : Sty, v = sv s ∧ OkS s := by
  obtain ⟨cs, rfl, hsz⟩ := okWide_struct Try.underlying39 hv
  obtain ⟨fuel, hf⟩ := h
  obtain ⟨s, hs, hok⟩ := trod_style hf
  refine ⟨s, ?_, hok⟩
  unfold sv
  rw [← hs]
  rfl
end
end Go.Proofs.Ytlnnaegmcopiiaa
