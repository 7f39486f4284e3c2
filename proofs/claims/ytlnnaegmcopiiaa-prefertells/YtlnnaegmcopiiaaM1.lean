/- Texts of the proof, merged: Bytes, In, Take, OpenL, Args, BackMath. -/
import Derived.Test.YtlnnaegmcopiiaaM0
import Derived.Deep.Slices
/- Bytes in rows; a number in so many bytes, the greatest one first, and back: plain mathematics and memory. No number of a seat in it; no conditions beyond those written in each theorem. -/
namespace Go.Proofs.Ytlnnaegmcopiiaa
open Go.ChangeShapes Go.WideShapes Go.ChangeAt Go.RowKit
set_option maxRecDepth 100000
/-- The cells of bytes. -/
def bv (l : List Int) : List Value := l.map (Value.int .u8)
/-- Byte i of a list. -/
def bat (l : List Int) (i : Nat) : Int := l.getD i 0
/-- All of them are bytes. -/
def Bytes8 (l : List Int) : Prop := ∀ x ∈ l, 0 ≤ x ∧ x < 256
theorem bv_length (l : List Int) : (bv l).length = l.length := by simp [bv]
theorem bv_length1 (l : List Int) : (bv l).length = l.length * 1 := by simp [bv]
theorem bv_append (l m : List Int) : bv (l ++ m) = bv l ++ bv m := by simp [bv]
theorem bv_one (l : List Int) : ∀ u ∈ bv l, u.oneCell' = true := by
  intro u hu
  simp only [bv, List.mem_map] at hu
  obtain ⟨x, _, rfl⟩ := hu
  rfl
theorem bat_eq {l : List Int} {i : Nat} (h : i < l.length) : bat l i = l[i] := by
  unfold bat; rw [List.getD_eq_getElem?_getD, List.getElem?_eq_getElem h]; rfl
theorem bat_get {l : List Int} {i : Nat} (h : i < l.length) : l[i]? = some (bat l i) := by
  rw [List.getElem?_eq_getElem h, bat_eq h]
theorem bat_ok {l : List Int} (h : Bytes8 l) (i : Nat) : 0 ≤ bat l i ∧ bat l i < 256 := by
  by_cases hi : i < l.length
  · rw [bat_eq hi]; exact h _ (List.getElem_mem hi)
  · unfold bat; rw [List.getD_eq_getElem?_getD, List.getElem?_eq_none (by omega)]; simp
theorem bat_drop (l : List Int) (n i : Nat) : bat (l.drop n) i = bat l (n + i) := by
  unfold bat; rw [List.getD_eq_getElem?_getD, List.getD_eq_getElem?_getD, List.getElem?_drop]
theorem bat_take {l : List Int} {n i : Nat} (h : i < n) : bat (l.take n) i = bat l i := by
  unfold bat; rw [List.getD_eq_getElem?_getD, List.getD_eq_getElem?_getD, List.getElem?_take_of_lt h]
theorem bv_at {l : List Int} {i : Nat} (h : i < l.length) : (bv l)[i]? = some (.int .u8 (bat l i)) := by
  unfold bv; rw [List.getElem?_map, bat_get h]; rfl
theorem Bytes8.append {l m : List Int} (h : Bytes8 l) (k : Bytes8 m) : Bytes8 (l ++ m) := fun x hx => (List.mem_append.1 hx).elim (h x) (k x)
theorem Bytes8.drop {l : List Int} (h : Bytes8 l) (n : Nat) : Bytes8 (l.drop n) := fun x hx => h x (List.mem_of_mem_drop hx)
theorem Bytes8.take {l : List Int} (h : Bytes8 l) (n : Nat) : Bytes8 (l.take n) := fun x hx => h x (List.mem_of_mem_take hx)
theorem Bytes8.nil : Bytes8 [] := fun x hx => by cases hx
/-- A slice of n bytes reads as this list. -/
def BS (w : World) (ad : Option Addr) (n : Nat) (l : List Int) : Prop :=
  l.length = n ∧ (0 < n → ∃ b off, ad = some ⟨b, off, none⟩ ∧ ∀ i, i < n → w.cell? ⟨b, off + i, none⟩ = some (.int .u8 (bat l i)))
theorem BS.seen {w w' : World} {ad : Option Addr} {n : Nat} {l : List Int} (h : BS w ad n l) (hs : Seen w w') : BS w' ad n l :=
  ⟨h.1, fun h0 => let ⟨b, off, e, hc⟩ := h.2 h0; ⟨b, off, e, fun i hi => hs.cell (hc i hi)⟩⟩
theorem BS.nil (w : World) (ad : Option Addr) : BS w ad 0 [] := ⟨rfl, fun h => absurd h (by omega)⟩
theorem bs_of_own {w : World} {base n : Nat} {e : TypeId} {v : Value} {l : List Int} (h : w.ownsRow base e 1 v n (bv l)) (hl : l.length = n) :
    ∃ a c, v = .slice a n c ∧ BS w a n l ∧ n ≤ c ∧ (a = none → c = 0) := by
  rcases h.2 with ⟨rfl, rfl⟩ | ⟨g, cap, cur, rfl, hb, hh, h1, h2, h3, h4⟩
  · exact ⟨none, 0, rfl, ⟨hl, fun h => absurd h (by omega)⟩, by omega, fun _ => rfl⟩
  · refine ⟨_, cap, rfl, ⟨hl, fun _ => ⟨g, 0, rfl, fun i hi => ?_⟩⟩, h1, fun e => by cases e⟩
    rw [Nat.zero_add, h.cellAt i (by omega)]
    exact bv_at (by omega)
theorem src_of_bs {w : World} {ad : Option Addr} {m c : Nat} {l : List Int} (h : BS w ad m l) (hn : ad = none → c = 0) : SrcC w (.slice ad m c) m 1 (bv l) := by
  cases ad with
  | none =>
    have hm : m = 0 := by
      rcases Nat.eq_zero_or_pos m with h0 | h0
      · exact h0
      · obtain ⟨_, _, e, _⟩ := h.2 h0; cases e
    subst hm
    have hl : l = [] := List.eq_nil_of_length_eq_zero h.1
    subst hl
    rw [hn rfl]
    exact .inl ⟨rfl, rfl, rfl⟩
  | some a =>
    refine .inr ⟨a, c, rfl, by rw [bv_length1, h.1], fun j v hj => ?_⟩
    have hjl : j < (bv l).length := by
      rcases Nat.lt_or_ge j (bv l).length with h1 | h1
      · exact h1
      · rw [List.getElem?_eq_none h1] at hj; cases hj
    rw [bv_length, h.1] at hjl
    obtain ⟨b, off, e, hc⟩ := h.2 (by omega)
    cases e
    rw [add_plain, hc j hjl, ← bv_at (by rw [h.1]; exact hjl)]
    exact hj
theorem new_row1 (w : World) (t : TypeId) (x : Int) : (w.alloc (.cells #[.int .u8 x] t)).ownsRow 0 t 1 (.slice (some ⟨w.heap.size, 0, none⟩) 1 1) 1 (bv [x]) :=
  ⟨rfl, .inr ⟨w.heap.size, 1, #[.int .u8 x], rfl, Nat.zero_le _, World.alloc_heap_new w _, Nat.le_refl _, by unfold maxLen; omega, rfl, rfl⟩⟩
theorem new_row1' (w : World) (t : TypeId) (x : Int) (base : Nat) (hb : base ≤ w.heap.size) : (w.alloc (.cells #[.int .u8 x] t)).ownsRow base t 1 (.slice (some ⟨w.heap.size, 0, none⟩) 1 1) 1 (bv [x]) :=
  ⟨rfl, .inr ⟨w.heap.size, 1, #[.int .u8 x], rfl, hb, World.alloc_heap_new w _, Nat.le_refl _, by unfold maxLen; omega, rfl, rfl⟩⟩
/-- A number in n bytes, the greatest one first. -/
def be (v : Int) : Nat → List Int
  | 0 => []
  | n + 1 => be (v / 256) n ++ [v % 256]
theorem be_length (v : Int) (n : Nat) : (be v n).length = n := by
  induction n generalizing v with
  | zero => rfl
  | succ n ih => simp [be, ih]
theorem be_ok (v : Int) (n : Nat) : Bytes8 (be v n) := by
  induction n generalizing v with
  | zero => exact Bytes8.nil
  | succ n ih =>
    refine (ih _).append fun x hx => ?_
    rw [List.mem_singleton] at hx
    omega
theorem be_at (v : Int) (n k : Nat) (h : k < n) : bat (be v n) k = v / 2 ^ (8 * (n - 1 - k)) % 256 := by
  induction n generalizing v with
  | zero => omega
  | succ n ih =>
    by_cases hk : k < n
    · have e : bat (be v (n + 1)) k = bat (be (v / 256) n) k := by
        unfold bat
        rw [be, List.getD_eq_getElem?_getD, List.getD_eq_getElem?_getD, List.getElem?_append_left (by rw [be_length]; exact hk)]
      rw [e, ih _ hk, show 8 * (n + 1 - 1 - k) = 8 + 8 * (n - 1 - k) by omega, Int.pow_add, ← Int.ediv_ediv_of_nonneg (by decide : (0 : Int) ≤ 2 ^ 8)]
      rfl
    · have hk' : k = n := by omega
      subst hk'
      have e : bat (be v (k + 1)) k = v % 256 := by
        unfold bat
        rw [be, List.getD_eq_getElem?_getD, List.getElem?_append_right (by rw [be_length]; omega), be_length]
        simp
      rw [e, show 8 * (k + 1 - 1 - k) = 0 by omega]
      simp
theorem be_take (v : Int) (n k : Nat) (h : k < n) : (be v n).take (k + 1) = (be v n).take k ++ [v / 2 ^ (8 * (n - 1 - k)) % 256] := by
  rw [List.take_succ_eq_append_getElem (by rw [be_length]; exact h), ← be_at v n k h, bat_eq (by rw [be_length]; exact h)]
/-- The number that bytes make, the greatest one first. -/
def val (l : List Int) : Int := l.foldl (fun a b => a * 256 + b) 0
theorem val_snoc (l : List Int) (b : Int) : val (l ++ [b]) = val l * 256 + b := by simp [val]
theorem val_take {l : List Int} {k : Nat} (h : k < l.length) : val (l.take (k + 1)) = val (l.take k) * 256 + bat l k := by
  rw [List.take_succ_eq_append_getElem h, val_snoc, bat_eq h]
theorem val_bound {l : List Int} (h : Bytes8 l) : 0 ≤ val l ∧ val l < 256 ^ l.length := by
  have key : ∀ n, n ≤ l.length → 0 ≤ val (l.take n) ∧ val (l.take n) < 256 ^ n := by
    intro n
    induction n with
    | zero => intro _; simp [val]
    | succ n ih =>
      intro hn
      obtain ⟨h0, h1⟩ := ih (by omega)
      have := bat_ok h n
      rw [val_take (by omega), Int.pow_succ]
      omega
  have := key l.length (Nat.le_refl _)
  rwa [List.take_length] at this
theorem val_be (v : Int) (n : Nat) : val (be v n) = v % 256 ^ n := by
  induction n generalizing v with
  | zero => simp [be, val, Int.emod_one]
  | succ n ih =>
    rw [be, val_snoc, ih, Int.pow_succ, Int.mul_comm (256 ^ n) 256]
    have h1 := Int.emod_add_mul_ediv v 256
    have h2 := Int.emod_add_mul_ediv (v / 256) (256 ^ n)
    have h3 := Int.emod_add_mul_ediv v (256 * 256 ^ n)
    rw [← Int.ediv_ediv_of_nonneg (by decide : (0 : Int) ≤ 256)] at h3
    rw [Int.mul_assoc] at h3
    omega
/-- Eight bytes of it hold a number of 64 bits, signed. -/
theorem or_byte (a b : Int) (h0 : 0 ≤ a) (h1 : a < 72057594037927936) (hb : 0 ≤ b) (hb' : b < 256) : bits .or .u64 (a * 256) b = a * 256 + b := by
  obtain ⟨A, rfl⟩ := Int.eq_ofNat_of_zero_le h0
  obtain ⟨B, rfl⟩ := Int.eq_ofNat_of_zero_le hb
  have e : ((A : Int) * 256) = ((A * 256 : Nat) : Int) := by omega
  rw [e, u64_or_nat _ _ (by omega) (by omega)]
  have h2 : A * 256 ||| B = A * 256 + B := by
    have := Nat.shiftLeft_add_eq_or_of_lt (i := 8) (b := B) (by omega) A
    rw [Nat.shiftLeft_eq] at this
    exact this.symm
  rw [h2]; omega
end Go.Proofs.Ytlnnaegmcopiiaa

/- A step that turns one block alone; no conditions beyond those written in each theorem. -/
namespace Go.Proofs.Ytlnnaegmcopiiaa
open Go.ChangeShapes Go.WideShapes Go.ChangeAt Go.RowKit
set_option maxRecDepth 100000
/-- A step that turns the block B alone. -/
def Turns (B : Nat) (w w' : World) : Prop := Moves (fun k => k = B) (fun k => k = B) w w'
theorem Turns.set (w : World) (B o : Nat) (v : Value) : Turns B w (w.setCell ⟨B, o, none⟩ v) := Moves.setCell (T := fun k => k = B) w (p := ⟨B, o, none⟩) rfl v
theorem Turns.trans {B : Nat} {w w1 w2 : World} (h : Turns B w w1) (k : Turns B w1 w2) : Turns B w w2 := Moves.trans h k
end Go.Proofs.Ytlnnaegmcopiiaa

/- Contracts of take and of the methods of In that take bytes, and of NewIn; no conditions beyond those written in each theorem. -/
namespace Go.Proofs.Ytlnnaegmcopiiaa
open Go.ChangeShapes Go.WideShapes Go.ChangeAt Go.RowKit
set_option maxRecDepth 100000
def headA (ad : Option Addr) (c : Nat) : Option Addr := if c = 0 then ad else ad.map (·.add (0 * 1))
def tailA (ad : Option Addr) (c q : Nat) : Option Addr := if c = q then ad else ad.map (·.add (q * 1))
theorem headA_some (b off c : Nat) : headA (some ⟨b, off, none⟩) c = some ⟨b, off, none⟩ := by
  unfold headA; split
  · rfl
  · rw [Option.map_some, add_plain, Nat.zero_mul, Nat.add_zero]
theorem tailA_some {b off c q : Nat} (h : q < c) : tailA (some ⟨b, off, none⟩) c q = some ⟨b, off + q, none⟩ := by
  unfold tailA; rw [if_neg (by omega), Option.map_some, add_plain, Nat.mul_one]
theorem val_step {l : List Int} (h : Bytes8 l) {k : Nat} (hk : k < l.length) (h8 : k < 8) : bits .or .u64 (IntKind.u64.wrap (val (l.take k) * 256)) (IntKind.u64.wrap (bat l k)) = val (l.take (k + 1)) := by
  obtain ⟨v0, v1⟩ := val_bound (h.take k)
  rw [List.length_take, Nat.min_eq_left (by omega)] at v1
  have v2 : (256 : Int) ^ k ≤ 72057594037927936 := (by decide : ∀ k, k < 8 → (256 : Int) ^ k ≤ 72057594037927936) k h8
  have v3 : val (l.take k) < 72057594037927936 := Int.lt_of_lt_of_le v1 v2
  obtain ⟨b0, b1⟩ := bat_ok h k
  rw [IntKind.wrap_u64, IntKind.wrap_u64, Int.emod_eq_of_lt (by omega) (by omega), Int.emod_eq_of_lt (by omega) (by omega), or_byte _ _ v0 v3 b0 b1, val_take hk]
/-- What a request for n bytes answers. -/
def tkV (n : Nat) (l : List Int) : Int := if l.length < n then 0 else val (l.take n)
/-- What is left behind it. -/
def tkLn (n : Nat) (l : List Int) : List Int := if l.length < n then [] else l.drop n
/-- Whether it is bad behind it. -/
def tkB (n : Nat) (l : List Int) (bad : Bool) : Bool := if l.length < n then true else bad
theorem tkV_bound {n : Nat} {l : List Int} (h : Bytes8 l) : 0 ≤ tkV n l ∧ tkV n l < 256 ^ n := by
  unfold tkV
  split
  · exact ⟨Int.le_refl _, Int.pow_pos (by decide)⟩
  · have := val_bound (h.take n)
    rw [List.length_take, Nat.min_eq_left (by omega)] at this
    exact this
end Go.Proofs.Ytlnnaegmcopiiaa

/- An argument that is a slice, opened: it reads as a list of elements, each of so many cells. No number of a seat in it; no conditions beyond those written in each theorem. -/
namespace Go.Proofs.Ytlnnaegmcopiiaa
open Go.ChangeShapes Go.WideShapes Go.ChangeAt Go.RowKit Go.Joins Go.Deep
set_option maxRecDepth 100000
/-- A slice of n elements, each of so many cells, reads as this list; z: an element for places beyond it. -/
def SL {α : Type} (flat : α → List Value) (size : Nat) (z : α) (w : World) (ad : Option Addr) (n : Nat) (l : List α) : Prop :=
  l.length = n ∧ (0 < n → ∃ b off, ad = some ⟨b, off, none⟩ ∧ ∀ i, i < n → ∀ j, j < size → w.cell? ⟨b, off + i * size + j, none⟩ = (flat (l.getD i z))[j]?)
theorem SL.seen {α : Type} {flat : α → List Value} {size : Nat} {z : α} {w w' : World} {ad : Option Addr} {n : Nat} {l : List α} (hf : ∀ q, (flat q).length = size) (h : SL flat size z w ad n l) (hs : Seen w w') : SL flat size z w' ad n l := by
  refine ⟨h.1, fun h0 => ?_⟩
  obtain ⟨b, off, e, hc⟩ := h.2 h0
  refine ⟨b, off, e, fun i hi j hj => ?_⟩
  have h1 := hc i hi j hj
  rw [List.getElem?_eq_getElem (by rw [hf]; exact hj)] at h1 ⊢
  exact hs.cell h1
theorem open_list {α : Type} {P : Program} {H : Type} {enc : TypeId × Value → H} {w : World} {base : Nat} {spare : Nat → Bool} {held : Bool} {r : Reach} {b0 : Nat} {v : Value} {d : DataW H} {p : List MemPlace}
    (flat : α → List Value) (ok : α → Prop) (z : α) {t e : TypeId} {size : Nat} (ht : P.underlying t = some (.slice e)) (hs : P.cellsOf e = size) (hpos : 0 < size) (hflat : ∀ q, (flat q).length = size)
    (helem : ∀ fuel cs x, DataW.trod enc P w base spare held fuel e cs = some x → ∃ q, cs = flat q ∧ ok q)
    (hv : Value.okWide P w r b0 t v) (h : DataW.Trod enc P w base spare held t v d p) :
    ∃ (a : Option Addr) (len cap : Nat) (l : List α), v = .slice a len cap ∧ SL flat size z w a len l ∧ (∀ q ∈ l, ok q) ∧ len ≤ cap ∧ (a = none → cap = 0) := by
  obtain ⟨a, len, cap, rfl⟩ := okWide_slice ht hv
  refine ⟨a, len, cap, ?_⟩
  obtain ⟨fuel, hf⟩ := h
  rcases open_slice ht hf with ⟨hcs, _⟩ | ⟨x, l, c, m, n, D, Pl, hcs, _, hl, _, hm, _, hi⟩
  · simp [Value.cells] at hcs
    obtain ⟨rfl, rfl, rfl⟩ := hcs
    exact ⟨[], rfl, ⟨rfl, fun h => absurd h (by omega)⟩, (fun q hq => by cases hq), by omega, fun _ => rfl⟩
  · simp [Value.cells] at hcs
    obtain ⟨rfl, rfl, rfl⟩ := hcs
    have hlm : len ≤ m := by rw [hm]; split <;> omega
    rw [hs] at hi
    have key : ∀ i, i < len → ∃ q : α, ok q ∧ ∀ j, j < size → w.cell? ((x.add (i * size)).add j) = (flat q)[j]? := by
      intro i hil
      obtain ⟨cs', hc, ht'⟩ := hi i (by omega)
      obtain ⟨q, rfl, hok⟩ := helem _ _ _ ht'
      exact ⟨q, hok, (World.cells?_some hc).2.2⟩
    obtain ⟨f, hfd⟩ : ∃ f : Nat → α, ∀ i, i < len → ok (f i) ∧ ∀ j, j < size → w.cell? ((x.add (i * size)).add j) = (flat (f i))[j]? := by
      refine ⟨fun i => if h : i < len then Classical.choose (key i h) else z, fun i hil => ?_⟩
      simp only [hil, dite_true]
      exact Classical.choose_spec (key i hil)
    refine ⟨(List.range len).map f, rfl, ⟨by simp, fun h0 => ?_⟩, fun q hq => ?_, hl, fun e => by cases e⟩
    · obtain ⟨b, off, spot⟩ := x
      have hsp : spot = none := by
        have h1 := (hfd 0 h0).2 0 hpos
        have hp0 : 0 < (flat (f 0)).length := by rw [hflat]; exact hpos
        rw [List.getElem?_eq_getElem hp0] at h1
        have h2 : w.cell? ⟨b, off, spot⟩ = some ((flat (f 0))[0]'hp0) := by simpa [Addr.add] using h1
        exact World.cell?_spot h2
      subst hsp
      refine ⟨b, off, rfl, fun i hil j hj => ?_⟩
      have e : ((List.range len).map f).getD i z = f i := by
        rw [List.getD_eq_getElem?_getD, List.getElem?_map, List.getElem?_range hil]; rfl
      rw [e]
      have h1 := (hfd i hil).2 j hj
      simp only [add_plain] at h1
      exact h1
    · rw [List.mem_map] at hq
      obtain ⟨i, hi', rfl⟩ := hq
      exact (hfd i (List.mem_range.1 hi')).1
end Go.Proofs.Ytlnnaegmcopiiaa

/- Arguments that came in, opened: a number, bytes; no conditions beyond those written in each theorem. -/
namespace Go.Proofs.Ytlnnaegmcopiiaa
open Go.ChangeShapes Go.WideShapes Go.ChangeAt Go.RowKit Go.Joins Go.Deep
set_option maxRecDepth 100000
theorem wf_u8 {n : Int} (h : (Lit.int .u8 n).wf = true) : 0 ≤ n ∧ n < 256 := by
  simp [Lit.wf, IntKind.min, IntKind.max, IntKind.signed, IntKind.bits] at h; omega
theorem wf_i64 {n : Int} (h : (Lit.int .i64 n).wf = true) : -9223372036854775808 ≤ n ∧ n < 9223372036854775808 := by
  simp [Lit.wf, IntKind.min, IntKind.max, IntKind.signed, IntKind.bits] at h; omega
section
variable {H : Type} {enc : TypeId × Value → H} {w : World} {base : Nat} {spare : Nat → Bool} {held : Bool} {r : Reach} {b0 : Nat} {v : Value} {d : DataW H} {p : List MemPlace}
theorem open_num (hv : Value.okWide Try.prog w r b0 2 v) (h : DataW.Trod enc Try.prog w base spare held 2 v d p) : ∃ n : Int, v = .int .i64 n ∧ -9223372036854775808 ≤ n ∧ n < 9223372036854775808 := by
  obtain ⟨n, rfl, rfl, rfl, wn⟩ := open_int Try.underlying2 hv h
  exact ⟨n, rfl, wf_i64 wn⟩
end
end Go.Proofs.Ytlnnaegmcopiiaa

/- Bytes that were put are taken as they were: plain mathematics; worlds behind steps of an owner. -/
namespace Go.Proofs.Ytlnnaegmcopiiaa
open Go.ChangeShapes Go.WideShapes Go.ChangeAt Go.RowKit
set_option maxRecDepth 100000
theorem tkV_be (v : Int) (n : Nat) (r : List Int) : tkV n (be v n ++ r) = v % 256 ^ n := by
  unfold tkV
  rw [if_neg (by rw [List.length_append, be_length]; omega), List.take_append_of_le_length (by rw [be_length]; omega), List.take_of_length_le (by rw [be_length]; omega), val_be]
theorem tkL_be (v : Int) (n : Nat) (r : List Int) : tkLn n (be v n ++ r) = r := by
  unfold tkLn
  rw [if_neg (by rw [List.length_append, be_length]; omega), List.drop_append_of_le_length (by rw [be_length]; omega), List.drop_of_length_le (by rw [be_length]; omega), List.nil_append]
theorem tkB_be (v : Int) (n : Nat) (r : List Int) (bad : Bool) : tkB n (be v n ++ r) bad = bad := by
  unfold tkB
  rw [if_neg (by rw [List.length_append, be_length]; omega)]
theorem back8 {n : Int} (h : -9223372036854775808 ≤ n ∧ n < 9223372036854775808) : wrap64 (n % 18446744073709551616 % 256 ^ 8) = n := by
  unfold wrap64
  omega
theorem back1 {n : Int} (h : 0 ≤ n ∧ n < 256) : n % 18446744073709551616 % 256 ^ 1 = n := by omega
theorem Turns.below {B n : Nat} {w w' : World} (h : Turns B w w') (hn : n ≤ w.heap.size) (hB : n ≤ B) : Below n w w' := Moves.below h hn (fun k hk => by rw [hk]; exact hB)
theorem Seen.turns {w w1 w2 : World} {B : Nat} (h : Seen w w1) (k : Turns B w1 w2) (hB : w.heap.size ≤ B) : Seen w w2 := Below.trans h (k.below h.size hB)
theorem Seen.moves {w w1 w2 : World} {T T' : Nat → Prop} (h : Seen w w1) (k : Moves T T' w1 w2) (hT : ∀ k, T k → w.heap.size ≤ k) : Seen w w2 := Below.trans h (k.below h.size hT)
end Go.Proofs.Ytlnnaegmcopiiaa
