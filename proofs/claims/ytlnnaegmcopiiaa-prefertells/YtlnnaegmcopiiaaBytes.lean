/- Bytes in rows; a number in so many bytes, the greatest one first, and back: plain mathematics and memory. No number of a seat in it; no conditions beyond those written in each theorem. -/
import Derived.Test.YtlnnaegmcopiiaaGen
namespace Go.Proofs.Ytlnnaegmcopiiaa
open Go.ChangeShapes Go.WideShapes Go.ChangeAt Go.RowKit
set_option maxRecDepth 100000
/-- The cells of bytes. -/
def bv (l : List Int) : List Value := l.map (Value.int .u8)
/-- Byte i of a list. -/
def bat (l : List Int) (i : Nat) : Int := l.getD i 0
/-- All of them are bytes. -/
def Bytes8 (l : List Int) : Prop := ∀ x ∈ l, 0 ≤ x ∧ x < 256
theorem bv_length (l : List Int) : (bv l).length = l.length := by simp [bv]
theorem bv_length1 (l : List Int) : (bv l).length = l.length * 1 := by simp [bv]
theorem bv_append (l m : List Int) : bv (l ++ m) = bv l ++ bv m := by simp [bv]
theorem bv_one (l : List Int) : ∀ u ∈ bv l, u.oneCell' = true := by
  intro u hu
  simp only [bv, List.mem_map] at hu
  obtain ⟨x, _, rfl⟩ := hu
  rfl
theorem bat_eq {l : List Int} {i : Nat} (h : i < l.length) : bat l i = l[i] := by
  unfold bat; rw [List.getD_eq_getElem?_getD, List.getElem?_eq_getElem h]; rfl
theorem bat_get {l : List Int} {i : Nat} (h : i < l.length) : l[i]? = some (bat l i) := by
  rw [List.getElem?_eq_getElem h, bat_eq h]
theorem bat_ok {l : List Int} (h : Bytes8 l) (i : Nat) : 0 ≤ bat l i ∧ bat l i < 256 := by
  by_cases hi : i < l.length
  · rw [bat_eq hi]; exact h _ (List.getElem_mem hi)
  · unfold bat; rw [List.getD_eq_getElem?_getD, List.getElem?_eq_none (by omega)]; simp
theorem bat_drop (l : List Int) (n i : Nat) : bat (l.drop n) i = bat l (n + i) := by
  unfold bat; rw [List.getD_eq_getElem?_getD, List.getD_eq_getElem?_getD, List.getElem?_drop]
theorem bat_take {l : List Int} {n i : Nat} (h : i < n) : bat (l.take n) i = bat l i := by
  unfold bat; rw [List.getD_eq_getElem?_getD, List.getD_eq_getElem?_getD, List.getElem?_take_of_lt h]
theorem bv_at {l : List Int} {i : Nat} (h : i < l.length) : (bv l)[i]? = some (.int .u8 (bat l i)) := by
  unfold bv; rw [List.getElem?_map, bat_get h]; rfl
theorem Bytes8.append {l m : List Int} (h : Bytes8 l) (k : Bytes8 m) : Bytes8 (l ++ m) := fun x hx => (List.mem_append.1 hx).elim (h x) (k x)
theorem Bytes8.drop {l : List Int} (h : Bytes8 l) (n : Nat) : Bytes8 (l.drop n) := fun x hx => h x (List.mem_of_mem_drop hx)
theorem Bytes8.take {l : List Int} (h : Bytes8 l) (n : Nat) : Bytes8 (l.take n) := fun x hx => h x (List.mem_of_mem_take hx)
theorem Bytes8.nil : Bytes8 [] := fun x hx => by cases hx
/-- A slice of n bytes reads as this list. -/
def BS (w : World) (ad : Option Addr) (n : Nat) (l : List Int) : Prop :=
  l.length = n ∧ (0 < n → ∃ b off, ad = some ⟨b, off, none⟩ ∧ ∀ i, i < n → w.cell? ⟨b, off + i, none⟩ = some (.int .u8 (bat l i)))
theorem BS.seen {w w' : World} {ad : Option Addr} {n : Nat} {l : List Int} (h : BS w ad n l) (hs : Seen w w') : BS w' ad n l :=
  ⟨h.1, fun h0 => let ⟨b, off, e, hc⟩ := h.2 h0; ⟨b, off, e, fun i hi => hs.cell (hc i hi)⟩⟩
theorem BS.nil (w : World) (ad : Option Addr) : BS w ad 0 [] := ⟨rfl, fun h => absurd h (by omega)⟩
theorem bs_of_own {w : World} {base n : Nat} {e : TypeId} {v : Value} {l : List Int} (h : w.ownsRow base e 1 v n (bv l)) (hl : l.length = n) :
    ∃ a c, v = .slice a n c ∧ BS w a n l ∧ n ≤ c ∧ (a = none → c = 0) := by
  rcases h.2 with ⟨rfl, rfl⟩ | ⟨g, cap, cur, rfl, hb, hh, h1, h2, h3, h4⟩
  · exact ⟨none, 0, rfl, ⟨hl, fun h => absurd h (by omega)⟩, by omega, fun _ => rfl⟩
  · refine ⟨_, cap, rfl, ⟨hl, fun _ => ⟨g, 0, rfl, fun i hi => ?_⟩⟩, h1, fun e => by cases e⟩
    rw [Nat.zero_add, h.cellAt i (by omega)]
    exact bv_at (by omega)
theorem src_of_bs {w : World} {ad : Option Addr} {m c : Nat} {l : List Int} (h : BS w ad m l) (hn : ad = none → c = 0) : SrcC w (.slice ad m c) m 1 (bv l) := by
  cases ad with
  | none =>
    have hm : m = 0 := by
      rcases Nat.eq_zero_or_pos m with h0 | h0
      · exact h0
      · obtain ⟨_, _, e, _⟩ := h.2 h0; cases e
    subst hm
    have hl : l = [] := List.eq_nil_of_length_eq_zero h.1
    subst hl
    rw [hn rfl]
    exact .inl ⟨rfl, rfl, rfl⟩
  | some a =>
    refine .inr ⟨a, c, rfl, by rw [bv_length1, h.1], fun j v hj => ?_⟩
    have hjl : j < (bv l).length := by
      rcases Nat.lt_or_ge j (bv l).length with h1 | h1
      · exact h1
      · rw [List.getElem?_eq_none h1] at hj; cases hj
    rw [bv_length, h.1] at hjl
    obtain ⟨b, off, e, hc⟩ := h.2 (by omega)
    cases e
    rw [add_plain, hc j hjl, ← bv_at (by rw [h.1]; exact hjl)]
    exact hj
theorem new_row1 (w : World) (t : TypeId) (x : Int) : (w.alloc (.cells #[.int .u8 x] t)).ownsRow 0 t 1 (.slice (some ⟨w.heap.size, 0, none⟩) 1 1) 1 (bv [x]) :=
  ⟨rfl, .inr ⟨w.heap.size, 1, #[.int .u8 x], rfl, Nat.zero_le _, World.alloc_heap_new w _, Nat.le_refl _, by unfold maxLen; omega, rfl, rfl⟩⟩
theorem new_row1' (w : World) (t : TypeId) (x : Int) (base : Nat) (hb : base ≤ w.heap.size) : (w.alloc (.cells #[.int .u8 x] t)).ownsRow base t 1 (.slice (some ⟨w.heap.size, 0, none⟩) 1 1) 1 (bv [x]) :=
  ⟨rfl, .inr ⟨w.heap.size, 1, #[.int .u8 x], rfl, hb, World.alloc_heap_new w _, Nat.le_refl _, by unfold maxLen; omega, rfl, rfl⟩⟩
/-- A number in n bytes, the greatest one first. -/
def be (v : Int) : Nat → List Int
  | 0 => []
  | n + 1 => be (v / 256) n ++ [v % 256]
theorem be_length (v : Int) (n : Nat) : (be v n).length = n := by
  induction n generalizing v with
  | zero => rfl
  | succ n ih => simp [be, ih]
theorem be_ok (v : Int) (n : Nat) : Bytes8 (be v n) := by
  induction n generalizing v with
  | zero => exact Bytes8.nil
  | succ n ih =>
    refine (ih _).append fun x hx => ?_
    rw [List.mem_singleton] at hx
    omega
theorem be_at (v : Int) (n k : Nat) (h : k < n) : bat (be v n) k = v / 2 ^ (8 * (n - 1 - k)) % 256 := by
  induction n generalizing v with
  | zero => omega
  | succ n ih =>
    by_cases hk : k < n
    · have e : bat (be v (n + 1)) k = bat (be (v / 256) n) k := by
        unfold bat
        rw [be, List.getD_eq_getElem?_getD, List.getD_eq_getElem?_getD, List.getElem?_append_left (by rw [be_length]; exact hk)]
      rw [e, ih _ hk, show 8 * (n + 1 - 1 - k) = 8 + 8 * (n - 1 - k) by omega, Int.pow_add, ← Int.ediv_ediv_of_nonneg (by decide : (0 : Int) ≤ 2 ^ 8)]
      rfl
    · have hk' : k = n := by omega
      subst hk'
      have e : bat (be v (k + 1)) k = v % 256 := by
        unfold bat
        rw [be, List.getD_eq_getElem?_getD, List.getElem?_append_right (by rw [be_length]; omega), be_length]
        simp
      rw [e, show 8 * (k + 1 - 1 - k) = 0 by omega]
      simp
theorem be_take (v : Int) (n k : Nat) (h : k < n) : (be v n).take (k + 1) = (be v n).take k ++ [v / 2 ^ (8 * (n - 1 - k)) % 256] := by
  rw [List.take_succ_eq_append_getElem (by rw [be_length]; exact h), ← be_at v n k h, bat_eq (by rw [be_length]; exact h)]
/-- The number that bytes make, the greatest one first. -/
def val (l : List Int) : Int := l.foldl (fun a b => a * 256 + b) 0
theorem val_snoc (l : List Int) (b : Int) : val (l ++ [b]) = val l * 256 + b := by simp [val]
theorem val_take {l : List Int} {k : Nat} (h : k < l.length) : val (l.take (k + 1)) = val (l.take k) * 256 + bat l k := by
  rw [List.take_succ_eq_append_getElem h, val_snoc, bat_eq h]
theorem val_bound {l : List Int} (h : Bytes8 l) : 0 ≤ val l ∧ val l < 256 ^ l.length := by
  have key : ∀ n, n ≤ l.length → 0 ≤ val (l.take n) ∧ val (l.take n) < 256 ^ n := by
    intro n
    induction n with
    | zero => intro _; simp [val]
    | succ n ih =>
      intro hn
      obtain ⟨h0, h1⟩ := ih (by omega)
      have := bat_ok h n
      rw [val_take (by omega), Int.pow_succ]
      omega
  have := key l.length (Nat.le_refl _)
  rwa [List.take_length] at this
theorem val_be (v : Int) (n : Nat) : val (be v n) = v % 256 ^ n := by
  induction n generalizing v with
  | zero => simp [be, val, Int.emod_one]
  | succ n ih =>
    rw [be, val_snoc, ih, Int.pow_succ, Int.mul_comm (256 ^ n) 256]
    have h1 := Int.emod_add_mul_ediv v 256
    have h2 := Int.emod_add_mul_ediv (v / 256) (256 ^ n)
    have h3 := Int.emod_add_mul_ediv v (256 * 256 ^ n)
    rw [← Int.ediv_ediv_of_nonneg (by decide : (0 : Int) ≤ 256)] at h3
    rw [Int.mul_assoc] at h3
    omega
/-- Eight bytes of it hold a number of 64 bits, signed. -/
theorem or_byte (a b : Int) (h0 : 0 ≤ a) (h1 : a < 72057594037927936) (hb : 0 ≤ b) (hb' : b < 256) : bits .or .u64 (a * 256) b = a * 256 + b := by
  obtain ⟨A, rfl⟩ := Int.eq_ofNat_of_zero_le h0
  obtain ⟨B, rfl⟩ := Int.eq_ofNat_of_zero_le hb
  have e : ((A : Int) * 256) = ((A * 256 : Nat) : Int) := by omega
  rw [e, u64_or_nat _ _ (by omega) (by omega)]
  have h2 : A * 256 ||| B = A * 256 + B := by
    have := Nat.shiftLeft_add_eq_or_of_lt (i := 8) (b := B) (by omega) A
    rw [Nat.shiftLeft_eq] at this
    exact this.symm
  rw [h2]; omega
end Go.Proofs.Ytlnnaegmcopiiaa
