/- What ScrollTakes keeps from round to round. -/
import Derived.Test.YtnmohgdielpdmaaRef
namespace Go.Proofs.Ytnmohgdielpdmaa
open Go.ChangeShapes Go.WideShapes Go.ChangeAt Go.RowKit
theorem IS.drewN {K : Nat → Prop} {B : Nat} {l : List Int} {bad : Bool} {w : World} (h : IS K B l bad w) (n : Nat) : IS K B l bad (w.drewN n) := h.keeps fun _ _ => rfl
theorem left_at {K : Nat → Prop} {B : Nat} {l : List Int} {bad : Bool} {w : World} {m : Nat} (h : IS K B l bad w) (hm : l.length = m) : Calls Try.prog 20 #[.pointer (some ⟨B, 0, none⟩)] w fun e w' => e = .returned (.int .i64 m) ∧ w' = w := by
  rw [← hm]; exact left_any h
theorem done_at {K : Nat → Prop} {B : Nat} {l : List Int} {bad : Bool} {w : World} {m : Nat} (h : IS K B l bad w) (hm : l.length = m) : Calls Try.prog 21 #[.pointer (some ⟨B, 0, none⟩)] w fun e w' => e = .returned (.bool (!bad && ((m : Int) == 0))) ∧ w' = w := by
  have := done_any h
  rw [hm] at this
  have e : decide (m = 0) = ((m : Int) == 0) := bool_iff (by rw [decide_eq_true_iff, beq_iff_eq]; omega)
  rw [e] at this
  exact this
theorem wrap_u64_small {x : Int} {n : Nat} (h : 0 ≤ x ∧ x < 256 ^ n) (hn : n ≤ 8) : IntKind.u64.wrap x = x := by
  have v2 : (256 : Int) ^ n ≤ 18446744073709551616 := (by decide : ∀ k, k < 9 → (256 : Int) ^ k ≤ 18446744073709551616) n (by omega)
  rw [IntKind.wrap_u64]; omega
theorem wrap_u64_wrap64 {x : Int} (h : 0 ≤ x ∧ x < 256 ^ 8) : IntKind.u64.wrap (wrap64 x) = x := by
  rw [IntKind.wrap_u64]; unfold wrap64; omega
/-- The two sides alike: the In at B, and the law's own at X, which reads the argument's bytes. -/
structure TI (w : World) (K : Nat → Prop) (B X : Nat) (l : List Int) (bad : Bool) (a : Option Addr) (N c : Nat) (wr : World) : Prop where
  seen : Seen w wr
  self : IS K B l bad wr
  cell : wr.heap[X]? = some (.cells #[.slice a N c, .bool bad] 38)
  src : BS w a N l
  cap : N ≤ c
section
variable {w wr : World} {K : Nat → Prop} {B X : Nat} {l : List Int} {bad : Bool} {a : Option Addr} {N c : Nat}
theorem TI.cells (h : TI w K B X l bad a N c wr) : wr.cell? ⟨X, 0, none⟩ = some (.slice a N c) ∧ wr.cell? ⟨X, 1, none⟩ = some (.bool bad) ∧ ∀ o, wr.frozen? ⟨X, o, none⟩ = false :=
  ⟨by rw [Go.Joins.cell_of_block h.cell]; rfl, by rw [Go.Joins.cell_of_block h.cell]; rfl, fun o => by simp [World.frozen?, h.cell]⟩
theorem TI.low (h : TI w K B X l bad a N c wr) : X < wr.heap.size := by
  rcases Nat.lt_or_ge X wr.heap.size with h1 | h1
  · exact h1
  · have := h.cell; rw [Array.getElem?_eq_none h1] at this; cases this
/-- The law's own is stored anew. -/
theorem TI.store {l' : List Int} {bad' : Bool} {w4 : World} (hs : Seen w w4) (hi : IS K B l' bad' w4) (hc : w4.heap[X]? = some (.cells #[.slice a N c, .bool bad] 38)) (hXK : ¬ K X) (hX : w.heap.size ≤ X) {a' : Option Addr} {N' c' : Nat} (hb : BS w a' N' l') (hc' : N' ≤ c') :
    TI w K B X l' bad' a' N' c' ((w4.setCell ⟨X, 0, none⟩ (.slice a' N' c')).setCell ⟨X, 1, none⟩ (.bool bad')) := by
  refine ⟨(hs.moves (Turns.set w4 X 0 _) (fun k hk => by rw [hk]; exact hX)).moves (Turns.set _ X 1 _) (fun k hk => by rw [hk]; exact hX), hi.keeps fun k hk => ?_, ?_, hb, hc'⟩
  · have hne : k ≠ X := fun e => hXK (e ▸ hk)
    rw [Below.heap_setCell _ ⟨X, 1, none⟩ _ _ hne, Below.heap_setCell _ ⟨X, 0, none⟩ _ _ hne]
  · rw [Go.Joins.block_setCell (Go.Joins.block_setCell hc _) _]; rfl
/-- Behind a request of the In's. -/
theorem TI.turn (h : TI w K B X l bad a N c wr) {w3 : World} (ht : Turns B wr w3) (hB : w.heap.size ≤ B) (hBX : X ≠ B) : Seen w w3 ∧ w3.heap[X]? = some (.cells #[.slice a N c, .bool bad] 38) :=
  ⟨h.seen.turns ht hB, (ht.block X h.low hBX).trans h.cell⟩
theorem cells38 {w3 : World} (h : w3.heap[X]? = some (.cells #[.slice a N c, .bool bad] 38)) : w3.cell? ⟨X, 0, none⟩ = some (.slice a N c) ∧ w3.cell? ⟨X, 1, none⟩ = some (.bool bad) ∧ ∀ o, w3.frozen? ⟨X, o, none⟩ = false :=
  ⟨by rw [Go.Joins.cell_of_block h]; rfl, by rw [Go.Joins.cell_of_block h]; rfl, fun o => by simp [World.frozen?, h]⟩
theorem low38 {w3 : World} {t : TypeId} {cs : Array Value} (h : w3.heap[X]? = some (.cells cs t)) : X < w3.heap.size := by
  rcases Nat.lt_or_ge X w3.heap.size with h1 | h1
  · exact h1
  · rw [Array.getElem?_eq_none h1] at h; cases h
end
theorem TI.drewN {w wr : World} {K : Nat → Prop} {B X : Nat} {l : List Int} {bad : Bool} {a : Option Addr} {N c : Nat} (h : TI w K B X l bad a N c wr) (n : Nat) : TI w K B X l bad a N c (wr.drewN n) :=
  ⟨Below.trans h.seen ⟨rfl, rfl, rfl, Nat.le_refl _, fun _ _ => rfl⟩, h.self.drewN n, h.cell, h.src, h.cap⟩
theorem BS.rules {w : World} {b off n k : Nat} {l : List Int} (h : ∀ i, i < n → w.cell? ⟨b, off + i, none⟩ = some (.int .u8 (bat l i))) (hk : k < n) :
    ∀ w', Seen w w' → w'.cell? ⟨b, off + k, none⟩ = some (.int .u8 (bat l k)) := fun _ hs => hs.cell (h k hk)
theorem tk_gone {n : Nat} {l : List Int} {bad : Bool} (h : bad = true → l = []) : tkB n l bad = true → tkL n l = [] := by
  unfold tkB tkL
  split
  · intro _; rfl
  · intro hb; rw [h hb, List.drop_nil]
end Go.Proofs.Ytnmohgdielpdmaa
