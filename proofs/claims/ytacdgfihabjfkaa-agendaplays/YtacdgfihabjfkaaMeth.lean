/- Contracts of the methods Len, Less and Swap of the list that the heap works on. -/
import Derived.Test.YtacdgfihabjfkaaMem
namespace Go.Proofs.Ytacdgfihabjfkaa
open Go.ChangeShapes Go.WideShapes Go.ChangeAt Go.RowKit
theorem len_any (ad : Option Addr) (n c : Nat) (w : World) : Calls Try.prog 63 #[.slice ad n c] w fun e w' => e = .returned (.int .i64 n) ∧ w' = w := by
  go_enter Try.func63, Try.ntmps63
  go_wp2
  go_ret
  exact ⟨rfl, rfl⟩
theorem isI {P : Program} {f : FuncId} {args : Array Value} {b c : Int} {w : World} (h : Calls P f args w fun e w' => e = .returned (.int .i64 b) ∧ Below w.heap.size w w') (hb : b = c) :
    Calls P f args w fun e w' => e = .returned (.int .i64 c) ∧ Below w.heap.size w w' := hb ▸ h
/-- The cells of an entry, as rules for every world that holds the blocks of W. -/
theorem At3.rules {W : World} {b o : Nat} {r : E3} (hb : At3 W b o r) : ∀ w', Seen W w' →
    w'.cell? ⟨b, o, none⟩ = some (.int .i64 r.k) ∧ w'.cell? ⟨b, o + 1, none⟩ = some (.int .i64 r.t) ∧ w'.cell? ⟨b, o + 2, none⟩ = some (.int .i64 r.n) := fun _ h => h.at3 hb
set_option maxHeartbeats 2000000 in
theorem less_any (ad : Option Addr) (n c : Nat) (l : List E3) (i j : Nat) (w : World) (h : ES w ad n l) (hi : i < n) (hj : j < n) (hn : n ≤ 1000000) :
    Calls Try.prog 64 #[.slice ad n c, .int .i64 i, .int .i64 j] w fun e w' => e = .returned (.bool (ltE (eat l i) (eat l j))) ∧ Below w.heap.size w w' := by
  obtain ⟨b, off, rfl, hc⟩ := h.2 (by omega)
  have r1 := (hc i hi).rules
  have r2 := (hc j hj).rules
  obtain ⟨z, hz⟩ : ∃ z, cmpE (eat l i) (eat l j) = z := ⟨_, rfl⟩
  have HZ := Lib.hid hz
  have HA : Hid (decide (z < 0) = ltE (eat l i) (eat l j)) := by rw [← hz]; exact lt_decide _ _
  have hii : (i : Int) < (n : Int) := by omega
  have hjj : (j : Int) < (n : Int) := by omega
  clear h hc hz
  go_enter Try.func64, Try.ntmps64
  go_wp2_with fail
  refine wp_region_quiet (C := Seen w) (by kernel_rfl) (by kernel_rfl) (Seen.drew (Seen.refl _)) ?_
  simp only []
  repeat (first
    | go_big_quiet_skip
    | (go_big_quiet_want
       apply Exists.intro
       refine ⟨fun w1 h1 => ?_, ?_⟩
       focus
         go_simp
         first | done | rfl | (go_at_call 16; with_reducible exact quiet_call h1 (isI (compare_any (eat l i) (eat l j) _) HZ.out))
       (try simp only [Act.put, List.setIfInBounds_toArray, List.set_cons_zero, List.set_cons_succ])
       go_big_quiet_on))
  refine wpQuiet_nil ?_
  intro w3 h3
  clear r1 r2
  go_wp2_with fail
  go_ret
  exact ⟨ret_bool HA.out, h3⟩
/-- Two entries of a block exchanged: the six stores. -/
def swapW (w : World) (g : Nat) (x y : E3) (i j : Nat) : World := ((((((w.setCell ⟨g, i * 3, none⟩ (.int .i64 y.k)).setCell ⟨g, i * 3 + 1, none⟩ (.int .i64 y.t)).setCell ⟨g, i * 3 + 2, none⟩ (.int .i64 y.n)).setCell ⟨g, j * 3, none⟩ (.int .i64 x.k)).setCell ⟨g, j * 3 + 1, none⟩ (.int .i64 x.t)).setCell ⟨g, j * 3 + 2, none⟩ (.int .i64 x.n)).drew
set_option maxHeartbeats 4000000 in
theorem swap_cells (g n c : Nat) (x y : E3) (i j : Nat) (w : World) (hi : i < n) (hj : j < n) (hx : At3 w g (i * 3) x) (hy : At3 w g (j * 3) y) (hf : ∀ o, w.frozen? ⟨g, o, none⟩ = false) (_hn : n ≤ 1000000) :
    Calls Try.prog 65 #[.slice (some ⟨g, 0, none⟩) n c, .int .i64 i, .int .i64 j] w fun e w' => e = .returned (.tuple #[]) ∧ w' = swapW w g x y i j := by
  by_cases hne : i = j
  · subst hne
    have e : x = y := by
      obtain ⟨x1, x2, x3⟩ := x
      obtain ⟨y1, y2, y3⟩ := y
      have h0 := hx.1.symm.trans hy.1
      have h1 := hx.2.1.symm.trans hy.2.1
      have h2 := hx.2.2.symm.trans hy.2.2
      simp at h0 h1 h2
      rw [h0, h1, h2]
    subst e
    clear hy hj
    obtain ⟨x0, x1, x2⟩ := hx
    have f0 := hf (i * 3)
    have f1 := hf (i * 3 + 1)
    have f2 := hf (i * 3 + 2)
    have hii : (i : Int) < (n : Int) := by omega
    have H : Hid (swapW w g x x i i = ((((((w.setCell ⟨g, i * 3, none⟩ (.int .i64 x.k)).setCell ⟨g, i * 3 + 1, none⟩ (.int .i64 x.t)).setCell ⟨g, i * 3 + 2, none⟩ (.int .i64 x.n)).setCell ⟨g, i * 3, none⟩ (.int .i64 x.k)).setCell ⟨g, i * 3 + 1, none⟩ (.int .i64 x.t)).setCell ⟨g, i * 3 + 2, none⟩ (.int .i64 x.n)).drew) := rfl
    clear hf
    go_enter Try.func65, Try.ntmps65
    go_wp2_with fail
    go_region
    go_end0
    exact ⟨rfl, H.out.symm⟩
  · have hne' : j ≠ i := fun e => hne e.symm
    obtain ⟨x0, x1, x2⟩ := hx
    obtain ⟨y0, y1, y2⟩ := hy
    have f0 := hf (i * 3)
    have f1 := hf (i * 3 + 1)
    have f2 := hf (i * 3 + 2)
    have g0 := hf (j * 3)
    have g1 := hf (j * 3 + 1)
    have g2 := hf (j * 3 + 2)
    have hii : (i : Int) < (n : Int) := by omega
    have hjj : (j : Int) < (n : Int) := by omega
    have H : Hid (swapW w g x y i j = ((((((w.setCell ⟨g, i * 3, none⟩ (.int .i64 y.k)).setCell ⟨g, i * 3 + 1, none⟩ (.int .i64 y.t)).setCell ⟨g, i * 3 + 2, none⟩ (.int .i64 y.n)).setCell ⟨g, j * 3, none⟩ (.int .i64 x.k)).setCell ⟨g, j * 3 + 1, none⟩ (.int .i64 x.t)).setCell ⟨g, j * 3 + 2, none⟩ (.int .i64 x.n)).drew) := rfl
    clear hf
    go_enter Try.func65, Try.ntmps65
    go_wp2_with fail
    go_region
    go_end0
    exact ⟨rfl, H.out.symm⟩
theorem row_setCell {w : World} {base : Nat} {e : TypeId} {size g n cap : Nat} {xs : List Value} (h : w.ownsRow base e size (.slice (some ⟨g, 0, none⟩) n cap) n xs) (o : Nat) (u : Value) :
    (w.setCell ⟨g, o, none⟩ u).ownsRow base e size (.slice (some ⟨g, 0, none⟩) n cap) n (xs.set o u) := by
  refine ⟨by rw [List.length_set]; exact h.1, ?_⟩
  rcases h.2 with ⟨h1, _⟩ | ⟨g', cap', cur, h1, hb, hh, h2, h3, h4, h5⟩
  · cases h1
  · cases h1
    refine .inr ⟨g, cap, cur.setIfInBounds o u, rfl, hb, ?_, h2, h3, by simpa using h4, ?_⟩
    · simp [World.setCell, Array.getElem?_modify, hh]
    · rw [Array.toList_setIfInBounds, ← h5, List.take_set]
theorem row_drew {w : World} {base : Nat} {e : TypeId} {size n : Nat} {v : Value} {xs : List Value} (h : w.ownsRow base e size v n xs) : w.drew.ownsRow base e size v n xs := h
theorem row_frozen {w : World} {base : Nat} {e : TypeId} {size g n cap : Nat} {xs : List Value} (h : w.ownsRow base e size (.slice (some ⟨g, 0, none⟩) n cap) n xs) (o : Nat) : w.frozen? ⟨g, o, none⟩ = false := by
  rcases h.2 with ⟨h1, _⟩ | ⟨g', cap', cur, h1, hb, hh, _⟩
  · cases h1
  · cases h1
    simp [World.frozen?, hh]
theorem row_swap {w : World} {base : Nat} {e : TypeId} {g n cap : Nat} {l : List E3} (h : w.ownsRow base e 3 (.slice (some ⟨g, 0, none⟩) n cap) n (flatE l)) (i j : Nat) :
    (swapW w g (eat l i) (eat l j) i j).ownsRow base e 3 (.slice (some ⟨g, 0, none⟩) n cap) n (flatE (swapE l i j)) := by
  have h1 := row_setCell (row_setCell (row_setCell (row_setCell (row_setCell (row_setCell h (i * 3) (.int .i64 (eat l j).k)) (i * 3 + 1) (.int .i64 (eat l j).t)) (i * 3 + 2) (.int .i64 (eat l j).n)) (j * 3) (.int .i64 (eat l i).k)) (j * 3 + 1) (.int .i64 (eat l i).t)) (j * 3 + 2) (.int .i64 (eat l i).n)
  rw [← flatE_set, ← flatE_set] at h1
  exact row_drew h1
theorem swapW_moves {T : Nat → Prop} (w : World) {g : Nat} (hg : T g) (x y : E3) (i j : Nat) : Moves T T w (swapW w g x y i j) := by
  have h : ∀ (w : World) (o : Nat) (u : Value), Moves T T w (w.setCell ⟨g, o, none⟩ u) := fun w o u => Moves.setCell w (p := ⟨g, o, none⟩) hg u
  have h2 := (((((h w (i * 3) (.int .i64 y.k)).trans (h _ (i * 3 + 1) (.int .i64 y.t))).trans (h _ (i * 3 + 2) (.int .i64 y.n))).trans (h _ (j * 3) (.int .i64 x.k))).trans (h _ (j * 3 + 1) (.int .i64 x.t))).trans (h _ (j * 3 + 2) (.int .i64 x.n))
  exact h2.trans (Moves.of_below (Below.drew (Below.refl _ _)))
end Go.Proofs.Ytacdgfihabjfkaa
