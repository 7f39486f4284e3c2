/- Contract of places, of the reference package: all at which something may change. -/
import Derived.Test.YtckfdlolmenigaaRefRest
namespace Go.Proofs.Ytckfdlolmenigaa
open Go.ChangeShapes Go.WideShapes Go.ChangeAt Go.RowKit
theorem info2 : (Try.prog.info? 2).map (fun i => (i.zero, i.size, i.bytes)) = some (some (.int .i64 0), 1, 8) := by kernel_rfl
def iat (l : List Int) (i : Nat) : Int := l.getD i 0
theorem iat_eq {l : List Int} {i : Nat} (h : i < l.length) : iat l i = l[i] := by
  unfold iat; rw [List.getD_eq_getElem?_getD, List.getElem?_eq_getElem h]; rfl
/-- The cells of a list of numbers. -/
def nums (l : List Int) : List Value := l.map (Value.int .i64)
theorem nums_length (l : List Int) : (nums l).length = l.length := by simp [nums]
theorem nums_append (l m : List Int) : nums (l ++ m) = nums l ++ nums m := by simp [nums]
theorem nums_one (l : List Int) : ∀ u ∈ nums l, u.oneCell' = true := by
  intro u hu
  obtain ⟨x, _, rfl⟩ := List.mem_map.1 hu
  rfl
/-- A slice of n numbers reads as this list. -/
def IS (w : World) (ad : Option Addr) (n : Nat) (l : List Int) : Prop :=
  l.length = n ∧ (0 < n → ∃ b off, ad = some ⟨b, off, none⟩ ∧ ∀ i, i < n → w.cell? ⟨b, off + i, none⟩ = some (.int .i64 (iat l i)))
theorem IS.seen {w w' : World} {ad : Option Addr} {n : Nat} {l : List Int} (h : IS w ad n l) (hs : Seen w w') : IS w' ad n l :=
  ⟨h.1, fun h0 => let ⟨b, off, e, hc⟩ := h.2 h0; ⟨b, off, e, fun i hi => hs.cell (hc i hi)⟩⟩
theorem is_of_own {w : World} {base n : Nat} {v : Value} {l : List Int} (h : w.ownsRow base 2 1 v n (nums l)) (hl : l.length = n) :
    ∃ a c, v = .slice a n c ∧ IS w a n l := by
  rcases h.2 with ⟨rfl, rfl⟩ | ⟨g, cap, cur, rfl, hb, hh, h1, h2, h3, h4⟩
  · exact ⟨none, 0, rfl, hl, fun h => absurd h (by omega)⟩
  · refine ⟨_, cap, rfl, hl, fun _ => ⟨g, 0, rfl, fun i hi => ?_⟩⟩
    have hil : i < l.length := by omega
    have := h.cells (g := g) rfl i (.int .i64 (iat l i)) (by unfold nums; rw [List.getElem?_map, List.getElem?_eq_getElem hil, iat_eq hil]; rfl)
    rwa [add_plain] at this
theorem places_hit {a b : Int} {l : List Int} {k : Nat} (hk : k < l.length) (h1 : a < iat l k) (h2 : iat l k < b) : placesL a b (l.take (k + 1)) = placesL a b (l.take k) ++ [iat l k] := by
  unfold placesL
  rw [List.take_succ_eq_append_getElem hk, ← iat_eq hk, List.filter_append]
  simp [h1, h2]
theorem places_miss {a b : Int} {l : List Int} {k : Nat} (hk : k < l.length) (h : ¬ (a < iat l k ∧ iat l k < b)) : placesL a b (l.take (k + 1)) = placesL a b (l.take k) := by
  unfold placesL
  rw [List.take_succ_eq_append_getElem hk, ← iat_eq hk, List.filter_append]
  have : [iat l k].filter (fun v => decide (a < v ∧ v < b)) = [] := by simp only [List.filter_cons, decide_eq_true_eq, if_neg h, List.filter_nil]
  rw [this, List.append_nil]
theorem places_len (a b : Int) (l : List Int) (k : Nat) : (placesL a b (l.take k)).length ≤ k + 1 := by
  unfold placesL
  have h1 := List.length_filter_le (fun v => decide (a < v ∧ v < b)) (l.take k)
  have h2 : (l.take k).length ≤ k := List.length_take_le _ _
  simp only [List.length_cons]; omega
def IntPost (R : List Int) (w : World) (e : Ending) (w' : World) : Prop := (∃ v, e = .returned v ∧ w'.ownsRow w.heap.size 2 1 v R.length (nums R)) ∧ Below w.heap.size w w'
set_option maxHeartbeats 4000000 in
theorem places_any (a b : Int) (ad : Option Addr) (n c : Nat) (l : List Int) (w : World) (h : IS w ad n l) (hn : n ≤ 1000000) :
    Calls Try.prog 24 #[.int .i64 a, .int .i64 b, .slice ad n c] w (IntPost (placesL a b l) w) := by
  obtain ⟨i0, hi0, hz0, hz1, hz2⟩ := info_parts info2
  have HR := Lib.hid h
  clear h
  go_enter Try.func24, Try.ntmps24
  go_wp2_with fail
  go_loopw [7, 13] (fun v i wr => ∃ k : Nat, k ≤ n ∧ i = .int .i64 k ∧ wr.ownsRow w.heap.size 2 1 v (placesL a b (l.take k)).length (nums (placesL a b (l.take k))) ∧ Seen w wr) (fun _ i _ => n - (intOf i).toNat)
  case atStart =>
    refine ⟨0, Nat.zero_le _, rfl, ⟨rfl, .inr ⟨w.heap.size, 1, _, rfl, Nat.le_refl _, World.alloc_heap_new w _, Nat.le_refl _, by decide, rfl, rfl⟩⟩, (Seen.refl w).alloc _⟩
  case round =>
    obtain ⟨k, hk, rfl, hown, hs⟩ := hrel
    have HO := Lib.hid hown
    clear hown
    by_cases hlt : k < n
    · obtain ⟨b1, o1, rfl, hc1⟩ := HR.out.2 (by omega)
      have p0 := hs.cell (hc1 k hlt)
      clear hc1
      have hkl : k < l.length := by rw [HR.out.1]; exact hlt
      have hlen := places_len a b l k
      by_cases h1 : a < iat l k
      · by_cases h2 : iat l k < b
        · have HP := Lib.hid (places_hit hkl h1 h2)
          go_wp2_with (at_builtin; refine wpList_append_own _ rfl (.tmp 30) (.tmp 35) 41 rfl w.heap.size 2 i0 (.int .i64 0) 1 8 Try.underlying41 hi0 hz0 hz1 hz2 rfl (by decide) u7 _ _ rfl (HO.out.alloc _) ⟨wr.heap.size, 0, none⟩ 1 1 [.int .i64 (iat l k)] rfl rfl (cell_one_new _ _ _) (by simp [Value.oneCell']) (by unfold maxLen; omega) (by omega) (Nat.le_trans hs.size (by simp)) ?_; intro v5 w5 hown5 hgr5 hni; clear hni; have HN5 := Lib.hid (And.intro hown5 hgr5); clear hown5 hgr5)
          go_roundw
          case rel =>
            obtain ⟨hown5, hgr5⟩ := HN5.out
            refine ⟨k + 1, by omega, by go_num, ?_, ?_⟩
            · rw [HP.out, nums_append, List.length_append]; exact hown5
            · exact Below.grown (hs.alloc _) hgr5 (Nat.le_trans hs.size (by simp)) (fun j hj => (HO.out.lt j hj).1)
          case measure => simp [intOf]; omega
        · have HP := Lib.hid (places_miss (a := a) (b := b) hkl (fun h => h2 h.2))
          go_wp2_with fail
          go_roundw
          case rel => exact ⟨k + 1, by omega, by go_num, by rw [HP.out]; exact HO.out, hs⟩
          case measure => simp [intOf]; omega
      · have HP := Lib.hid (places_miss (a := a) (b := b) hkl (fun h => h1 h.1))
        go_wp2_with fail
        go_roundw
        case rel => exact ⟨k + 1, by omega, by go_num, by rw [HP.out]; exact HO.out, hs⟩
        case measure => simp [intOf]; omega
    · have HF : Hid (l.take k = l) := List.take_of_length_le (by rw [HR.out.1]; omega)
      go_wp2_with fail
      go_ret
      refine ⟨⟨_, rfl, ?_⟩, hs⟩
      have := HO.out
      rw [HF.out] at this
      exact this
end Go.Proofs.Ytckfdlolmenigaa
