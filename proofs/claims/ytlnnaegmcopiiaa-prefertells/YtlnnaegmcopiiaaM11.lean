/- Texts of the proof, merged: KinMem, Awake. -/
import Derived.Test.YtlnnaegmcopiiaaM5
import Derived.Test.YtlnnaegmcopiiaaM10
import Derived.Laws.MakeOwn
import Derived.Test.YtlnnaegmcopiiaaM9
/- The memory of a Kin: rows of elements laid out flat, places, styles; contracts of Len and has; no conditions beyond those written in each theorem. -/
namespace Go.Proofs.Ytlnnaegmcopiiaa
open Go.ChangeShapes Go.WideShapes Go.ChangeAt Go.RowKit
set_option maxRecDepth 100000
theorem fl_split {α : Type} {enc : α → List Value} (l : List α) {i : Nat} (hi : i < l.length) : l.flatMap enc = (l.take i).flatMap enc ++ (enc l[i] ++ (l.drop (i + 1)).flatMap enc) := by
  rw [← List.flatMap_cons, ← List.drop_eq_getElem_cons hi, ← List.flatMap_append, List.take_append_drop]
section
variable {α : Type} {enc : α → List Value} {size : Nat} (hf : ∀ q, (enc q).length = size)
include hf
theorem fl_len (l : List α) : (l.flatMap enc).length = l.length * size := by
  induction l with
  | nil => simp
  | cons a l ih => rw [List.flatMap_cons, List.length_append, hf, ih, List.length_cons, Nat.add_mul]; omega
theorem fl_at (l : List α) (z : α) {i : Nat} (hi : i < l.length) {j : Nat} (hj : j < size) : (l.flatMap enc)[i * size + j]? = (enc (l.getD i z))[j]? := by
  induction l generalizing i with
  | nil => simp at hi
  | cons a l ih =>
    rw [List.flatMap_cons]
    cases i with
    | zero => rw [List.getElem?_append_left (by rw [hf]; omega), Nat.zero_mul, Nat.zero_add]; rfl
    | succ i =>
      have e2 : (a :: l).getD (i + 1) z = l.getD i z := rfl
      rw [e2, List.getElem?_append_right (by rw [hf, Nat.add_mul]; omega), hf, show (i + 1) * size + j - size = i * size + j by rw [Nat.add_mul]; omega]
      exact ih (by simpa using hi)
theorem fl_sets (l : List α) {i : Nat} (hi : i < l.length) (x : α) : setsL (l.flatMap enc) (i * size) (enc x) = (l.set i x).flatMap enc := by
  have e : ((l.take i).flatMap enc).length = i * size := by rw [fl_len hf, List.length_take, Nat.min_eq_left (by omega)]
  rw [fl_split l hi, ← e, setsL_mid _ _ _ _ (by rw [hf, hf]), fl_split (l.set i x) (by rw [List.length_set]; exact hi)]
  rw [List.getElem_set_self, List.take_set_of_le (Nat.le_refl i), List.drop_set_of_lt (by omega)]
theorem made_flat (hpos : 0 < size) (z : α) (n : Nat) : madeCells (enc z).toArray (n * size) = ((List.replicate n z).flatMap enc).toArray := by
  have hs : (enc z).toArray.size = size := by simp [hf]
  apply Array.ext
  · rw [size_madeCells]; simp [fl_len hf]
  · intro i h1 h2
    rw [size_madeCells] at h1
    have hq : i / size < n := Nat.div_lt_of_lt_mul (by rw [Nat.mul_comm]; exact h1)
    have hm : i % size < size := Nat.mod_lt _ hpos
    have e : i = i / size * size + i % size := by rw [Nat.mul_comm]; exact (Nat.div_add_mod i size).symm
    have h3 := fl_at hf (List.replicate n z) z (i := i / size) (by simpa using hq) hm
    rw [← e] at h3
    have e2 : (List.replicate n z).getD (i / size) z = z := by rw [List.getD_eq_getElem?_getD, List.getElem?_replicate, if_pos hq]; rfl
    rw [e2] at h3
    have h4 : (enc z)[i % size]? = some ((enc z)[i % size]'(by rw [hf]; exact hm)) := List.getElem?_eq_getElem _
    rw [h4] at h3
    have h5 : ((List.replicate n z).flatMap enc).toArray[i] = (enc z)[i % size]'(by rw [hf]; exact hm) := by
      rw [List.getElem_toArray]
      rw [List.getElem?_eq_getElem (by simpa using h2)] at h3
      exact Option.some.inj h3
    rw [h5]
    simp [madeCells, hs]
    rw [h4]; rfl
theorem sl_of_block {w : World} {G : Nat} {t : TypeId} (z : α) {l : List α} (h : w.heap[G]? = some (.cells (l.flatMap enc).toArray t)) : SL enc size z w (some ⟨G, 0, none⟩) l.length l := by
  refine ⟨rfl, fun _ => ⟨G, 0, rfl, fun i hi j hj => ?_⟩⟩
  rw [Go.Joins.cell_of_block h, List.getElem?_toArray, Nat.zero_add]
  exact fl_at hf l z hi hj
end
/-- What the other nodes make of a node. -/
structure Pl where
  par : Int
  stop : Int
  deep : Int
  made : Bool
  out : Bool
def pll (p : Pl) : List Value := [.int .i64 p.par, .int .i64 p.stop, .int .i64 p.deep, .bool p.made, .bool p.out]
def plv (p : Pl) : Value := .agg (pll p).toArray
theorem pll_length (p : Pl) : (pll p).length = 5 := rfl
def zeroP : Pl := ⟨0, 0, 0, false, false⟩
def noP : Pl := ⟨-1, 0, 0, false, false⟩
/-- The place of node n, with these ends. -/
def plE (l : List Nd) (E : Nat → Nat) (n : Nat) : Pl := ⟨(nd l n).p, E n, deep l n, madeB l n, outB l n⟩
def plAt (l : List Nd) (n : Int) : Pl := if inB l n then plE l (endN l) n.toNat else noP
def styAt (l : List Nd) (n : Int) : Sty := if inB l n then (nd l n.toNat).s else zeroS
theorem styAt_full (l : List Nd) (n : Int) : Full (styAt l n) := by
  unfold styAt; split
  · exact (nd l _).full
  · exact zero_full
def stn (x : Nd) : List Value := stl x.s
theorem stn_length (x : Nd) : (stn x).length = 48 := x.full.len
def places (l : List Nd) (E : Nat → Nat) : List Pl := (List.range l.length).map (plE l E)
theorem places_length (l : List Nd) (E : Nat → Nat) : (places l E).length = l.length := by simp [places]
theorem places_at {l : List Nd} {E : Nat → Nat} {n : Nat} (h : n < l.length) : (places l E).getD n zeroP = plE l E n := by
  unfold places
  rw [List.getD_eq_getElem?_getD, List.getElem?_map, List.getElem?_range h]; rfl
/-- The Kin at the block B, its styles at G, its places at H. -/
structure KK (w : World) (B G H : Nat) (l : List Nd) (E : Nat → Nat) : Prop where
  obj : w.heap[B]? = some (.cells #[.slice (some ⟨G, 0, none⟩) l.length l.length, .slice (some ⟨H, 0, none⟩) l.length l.length] 51)
  sty : w.heap[G]? = some (.cells (l.flatMap stn).toArray 39)
  pls : w.heap[H]? = some (.cells ((places l E).flatMap pll).toArray 53)
theorem lt_of_block {w : World} {X : Nat} {o : Obj} (h : w.heap[X]? = some o) : X < w.heap.size := by
  rcases Nat.lt_or_ge X w.heap.size with h1 | h1
  · exact h1
  · rw [Array.getElem?_eq_none h1] at h; cases h
theorem KK.keeps {w w' : World} {B G H : Nat} {l : List Nd} {E : Nat → Nat} (h : KK w B G H l E) (hb : w'.heap[B]? = w.heap[B]?) (hg : w'.heap[G]? = w.heap[G]?) (hh : w'.heap[H]? = w.heap[H]?) : KK w' B G H l E :=
  ⟨hb.trans h.obj, hg.trans h.sty, hh.trans h.pls⟩
theorem KK.seen {w w' : World} {B G H : Nat} {l : List Nd} {E : Nat → Nat} (h : KK w B G H l E) (hs : Seen w w') : KK w' B G H l E :=
  h.keeps (hs.block _ (lt_of_block h.obj)) (hs.block _ (lt_of_block h.sty)) (hs.block _ (lt_of_block h.pls))
theorem KK.objs {w : World} {B G H : Nat} {l : List Nd} {E : Nat → Nat} (h : KK w B G H l E) : w.cell? ⟨B, 0, none⟩ = some (.slice (some ⟨G, 0, none⟩) l.length l.length) ∧ w.cell? ⟨B, 1, none⟩ = some (.slice (some ⟨H, 0, none⟩) l.length l.length) :=
  ⟨by rw [Go.Joins.cell_of_block h.obj]; rfl, by rw [Go.Joins.cell_of_block h.obj]; rfl⟩
theorem KK.place {w : World} {B G H : Nat} {l : List Nd} {E : Nat → Nat} (h : KK w B G H l E) {n : Nat} (hn : n < l.length) :
    w.cell? ⟨H, n * 5, none⟩ = some (.int .i64 (nd l n).p) ∧ w.cell? ⟨H, n * 5 + 1, none⟩ = some (.int .i64 (E n)) ∧ w.cell? ⟨H, n * 5 + 2, none⟩ = some (.int .i64 (deep l n)) ∧ w.cell? ⟨H, n * 5 + 3, none⟩ = some (.bool (madeB l n)) ∧ w.cell? ⟨H, n * 5 + 4, none⟩ = some (.bool (outB l n)) := by
  have key : ∀ j, j < 5 → w.cell? ⟨H, n * 5 + j, none⟩ = (pll (plE l E n))[j]? := fun j hj => by
    rw [Go.Joins.cell_of_block h.pls, List.getElem?_toArray, fl_at pll_length _ zeroP (by rw [places_length]; exact hn) hj, places_at hn]
  exact ⟨key 0 (by omega), key 1 (by omega), key 2 (by omega), key 3 (by omega), key 4 (by omega)⟩
theorem KK.style {w : World} {B G H : Nat} {l : List Nd} {E : Nat → Nat} (h : KK w B G H l E) {n : Nat} (hn : n < l.length) : w.rangeAt G (n * 48) (stl (nd l n).s) := fun j v hj => by
  have hj' : j < 48 := by
    rcases Nat.lt_or_ge j 48 with h1 | h1
    · exact h1
    · rw [List.getElem?_eq_none (by rw [(nd l n).full.len]; exact h1)] at hj; cases hj
  rw [Go.Joins.cell_of_block h.sty, List.getElem?_toArray, fl_at stn_length l zeroN hn hj']
  exact hj
/-- A Kin as a value: of a tree, or nil. -/
def KV (w : World) (v : Value) (l : List Nd) : Prop := (v = .pointer none ∧ l = []) ∨ (FormedT l ∧ l.length ≤ 65535 ∧ ∃ B G H, v = .pointer (some ⟨B, 0, none⟩) ∧ KK w B G H l (endN l))
theorem KV.seen {w w' : World} {v : Value} {l : List Nd} (h : KV w v l) (hs : Seen w w') : KV w' v l := by
  rcases h with h | ⟨h1, h2, B, G, H, e, h3⟩
  · exact .inl h
  · exact .inr ⟨h1, h2, B, G, H, e, h3.seen hs⟩
theorem KV.len {w : World} {v : Value} {l : List Nd} (h : KV w v l) : l.length ≤ 65535 := by
  rcases h with ⟨_, rfl⟩ | h
  · simp
  · exact h.2.1
theorem len_any (v : Value) (l : List Nd) (w : World) (h : KV w v l) : Calls Try.prog 44 #[v] w fun e w' => e = .returned (.int .i64 l.length) ∧ w' = w := by
  rcases h with ⟨rfl, rfl⟩ | ⟨_, _, B, G, H, rfl, hk⟩
  · go_enter Try.func44, Try.ntmps44
    go_wp2_with fail
    go_ret
    exact ⟨rfl, rfl⟩
  · obtain ⟨c0, c1⟩ := hk.objs
    clear hk
    go_enter Try.func44, Try.ntmps44
    go_wp2_with fail
    go_ret
    exact ⟨rfl, rfl⟩
theorem has_any (v : Value) (l : List Nd) (n : Int) (w : World) (h : KV w v l) : Calls Try.prog 34 #[v, .int .i64 n] w fun e w' => e = .returned (.bool (inB l n)) ∧ w' = w := by
  have HL := Lib.hid (len_any v l w h)
  clear h
  unfold inB
  by_cases h0 : 0 ≤ n
  · go_enter Try.func34, Try.ntmps34
    go_wp2_with (go_at_call 44; refine HL.out.mono ?_; clear HL; rintro e w1 ⟨rfl, rfl⟩)
    go_ret
    exact ⟨by simp [h0], rfl⟩
  · go_enter Try.func34, Try.ntmps34
    go_wp2_with fail
    go_ret
    exact ⟨by simp; omega, rfl⟩
end Go.Proofs.Ytlnnaegmcopiiaa

/- Contracts of the law's own Plain and awake; no conditions beyond those written in each theorem. -/
namespace Go.Proofs.Ytlnnaegmcopiiaa
open Go.ChangeShapes Go.WideShapes Go.ChangeAt Go.RowKit
set_option maxRecDepth 100000
/-- The style that the law calls plain, with k of its four pads laid. -/
def plainK (k : Nat) : Sty := ⟨true, 0, List.replicate 14 ⟨0, 0⟩ ++ (List.replicate k ⟨1, 0⟩ ++ List.replicate (4 - k) ⟨0, 0⟩), [0, 0, 0, 0], false, false, 0, false, 0, 0⟩
theorem plain_full {k : Nat} (h : k ≤ 4) : Full (plainK k) := ⟨by simp [plainK]; omega, rfl⟩
theorem plain_step {k : Nat} (h : k < 4) : ((stl (plainK k)).set (30 + k * 2) (.int .i64 1)).set (30 + k * 2 + 1) (.int .i64 0) = stl (plainK (k + 1)) := by
  match k, h with
  | 0, _ => rfl
  | 1, _ => rfl
  | 2, _ => rfl
  | 3, _ => rfl
theorem Hs.keeps {w w' : World} {X : Nat} {s : Sty} (h : Hs w X s) (e : w'.heap[X]? = w.heap[X]?) : Hs w' X s := e.trans h
theorem zero_lit : (#[.bool false, .int .i64 0, .int .i64 0, .int .i64 0, .int .i64 0, .int .i64 0, .int .i64 0, .int .i64 0, .int .i64 0, .int .i64 0, .int .i64 0, .int .i64 0, .int .i64 0, .int .i64 0, .int .i64 0, .int .i64 0, .int .i64 0, .int .i64 0, .int .i64 0, .int .i64 0, .int .i64 0, .int .i64 0, .int .i64 0, .int .i64 0, .int .i64 0, .int .i64 0, .int .i64 0, .int .i64 0, .int .i64 0, .int .i64 0, .int .i64 0, .int .i64 0, .int .i64 0, .int .i64 0, .int .i64 0, .int .i64 0, .int .i64 0, .int .i64 0, .int .i64 0, .int .i64 0, .int .i64 0, .int .i64 0, .bool false, .bool false, .int .i64 0, .bool false, .int .i64 0, .int .i64 0] : Array Value) = (stl zeroS).toArray := by kernel_rfl
theorem plain_lit : (#[.bool true, .int .i64 0, .int .i64 0, .int .i64 0, .int .i64 0, .int .i64 0, .int .i64 0, .int .i64 0, .int .i64 0, .int .i64 0, .int .i64 0, .int .i64 0, .int .i64 0, .int .i64 0, .int .i64 0, .int .i64 0, .int .i64 0, .int .i64 0, .int .i64 0, .int .i64 0, .int .i64 0, .int .i64 0, .int .i64 0, .int .i64 0, .int .i64 0, .int .i64 0, .int .i64 0, .int .i64 0, .int .i64 0, .int .i64 0, .int .i64 0, .int .i64 0, .int .i64 0, .int .i64 0, .int .i64 0, .int .i64 0, .int .i64 0, .int .i64 0, .int .i64 0, .int .i64 0, .int .i64 0, .int .i64 0, .bool false, .bool false, .int .i64 0, .bool false, .int .i64 0, .int .i64 0] : Array Value) = (stl (plainK 0)).toArray := by kernel_rfl
set_option maxRecDepth 100000 in
set_option maxHeartbeats 4000000 in
theorem plain_any (w : World) : Calls Try.prog 10 #[] w fun e w' => e = .returned (sv (plainK 4)) ∧ Seen w w' := by
  obtain ⟨W, hW⟩ : ∃ W, W = (w.alloc (.cells (stl zeroS).toArray 39)).alloc (.cells (stl zeroS).toArray 39) := ⟨_, rfl⟩
  have HZ : Hid (Hs W w.heap.size zeroS) := by rw [hW]; exact (hs_new w zeroS).seen ((Seen.refl _).alloc _)
  have HP : Hid (Hs W (w.heap.size + 1) zeroS) := by
    unfold Hid
    rw [hW]
    have := hs_new (w.alloc (.cells (stl zeroS).toArray 39)) zeroS
    simpa using this
  have SW : Hid (Seen w W) := by rw [hW]; exact ((Seen.refl w).alloc _).alloc _
  go_enter Try.func10, Try.ntmps10
  go_wp2_with (rw [plain_lit, zero_lit, ← hW]; refine wpList_storeS rfl _ _ rfl (w.heap.size + 1) zeroS (plainK 0) rfl rfl (plain_full (by omega)) zero_full HP.out ?_; intro w1 hs1 ht1; have R1 := Lib.hid (And.intro hs1 ht1); clear hs1 ht1 hW)
  go_loopw [4] (fun i wr => ∃ k : Nat, k ≤ 4 ∧ i = .int .i64 k ∧ Hs wr w.heap.size zeroS ∧ Hs wr (w.heap.size + 1) (plainK k) ∧ Seen w wr) (fun i _ => 4 - (intOf i).toNat)
  case atStart =>
    exact ⟨0, Nat.zero_le _, rfl, HZ.out.keeps (R1.out.2.block _ HZ.out.lt (by omega)), R1.out.1, SW.out.turns R1.out.2 (by omega)⟩
  case round =>
    obtain ⟨k, hk, rfl, h1, h2, h3⟩ := hrel
    have H1 := Lib.hid h1
    have H2 := Lib.hid h2
    have H3 := Lib.hid h3
    clear h1 h2 h3
    by_cases hlt : k < 4
    · have hk' : (k : Int) < 4 := by omega
      obtain ⟨c0, c1⟩ := H2.out.two (plain_full hk) (i := 14 + k) (by omega)
      rw [show 2 + (14 + k) * 2 = 30 + k * 2 by omega] at c0 c1
      have f0 := H2.out.free (30 + k * 2)
      have f1 := H2.out.free (30 + k * 2 + 1)
      go_wp2_with fail
      refine ⟨⟨k + 1, hlt, by go_num, H1.out.keeps ?_, ?_, ?_⟩, by simp [intOf]; omega⟩
      · rw [Below.heap_setCell _ ⟨w.heap.size + 1, 30 + k * 2 + 1, none⟩ _ _ (by show w.heap.size ≠ w.heap.size + 1; omega), Below.heap_setCell _ ⟨w.heap.size + 1, 30 + k * 2, none⟩ _ _ (by show w.heap.size ≠ w.heap.size + 1; omega)]
      · exact Hs.set (Hs.set H2.out _ _ rfl) _ _ (plain_step hlt)
      · exact (H3.out.turns (Turns.set _ _ _ _) (by omega)).turns (Turns.set _ _ _ _) (by omega)
    · have hk' : ¬ (k : Int) < 4 := by omega
      obtain rfl : k = 4 := by omega
      go_wp2_with (first
        | refine wpList_loadS rfl _ rfl (w.heap.size + 1) (plainK 4) rfl (plain_full hk) H2.out ?_
        | (refine wpList_storeS rfl _ _ rfl w.heap.size zeroS (plainK 4) rfl rfl (plain_full hk) zero_full H1.out ?_; intro w2 hs2 ht2; have R2 := Lib.hid (And.intro hs2 ht2); clear hs2 ht2))
      refine bodyPost_ret (results_cell Try.results10 rfl (run_loadS R2.out.1 (plain_full hk))) rfl ?_
      exact ⟨rfl, H3.out.turns R2.out.2 (Nat.le_refl _)⟩
theorem plain_formed : formedB (plainK 4) = true := decide_eq_true (by unfold FormedP; exact ⟨by decide, by decide, by decide, by decide, by decide⟩)
theorem plain_within : withinB (plainK 4) = true := decide_eq_true (by unfold WithinP; exact ⟨by decide, by decide, by decide⟩)
theorem zero_unformed : formedB zeroS = false := decide_eq_false fun h => (h.2.2.1 0 (by omega)).1 (by decide)
end Go.Proofs.Ytlnnaegmcopiiaa
