/- The law's own asked: what it holds, and what its solve does; no conditions beyond those written in each theorem. -/
import Derived.Test.YtodkkjpeonibnaaAsk
namespace Go.Proofs.Ytodkkjpeonibnaa
open Go.ChangeShapes Go.WideShapes Go.ChangeAt Go.RowKit
set_option maxRecDepth 100000
def flatZ (l : List Sz) : List Value := l.flatMap szl
theorem flatZ_append (l m : List Sz) : flatZ (l ++ m) = flatZ l ++ flatZ m := List.flatMap_append
theorem flatZ_length (l : List Sz) : (flatZ l).length = l.length * 2 := by
  induction l with
  | nil => rfl
  | cons a l ih => simp only [flatZ, List.flatMap_cons, List.length_append, List.length_cons] at ih ⊢; rw [ih]; simp [szl]; omega
theorem flatZ_one (l : List Sz) : ∀ u ∈ flatZ l, u.oneCell' = true := by
  intro u hu
  obtain ⟨s, _, hs⟩ := List.mem_flatMap.1 hu
  simp [szl] at hs
  rcases hs with rfl | rfl <;> rfl
theorem new_rowZ (w : World) (s : Sz) (t : TypeId) : (w.alloc (.cells #[.bool s.au, .int .i64 s.n] t)).ownsRow 0 t 2 (.slice (some ⟨w.heap.size, 0, none⟩) 1 1) 1 (flatZ [s]) :=
  ⟨rfl, .inr ⟨w.heap.size, 1, #[.bool s.au, .int .i64 s.n], rfl, Nat.zero_le _, World.alloc_heap_new w _, Nat.le_refl _, by unfold maxLen; omega, rfl, rfl⟩⟩
theorem info23 : (Try.prog.info? 23).map (fun i => (i.zero, i.size, i.bytes)) = some (some (.agg #[.bool false, .int .i64 0]), 2, 16) := by kernel_rfl
/-- The block B is an asked: its answers, where it fails, what it was asked for. -/
structure AS (w : World) (B : Nat) (a0 a1 a2 f : Int) (l : List Sz) : Prop where
  has : ∃ sv, Blk w B [.int .i64 a0, .int .i64 a1, .int .i64 a2, .int .i64 f, sv] 29 ∧ w.ownsRow (B + 1) 23 2 sv l.length (flatZ l)
theorem AS.seen {w w' : World} {B : Nat} {a0 a1 a2 f : Int} {l : List Sz} (h : AS w B a0 a1 a2 f l) (hs : Seen w w') : AS w' B a0 a1 a2 f l := by
  obtain ⟨sv, h1, h2⟩ := h
  exact ⟨sv, h1.seen hs, row_seen h2 hs⟩
theorem row_after {w1 : World} {base : Nat} {e : TypeId} {size : Nat} {v : Value} {n : Nat} {xs : List Value} (h : w1.ownsRow base e size v n xs) {B : Nat} (hB : B < base) (o : Nat) (u : Value) : (w1.setCell ⟨B, o, none⟩ u).ownsRow base e size v n xs :=
  ownsRow_keeps h (fun g hg => Below.heap_setCell w1 _ _ g (fun e => by have := (h.lt g hg).1; simp at e; omega))
/-- Behind 'a.l = append(a.l, s)'. -/
theorem asked_step {W w1 : World} {B : Nat} {a0 a1 a2 f : Int} {l : List Sz} {sv v' : Value} {tmp : Obj} {s : Sz} (hB : Blk W B [.int .i64 a0, .int .i64 a1, .int .i64 a2, .int .i64 f, sv] 29) (hR : W.ownsRow (B + 1) 23 2 sv l.length (flatZ l))
    (hown' : w1.ownsRow (B + 1) 23 2 v' (l.length + 1) (flatZ l ++ flatZ [s])) (hgrow : (W.alloc tmp).grownBy w1 sv.ownBlock) :
    Blk w1 B [.int .i64 a0, .int .i64 a1, .int .i64 a2, .int .i64 f, sv] 29 ∧ Blk (w1.setCell ⟨B, 4, none⟩ v') B [.int .i64 a0, .int .i64 a1, .int .i64 a2, .int .i64 f, v'] 29 ∧ AS (w1.setCell ⟨B, 4, none⟩ v') B a0 a1 a2 f (l ++ [s]) ∧ Below B W (w1.setCell ⟨B, 4, none⟩ v') := by
  have h1 : Blk w1 B [.int .i64 a0, .int .i64 a1, .int .i64 a2, .int .i64 f, sv] 29 := by
    have h2 := (hB.alloc tmp)
    exact (hgrow.block B h2.lt (fun e => by have := (hR.lt B e.symm).1; omega)).trans h2
  have hlt := hB.lt
  refine ⟨h1, h1.set 4 v', ⟨v', h1.set 4 v', ?_⟩, ?_⟩
  · rw [flatZ_append, List.length_append]
    exact row_after hown' (Nat.lt_succ_self B) 4 v'
  · exact ((((Below.refl B W).alloc (by omega) tmp).grown hgrow (by simp; omega) (fun g hg => by have := (hR.lt g hg).1; omega)).setCell (by simp) _)
/-- The answer number k. -/
def ansAt (a0 a1 a2 : Int) (k : Nat) : Int := if k = 0 then a0 else if k = 1 then a1 else a2
set_option maxHeartbeats 2000000 in
theorem asked_no0 (B : Nat) (a0 a1 a2 f : Int) (l : List Sz) (b : Bool) (n : Int) (w : World) (h : AS w B a0 a1 a2 f l) (hl : l.length = 0) (hf : f < 1) :
    Calls Try.prog 8 #[.pointer (some ⟨B, 0, none⟩), .agg #[.bool b, .int .i64 n]] w fun e w' => e = .returned (.tuple #[.int .i64 (-1), .int .i64 0, .bool false]) ∧ AS w' B a0 a1 a2 f (l ++ [⟨b, n⟩]) ∧ Below B w w' := by
  obtain ⟨sv, hB, hR⟩ := h
  obtain ⟨i0, hi, hz0, hz1, hz2⟩ := info_parts info23
  obtain ⟨W, hW⟩ : ∃ W, W = w.alloc (.cells #[.bool b, .int .i64 n] 23) := ⟨_, rfl⟩
  have kW : Blk W w.heap.size [.bool b, .int .i64 n] 23 := by rw [hW]; exact Blk.new w _ _
  have sW : Seen w W := by rw [hW]; exact (Seen.refl w).alloc _
  have HB := Lib.hid (hB.seen sW)
  have HR := Lib.hid (row_seen hR sW)
  have bW : Hid (Below B w W) := (by rw [hW]; exact (Below.refl B w).alloc (Nat.le_of_lt hB.lt) _ : Below B w W)
  have hlt := hB.lt
  have hWs : W.heap.size = w.heap.size + 1 := by rw [hW]; simp
  clear hB hR
  have HWs := Lib.hid hWs
  clear hWs
  have cb0 := kW.cell 0
  have cb1 := kW.cell 1
  have c4 := HB.out.cell 4
  have ca : ∀ o, (W.alloc o).cell? ⟨B, 4, none⟩ = some sv := fun o => (HB.out.alloc o).cell 4
  have cfz : ∀ o, (W.alloc o).frozen? ⟨B, 4, none⟩ = false := fun o => (HB.out.alloc o).free 4
  go_enter Try.func8, Try.ntmps8
  go_wp2_with fail
  rw [← hW]
  clear hW
  go_region_law
    ((refine step_append_rows _ rfl (.tmp 12) (.tmp 14) 27 rfl 23 i0 (.agg #[.bool false, .int .i64 0]) 2 16 Try.underlying27 hi hz0 hz1 hz2 rfl (by decide) (B + 1) 0 sv _ _ rfl (HR.out.alloc _).drew (.slice (some ⟨W.heap.size, 0, none⟩) 1 1) 1 (flatZ [⟨b, n⟩]) rfl (new_rowZ W ⟨b, n⟩ 23).drew (flatZ_one _) (by unfold maxLen; omega) (by omega) (by have := HWs.out; simp; omega) ?_; intro v' w1 hown' hgrow hat; obtain ⟨g', cap', rfl⟩ := ownsRow_succ hown'; obtain ⟨hv1, hv2, hr2, hbl⟩ := asked_step (W := W.drew) HB.out HR.out hown' hgrow; have d4 := hv1.cell 4; have d4f := hv1.free 4; have HV2 := Lib.hid (And.intro hv2 (And.intro hr2 hbl)); clear hv1 hv2 hr2 hbl hgrow hown' hat))
  all_goals
    obtain ⟨V, hV⟩ : ∃ V, V = w1.setCell ⟨B, 4, none⟩ (.slice (some ⟨g', 0, none⟩) 1 cap') := ⟨_, rfl⟩
    have H2 : Blk V B [.int .i64 a0, .int .i64 a1, .int .i64 a2, .int .i64 f, .slice (some ⟨g', 0, none⟩) 1 cap'] 29 ∧ AS V B a0 a1 a2 f (l ++ [⟨b, n⟩]) ∧ Below B W.drew V := by rw [hV]; simpa [hl] using HV2.out
    rw [← hV]
    clear hV HV2 d4 d4f ca cfz cb0 cb1 c4 kW
    obtain ⟨hv2, hr2, hbl⟩ := H2
    have hBV := hv2.lt
    have e0 := hv2.cell 0
    have e1 := hv2.cell 1
    have e2 := hv2.cell 2
    have e3 := hv2.cell 3
    have e4 := hv2.cell 4
    have HE := Lib.hid (And.intro hr2 (bW.out.drew.trans hbl))
    clear hv2 hr2 hbl
    go_wp2_with fail
    go_returns
    exact ⟨rfl, HE.out.1, HE.out.2⟩
set_option maxHeartbeats 2000000 in
theorem asked_yes0 (B : Nat) (a0 a1 a2 f : Int) (l : List Sz) (b : Bool) (n : Int) (w : World) (h : AS w B a0 a1 a2 f l) (hl : l.length = 0) (hf : ¬ f < 1) :
    Calls Try.prog 8 #[.pointer (some ⟨B, 0, none⟩), .agg #[.bool b, .int .i64 n]] w fun e w' => e = .returned (.tuple #[.int .i64 1, .int .i64 a0, .bool true]) ∧ AS w' B a0 a1 a2 f (l ++ [⟨b, n⟩]) ∧ Below B w w' := by
  obtain ⟨sv, hB, hR⟩ := h
  obtain ⟨i0, hi, hz0, hz1, hz2⟩ := info_parts info23
  obtain ⟨W, hW⟩ : ∃ W, W = w.alloc (.cells #[.bool b, .int .i64 n] 23) := ⟨_, rfl⟩
  have kW : Blk W w.heap.size [.bool b, .int .i64 n] 23 := by rw [hW]; exact Blk.new w _ _
  have sW : Seen w W := by rw [hW]; exact (Seen.refl w).alloc _
  have HB := Lib.hid (hB.seen sW)
  have HR := Lib.hid (row_seen hR sW)
  have bW : Hid (Below B w W) := (by rw [hW]; exact (Below.refl B w).alloc (Nat.le_of_lt hB.lt) _ : Below B w W)
  have hlt := hB.lt
  have hWs : W.heap.size = w.heap.size + 1 := by rw [hW]; simp
  clear hB hR
  have HWs := Lib.hid hWs
  clear hWs
  have cb0 := kW.cell 0
  have cb1 := kW.cell 1
  have c4 := HB.out.cell 4
  have ca : ∀ o, (W.alloc o).cell? ⟨B, 4, none⟩ = some sv := fun o => (HB.out.alloc o).cell 4
  have cfz : ∀ o, (W.alloc o).frozen? ⟨B, 4, none⟩ = false := fun o => (HB.out.alloc o).free 4
  go_enter Try.func8, Try.ntmps8
  go_wp2_with fail
  rw [← hW]
  clear hW
  go_region_law
    ((refine step_append_rows _ rfl (.tmp 12) (.tmp 14) 27 rfl 23 i0 (.agg #[.bool false, .int .i64 0]) 2 16 Try.underlying27 hi hz0 hz1 hz2 rfl (by decide) (B + 1) 0 sv _ _ rfl (HR.out.alloc _).drew (.slice (some ⟨W.heap.size, 0, none⟩) 1 1) 1 (flatZ [⟨b, n⟩]) rfl (new_rowZ W ⟨b, n⟩ 23).drew (flatZ_one _) (by unfold maxLen; omega) (by omega) (by have := HWs.out; simp; omega) ?_; intro v' w1 hown' hgrow hat; obtain ⟨g', cap', rfl⟩ := ownsRow_succ hown'; obtain ⟨hv1, hv2, hr2, hbl⟩ := asked_step (W := W.drew) HB.out HR.out hown' hgrow; have d4 := hv1.cell 4; have d4f := hv1.free 4; have HV2 := Lib.hid (And.intro hv2 (And.intro hr2 hbl)); clear hv1 hv2 hr2 hbl hgrow hown' hat))
  all_goals
    obtain ⟨V, hV⟩ : ∃ V, V = w1.setCell ⟨B, 4, none⟩ (.slice (some ⟨g', 0, none⟩) 1 cap') := ⟨_, rfl⟩
    have H2 : Blk V B [.int .i64 a0, .int .i64 a1, .int .i64 a2, .int .i64 f, .slice (some ⟨g', 0, none⟩) 1 cap'] 29 ∧ AS V B a0 a1 a2 f (l ++ [⟨b, n⟩]) ∧ Below B W.drew V := by rw [hV]; simpa [hl] using HV2.out
    rw [← hV]
    clear hV HV2 d4 d4f ca cfz cb0 cb1 c4 kW
    obtain ⟨hv2, hr2, hbl⟩ := H2
    have hBV := hv2.lt
    have e0 := hv2.cell 0
    have e1 := hv2.cell 1
    have e2 := hv2.cell 2
    have e3 := hv2.cell 3
    have e4 := hv2.cell 4
    have HE := Lib.hid (And.intro hr2 (bW.out.drew.trans hbl))
    clear hv2 hr2 hbl
    go_wp2_with fail
    go_quiet (fail)
    go_wp2_with fail
    go_returns
    exact ⟨rfl, HE.out.1.seen (Go.Joins.below_draws _ _ _), HE.out.2.trans ((Go.Joins.below_draws _ _ _).mono (Nat.le_of_lt hBV))⟩
set_option maxHeartbeats 2000000 in
theorem asked_no1 (B : Nat) (a0 a1 a2 f : Int) (l : List Sz) (b : Bool) (n : Int) (w : World) (h : AS w B a0 a1 a2 f l) (hl : l.length = 1) (hf : f < 2) :
    Calls Try.prog 8 #[.pointer (some ⟨B, 0, none⟩), .agg #[.bool b, .int .i64 n]] w fun e w' => e = .returned (.tuple #[.int .i64 (-1), .int .i64 0, .bool false]) ∧ AS w' B a0 a1 a2 f (l ++ [⟨b, n⟩]) ∧ Below B w w' := by
  obtain ⟨sv, hB, hR⟩ := h
  obtain ⟨i0, hi, hz0, hz1, hz2⟩ := info_parts info23
  obtain ⟨W, hW⟩ : ∃ W, W = w.alloc (.cells #[.bool b, .int .i64 n] 23) := ⟨_, rfl⟩
  have kW : Blk W w.heap.size [.bool b, .int .i64 n] 23 := by rw [hW]; exact Blk.new w _ _
  have sW : Seen w W := by rw [hW]; exact (Seen.refl w).alloc _
  have HB := Lib.hid (hB.seen sW)
  have HR := Lib.hid (row_seen hR sW)
  have bW : Hid (Below B w W) := (by rw [hW]; exact (Below.refl B w).alloc (Nat.le_of_lt hB.lt) _ : Below B w W)
  have hlt := hB.lt
  have hWs : W.heap.size = w.heap.size + 1 := by rw [hW]; simp
  clear hB hR
  have HWs := Lib.hid hWs
  clear hWs
  have cb0 := kW.cell 0
  have cb1 := kW.cell 1
  have c4 := HB.out.cell 4
  have ca : ∀ o, (W.alloc o).cell? ⟨B, 4, none⟩ = some sv := fun o => (HB.out.alloc o).cell 4
  have cfz : ∀ o, (W.alloc o).frozen? ⟨B, 4, none⟩ = false := fun o => (HB.out.alloc o).free 4
  go_enter Try.func8, Try.ntmps8
  go_wp2_with fail
  rw [← hW]
  clear hW
  go_region_law
    ((refine step_append_rows _ rfl (.tmp 12) (.tmp 14) 27 rfl 23 i0 (.agg #[.bool false, .int .i64 0]) 2 16 Try.underlying27 hi hz0 hz1 hz2 rfl (by decide) (B + 1) 0 sv _ _ rfl (HR.out.alloc _).drew (.slice (some ⟨W.heap.size, 0, none⟩) 1 1) 1 (flatZ [⟨b, n⟩]) rfl (new_rowZ W ⟨b, n⟩ 23).drew (flatZ_one _) (by unfold maxLen; omega) (by omega) (by have := HWs.out; simp; omega) ?_; intro v' w1 hown' hgrow hat; obtain ⟨g', cap', rfl⟩ := ownsRow_succ hown'; obtain ⟨hv1, hv2, hr2, hbl⟩ := asked_step (W := W.drew) HB.out HR.out hown' hgrow; have d4 := hv1.cell 4; have d4f := hv1.free 4; have HV2 := Lib.hid (And.intro hv2 (And.intro hr2 hbl)); clear hv1 hv2 hr2 hbl hgrow hown' hat))
  all_goals
    obtain ⟨V, hV⟩ : ∃ V, V = w1.setCell ⟨B, 4, none⟩ (.slice (some ⟨g', 0, none⟩) 2 cap') := ⟨_, rfl⟩
    have H2 : Blk V B [.int .i64 a0, .int .i64 a1, .int .i64 a2, .int .i64 f, .slice (some ⟨g', 0, none⟩) 2 cap'] 29 ∧ AS V B a0 a1 a2 f (l ++ [⟨b, n⟩]) ∧ Below B W.drew V := by rw [hV]; simpa [hl] using HV2.out
    rw [← hV]
    clear hV HV2 d4 d4f ca cfz cb0 cb1 c4 kW
    obtain ⟨hv2, hr2, hbl⟩ := H2
    have hBV := hv2.lt
    have e0 := hv2.cell 0
    have e1 := hv2.cell 1
    have e2 := hv2.cell 2
    have e3 := hv2.cell 3
    have e4 := hv2.cell 4
    have HE := Lib.hid (And.intro hr2 (bW.out.drew.trans hbl))
    clear hv2 hr2 hbl
    go_wp2_with fail
    go_returns
    exact ⟨rfl, HE.out.1, HE.out.2⟩
set_option maxHeartbeats 2000000 in
theorem asked_yes1 (B : Nat) (a0 a1 a2 f : Int) (l : List Sz) (b : Bool) (n : Int) (w : World) (h : AS w B a0 a1 a2 f l) (hl : l.length = 1) (hf : ¬ f < 2) :
    Calls Try.prog 8 #[.pointer (some ⟨B, 0, none⟩), .agg #[.bool b, .int .i64 n]] w fun e w' => e = .returned (.tuple #[.int .i64 2, .int .i64 a1, .bool true]) ∧ AS w' B a0 a1 a2 f (l ++ [⟨b, n⟩]) ∧ Below B w w' := by
  obtain ⟨sv, hB, hR⟩ := h
  obtain ⟨i0, hi, hz0, hz1, hz2⟩ := info_parts info23
  obtain ⟨W, hW⟩ : ∃ W, W = w.alloc (.cells #[.bool b, .int .i64 n] 23) := ⟨_, rfl⟩
  have kW : Blk W w.heap.size [.bool b, .int .i64 n] 23 := by rw [hW]; exact Blk.new w _ _
  have sW : Seen w W := by rw [hW]; exact (Seen.refl w).alloc _
  have HB := Lib.hid (hB.seen sW)
  have HR := Lib.hid (row_seen hR sW)
  have bW : Hid (Below B w W) := (by rw [hW]; exact (Below.refl B w).alloc (Nat.le_of_lt hB.lt) _ : Below B w W)
  have hlt := hB.lt
  have hWs : W.heap.size = w.heap.size + 1 := by rw [hW]; simp
  clear hB hR
  have HWs := Lib.hid hWs
  clear hWs
  have cb0 := kW.cell 0
  have cb1 := kW.cell 1
  have c4 := HB.out.cell 4
  have ca : ∀ o, (W.alloc o).cell? ⟨B, 4, none⟩ = some sv := fun o => (HB.out.alloc o).cell 4
  have cfz : ∀ o, (W.alloc o).frozen? ⟨B, 4, none⟩ = false := fun o => (HB.out.alloc o).free 4
  go_enter Try.func8, Try.ntmps8
  go_wp2_with fail
  rw [← hW]
  clear hW
  go_region_law
    ((refine step_append_rows _ rfl (.tmp 12) (.tmp 14) 27 rfl 23 i0 (.agg #[.bool false, .int .i64 0]) 2 16 Try.underlying27 hi hz0 hz1 hz2 rfl (by decide) (B + 1) 0 sv _ _ rfl (HR.out.alloc _).drew (.slice (some ⟨W.heap.size, 0, none⟩) 1 1) 1 (flatZ [⟨b, n⟩]) rfl (new_rowZ W ⟨b, n⟩ 23).drew (flatZ_one _) (by unfold maxLen; omega) (by omega) (by have := HWs.out; simp; omega) ?_; intro v' w1 hown' hgrow hat; obtain ⟨g', cap', rfl⟩ := ownsRow_succ hown'; obtain ⟨hv1, hv2, hr2, hbl⟩ := asked_step (W := W.drew) HB.out HR.out hown' hgrow; have d4 := hv1.cell 4; have d4f := hv1.free 4; have HV2 := Lib.hid (And.intro hv2 (And.intro hr2 hbl)); clear hv1 hv2 hr2 hbl hgrow hown' hat))
  all_goals
    obtain ⟨V, hV⟩ : ∃ V, V = w1.setCell ⟨B, 4, none⟩ (.slice (some ⟨g', 0, none⟩) 2 cap') := ⟨_, rfl⟩
    have H2 : Blk V B [.int .i64 a0, .int .i64 a1, .int .i64 a2, .int .i64 f, .slice (some ⟨g', 0, none⟩) 2 cap'] 29 ∧ AS V B a0 a1 a2 f (l ++ [⟨b, n⟩]) ∧ Below B W.drew V := by rw [hV]; simpa [hl] using HV2.out
    rw [← hV]
    clear hV HV2 d4 d4f ca cfz cb0 cb1 c4 kW
    obtain ⟨hv2, hr2, hbl⟩ := H2
    have hBV := hv2.lt
    have e0 := hv2.cell 0
    have e1 := hv2.cell 1
    have e2 := hv2.cell 2
    have e3 := hv2.cell 3
    have e4 := hv2.cell 4
    have HE := Lib.hid (And.intro hr2 (bW.out.drew.trans hbl))
    clear hv2 hr2 hbl
    go_wp2_with fail
    go_quiet (fail)
    go_wp2_with fail
    go_returns
    exact ⟨rfl, HE.out.1.seen (Go.Joins.below_draws _ _ _), HE.out.2.trans ((Go.Joins.below_draws _ _ _).mono (Nat.le_of_lt hBV))⟩
set_option maxHeartbeats 2000000 in
theorem asked_no2 (B : Nat) (a0 a1 a2 f : Int) (l : List Sz) (b : Bool) (n : Int) (w : World) (h : AS w B a0 a1 a2 f l) (hl : l.length = 2) (hf : f < 3) :
    Calls Try.prog 8 #[.pointer (some ⟨B, 0, none⟩), .agg #[.bool b, .int .i64 n]] w fun e w' => e = .returned (.tuple #[.int .i64 (-1), .int .i64 0, .bool false]) ∧ AS w' B a0 a1 a2 f (l ++ [⟨b, n⟩]) ∧ Below B w w' := by
  obtain ⟨sv, hB, hR⟩ := h
  obtain ⟨i0, hi, hz0, hz1, hz2⟩ := info_parts info23
  obtain ⟨W, hW⟩ : ∃ W, W = w.alloc (.cells #[.bool b, .int .i64 n] 23) := ⟨_, rfl⟩
  have kW : Blk W w.heap.size [.bool b, .int .i64 n] 23 := by rw [hW]; exact Blk.new w _ _
  have sW : Seen w W := by rw [hW]; exact (Seen.refl w).alloc _
  have HB := Lib.hid (hB.seen sW)
  have HR := Lib.hid (row_seen hR sW)
  have bW : Hid (Below B w W) := (by rw [hW]; exact (Below.refl B w).alloc (Nat.le_of_lt hB.lt) _ : Below B w W)
  have hlt := hB.lt
  have hWs : W.heap.size = w.heap.size + 1 := by rw [hW]; simp
  clear hB hR
  have HWs := Lib.hid hWs
  clear hWs
  have cb0 := kW.cell 0
  have cb1 := kW.cell 1
  have c4 := HB.out.cell 4
  have ca : ∀ o, (W.alloc o).cell? ⟨B, 4, none⟩ = some sv := fun o => (HB.out.alloc o).cell 4
  have cfz : ∀ o, (W.alloc o).frozen? ⟨B, 4, none⟩ = false := fun o => (HB.out.alloc o).free 4
  go_enter Try.func8, Try.ntmps8
  go_wp2_with fail
  rw [← hW]
  clear hW
  go_region_law
    ((refine step_append_rows _ rfl (.tmp 12) (.tmp 14) 27 rfl 23 i0 (.agg #[.bool false, .int .i64 0]) 2 16 Try.underlying27 hi hz0 hz1 hz2 rfl (by decide) (B + 1) 0 sv _ _ rfl (HR.out.alloc _).drew (.slice (some ⟨W.heap.size, 0, none⟩) 1 1) 1 (flatZ [⟨b, n⟩]) rfl (new_rowZ W ⟨b, n⟩ 23).drew (flatZ_one _) (by unfold maxLen; omega) (by omega) (by have := HWs.out; simp; omega) ?_; intro v' w1 hown' hgrow hat; obtain ⟨g', cap', rfl⟩ := ownsRow_succ hown'; obtain ⟨hv1, hv2, hr2, hbl⟩ := asked_step (W := W.drew) HB.out HR.out hown' hgrow; have d4 := hv1.cell 4; have d4f := hv1.free 4; have HV2 := Lib.hid (And.intro hv2 (And.intro hr2 hbl)); clear hv1 hv2 hr2 hbl hgrow hown' hat))
  all_goals
    obtain ⟨V, hV⟩ : ∃ V, V = w1.setCell ⟨B, 4, none⟩ (.slice (some ⟨g', 0, none⟩) 3 cap') := ⟨_, rfl⟩
    have H2 : Blk V B [.int .i64 a0, .int .i64 a1, .int .i64 a2, .int .i64 f, .slice (some ⟨g', 0, none⟩) 3 cap'] 29 ∧ AS V B a0 a1 a2 f (l ++ [⟨b, n⟩]) ∧ Below B W.drew V := by rw [hV]; simpa [hl] using HV2.out
    rw [← hV]
    clear hV HV2 d4 d4f ca cfz cb0 cb1 c4 kW
    obtain ⟨hv2, hr2, hbl⟩ := H2
    have hBV := hv2.lt
    have e0 := hv2.cell 0
    have e1 := hv2.cell 1
    have e2 := hv2.cell 2
    have e3 := hv2.cell 3
    have e4 := hv2.cell 4
    have HE := Lib.hid (And.intro hr2 (bW.out.drew.trans hbl))
    clear hv2 hr2 hbl
    go_wp2_with fail
    go_returns
    exact ⟨rfl, HE.out.1, HE.out.2⟩
set_option maxHeartbeats 2000000 in
theorem asked_yes2 (B : Nat) (a0 a1 a2 f : Int) (l : List Sz) (b : Bool) (n : Int) (w : World) (h : AS w B a0 a1 a2 f l) (hl : l.length = 2) (hf : ¬ f < 3) :
    Calls Try.prog 8 #[.pointer (some ⟨B, 0, none⟩), .agg #[.bool b, .int .i64 n]] w fun e w' => e = .returned (.tuple #[.int .i64 3, .int .i64 a2, .bool true]) ∧ AS w' B a0 a1 a2 f (l ++ [⟨b, n⟩]) ∧ Below B w w' := by
  obtain ⟨sv, hB, hR⟩ := h
  obtain ⟨i0, hi, hz0, hz1, hz2⟩ := info_parts info23
  obtain ⟨W, hW⟩ : ∃ W, W = w.alloc (.cells #[.bool b, .int .i64 n] 23) := ⟨_, rfl⟩
  have kW : Blk W w.heap.size [.bool b, .int .i64 n] 23 := by rw [hW]; exact Blk.new w _ _
  have sW : Seen w W := by rw [hW]; exact (Seen.refl w).alloc _
  have HB := Lib.hid (hB.seen sW)
  have HR := Lib.hid (row_seen hR sW)
  have bW : Hid (Below B w W) := (by rw [hW]; exact (Below.refl B w).alloc (Nat.le_of_lt hB.lt) _ : Below B w W)
  have hlt := hB.lt
  have hWs : W.heap.size = w.heap.size + 1 := by rw [hW]; simp
  clear hB hR
  have HWs := Lib.hid hWs
  clear hWs
  have cb0 := kW.cell 0
  have cb1 := kW.cell 1
  have c4 := HB.out.cell 4
  have ca : ∀ o, (W.alloc o).cell? ⟨B, 4, none⟩ = some sv := fun o => (HB.out.alloc o).cell 4
  have cfz : ∀ o, (W.alloc o).frozen? ⟨B, 4, none⟩ = false := fun o => (HB.out.alloc o).free 4
  go_enter Try.func8, Try.ntmps8
  go_wp2_with fail
  rw [← hW]
  clear hW
  go_region_law
    ((refine step_append_rows _ rfl (.tmp 12) (.tmp 14) 27 rfl 23 i0 (.agg #[.bool false, .int .i64 0]) 2 16 Try.underlying27 hi hz0 hz1 hz2 rfl (by decide) (B + 1) 0 sv _ _ rfl (HR.out.alloc _).drew (.slice (some ⟨W.heap.size, 0, none⟩) 1 1) 1 (flatZ [⟨b, n⟩]) rfl (new_rowZ W ⟨b, n⟩ 23).drew (flatZ_one _) (by unfold maxLen; omega) (by omega) (by have := HWs.out; simp; omega) ?_; intro v' w1 hown' hgrow hat; obtain ⟨g', cap', rfl⟩ := ownsRow_succ hown'; obtain ⟨hv1, hv2, hr2, hbl⟩ := asked_step (W := W.drew) HB.out HR.out hown' hgrow; have d4 := hv1.cell 4; have d4f := hv1.free 4; have HV2 := Lib.hid (And.intro hv2 (And.intro hr2 hbl)); clear hv1 hv2 hr2 hbl hgrow hown' hat))
  all_goals
    obtain ⟨V, hV⟩ : ∃ V, V = w1.setCell ⟨B, 4, none⟩ (.slice (some ⟨g', 0, none⟩) 3 cap') := ⟨_, rfl⟩
    have H2 : Blk V B [.int .i64 a0, .int .i64 a1, .int .i64 a2, .int .i64 f, .slice (some ⟨g', 0, none⟩) 3 cap'] 29 ∧ AS V B a0 a1 a2 f (l ++ [⟨b, n⟩]) ∧ Below B W.drew V := by rw [hV]; simpa [hl] using HV2.out
    rw [← hV]
    clear hV HV2 d4 d4f ca cfz cb0 cb1 c4 kW
    obtain ⟨hv2, hr2, hbl⟩ := H2
    have hBV := hv2.lt
    have e0 := hv2.cell 0
    have e1 := hv2.cell 1
    have e2 := hv2.cell 2
    have e3 := hv2.cell 3
    have e4 := hv2.cell 4
    have HE := Lib.hid (And.intro hr2 (bW.out.drew.trans hbl))
    clear hv2 hr2 hbl
    go_wp2_with fail
    go_quiet (fail)
    go_wp2_with fail
    go_returns
    exact ⟨rfl, HE.out.1.seen (Go.Joins.below_draws _ _ _), HE.out.2.trans ((Go.Joins.below_draws _ _ _).mono (Nat.le_of_lt hBV))⟩
end Go.Proofs.Ytodkkjpeonibnaa
