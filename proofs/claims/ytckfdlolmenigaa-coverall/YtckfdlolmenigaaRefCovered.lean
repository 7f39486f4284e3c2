/- Contract of Covered's reference twin. -/
import Derived.Test.YtckfdlolmenigaaPlaces
import Derived.Test.YtckfdlolmenigaaRefIn
import Derived.Deep.RegionHeld3
namespace Go.Proofs.Ytckfdlolmenigaa
open Go.ChangeShapes Go.WideShapes Go.ChangeAt Go.RowKit
theorem new2 (w : World) (p q : Int) (g : Nat) (hg : g = w.heap.size) : (w.alloc (.cells #[.int .i64 p, .int .i64 q] 2)).ownsRow 0 2 1 (.slice (some ⟨g, 0, none⟩) 2 2) 2 (nums [p, q]) := by
  subst hg
  exact ⟨rfl, .inr ⟨w.heap.size, 2, _, rfl, Nat.zero_le _, World.alloc_heap_new w _, Nat.le_refl _, by decide, rfl, rfl⟩⟩
theorem disj_l {a b : Option Nat} (h : ∀ g, a = some g → b ≠ some g) : a = none ∨ a ≠ b := by
  cases a with
  | none => exact .inl rfl
  | some g => exact .inr (fun e => h g rfl e.symm)
theorem disj_r {a b : Option Nat} (h : ∀ g, a = some g → b ≠ some g) : b = none ∨ b ≠ a := by
  cases b with
  | none => exact .inl rfl
  | some g => exact .inr (fun e => h g e.symm rfl)
theorem fresh_ne {W : World} {base : Nat} {e : TypeId} {size : Nat} {u : Value} {n : Nat} {xs : List Value} {g m c : Nat} (h : W.ownsRow base e size u n xs) (hg : W.heap.size ≤ g) : (Value.slice (some ⟨g, 0, none⟩) m c).ownBlock ≠ u.ownBlock := by
  intro he
  have := (h.lt g he.symm).2
  omega
theorem xs_step {l : List R4} {k : Nat} (h : k < l.length) : xsL (l.take (k + 1)) = xsL (l.take k) ++ [(rat l k).x0, (rat l k).x1] := by
  unfold xsL; rw [List.take_succ_eq_append_getElem h, List.flatMap_append, rat_eq h]; simp
theorem ys_step {l : List R4} {k : Nat} (h : k < l.length) : ysL (l.take (k + 1)) = ysL (l.take k) ++ [(rat l k).y0, (rat l k).y1] := by
  unfold ysL; rw [List.take_succ_eq_append_getElem h, List.flatMap_append, rat_eq h]; simp
theorem grid_no {r : R4} {rs : List R4} {PX PY : List Int} (he : emptyB r = false) (hx : placesL r.x0 r.x1 (xsL rs) = PX) (hy : placesL r.y0 r.y1 (ysL rs) = PY) {i j : Nat} (hi : i < PX.length) (hj : j < PY.length) (h : inB rs (iat PX i) (iat PY j) = false) : gridB r rs = false := by
  unfold gridB
  rw [he, hx, hy, Bool.false_or]
  cases hb : PX.all fun x => PY.all fun y => inB rs x y with
  | false => rfl
  | true =>
    rw [List.all_eq_true] at hb
    have h1 := hb PX[i] (List.getElem_mem hi)
    rw [List.all_eq_true] at h1
    have h2 := h1 PY[j] (List.getElem_mem hj)
    rw [← iat_eq hi, ← iat_eq hj, h] at h2; cases h2
theorem grid_yes {r : R4} {rs : List R4} {PX PY : List Int} (he : emptyB r = false) (hx : placesL r.x0 r.x1 (xsL rs) = PX) (hy : placesL r.y0 r.y1 (ysL rs) = PY) (h : ∀ i, i < PX.length → ∀ j, j < PY.length → inB rs (iat PX i) (iat PY j) = true) : gridB r rs = true := by
  unfold gridB
  rw [he, hx, hy, Bool.false_or, List.all_eq_true]
  intro x hxm
  rw [List.all_eq_true]
  intro y hym
  obtain ⟨i, hi, rfl⟩ := List.getElem_of_mem hxm
  obtain ⟨j, hj, rfl⟩ := List.getElem_of_mem hym
  rw [← iat_eq hi, ← iat_eq hj]; exact h i hi j hj
/-- Two rows of the call's own, one appended to and then the other one. -/
theorem two_rows {w1 wr A1 wa A2 wb : World} {u1 u2 va vb : Value} {n1 n2 na : Nat} {x1 x2 ya : List Value} (_ : wr.ownsRow w1.heap.size 2 1 u1 n1 x1) (h2 : wr.ownsRow w1.heap.size 2 1 u2 n2 x2) (hd : ∀ g, u1.ownBlock = some g → u2.ownBlock ≠ some g)
    (s1 : Seen wr A1) (ha : wa.ownsRow w1.heap.size 2 1 va na ya) (ga : A1.grownBy wa u1.ownBlock) (ta : va.ownBlock = u1.ownBlock ∨ va.ownBlock = some A1.heap.size)
    (s2 : Seen wa A2) (gb : A2.grownBy wb u2.ownBlock) (tb : vb.ownBlock = u2.ownBlock ∨ vb.ownBlock = some A2.heap.size) :
    wb.ownsRow w1.heap.size 2 1 va na ya ∧ (∀ g, va.ownBlock = some g → vb.ownBlock ≠ some g) := by
  have z1 := s1.size
  have z2 := ga.size
  have z3 := s2.size
  have hne : ∀ g, va.ownBlock = some g → u2.ownBlock ≠ some g := by
    intro g hg he
    rcases ta with t | t
    · exact hd g (t ▸ hg) he
    · rw [t] at hg
      cases hg
      have := (h2.lt _ he).2
      omega
  refine ⟨(row_seen ha s2).kept gb (disj_l hne), fun g hg he => ?_⟩
  rcases tb with t | t
  · exact hne g hg (t ▸ he)
  · rw [t] at he
    cases he
    have := (ha.lt _ hg).2
    omega
set_option maxRecDepth 100000 in
set_option maxHeartbeats 8000000 in
theorem refCovered_any (r : R4) (ad : Option Addr) (n c : Nat) (rs : List R4) (w : World) (h : RS w ad n rs) (hn : n ≤ 1000) :
    Calls Try.prog 15 #[.agg #[.int .i64 r.x0, .int .i64 r.y0, .int .i64 r.x1, .int .i64 r.y1], .slice ad n c] w fun e w' => e = .returned (.bool (gridB r rs)) ∧ Below w.heap.size w w' := by
  have HR := Lib.hid h
  clear h
  cases he : emptyB r with
  | true =>
    have HE := Lib.hid he
    have HG : Hid (gridB r rs = true) := by unfold Hid gridB; rw [he]; rfl
    clear he
    go_enter Try.func15, Try.ntmps15
    go_wp2_with fail
    refine (isB (refEmpty_any r _) HE.out).mono ?_
    rintro e w1 ⟨rfl, h1⟩
    have s1 : Seen w w1 := ((Seen.refl w).alloc _).next h1
    clear h1
    go_wp2_with fail
    go_ret
    exact ⟨ret_bool HG.out.symm, s1⟩
  | false =>
    obtain ⟨i0, hi0, hz0, hz1, hz2⟩ := info_parts info2
    have HE := Lib.hid he
    clear he
    go_enter Try.func15, Try.ntmps15
    go_wp2_with fail
    refine (isB (refEmpty_any r _) HE.out).mono ?_
    rintro e w1 ⟨rfl, h1⟩
    have s1 : Seen w w1 := ((Seen.refl w).alloc _).next h1
    have b1 := Box.rules (Seen.box h1 (box_new w r))
    have sr := Seen.refl w1
    have HR1 := Lib.hid (HR.out.seen s1)
    clear h1
    go_wp2_with fail
    go_loopw [5, 6, 14] (fun vx vy i wr => ∃ k : Nat, k ≤ n ∧ i = .int .i64 k ∧ wr.ownsRow w1.heap.size 2 1 vx (xsL (rs.take k)).length (nums (xsL (rs.take k))) ∧ wr.ownsRow w1.heap.size 2 1 vy (ysL (rs.take k)).length (nums (ysL (rs.take k))) ∧ (∀ g, vx.ownBlock = some g → vy.ownBlock ≠ some g) ∧ Seen w1 wr) (fun _ _ i _ => n - (intOf i).toNat)
    case atStart => exact ⟨0, Nat.zero_le _, rfl, World.ownsRow_nil _ _ _ _, World.ownsRow_nil _ _ _ _, (fun g hg => by cases hg), Seen.refl _⟩
    case round =>
      obtain ⟨k, hk, rfl, hx, hy, hd, hs⟩ := hrel
      have HX := Lib.hid hx
      have HY := Lib.hid hy
      have HD := Lib.hid hd
      clear hx hy hd
      by_cases hlt : k < n
      · obtain ⟨b1', o1, rfl, hc1⟩ := HR1.out.2 (by omega)
        have rk := At4.rules (hc1 k hlt)
        clear hc1 b1
        have hxl : (xsL (rs.take k)).length ≤ 2000 := by rw [xsL_length]; have : (rs.take k).length ≤ k := List.length_take_le _ _; omega
        have hyl : (ysL (rs.take k)).length ≤ 2000 := by rw [ysL_length]; have : (rs.take k).length ≤ k := List.length_take_le _ _; omega
        have hk0 : (0 : Int) ≤ (k : Int) := Int.natCast_nonneg _
        have hk1 : (k : Int) < (n : Int) := by omega
        obtain ⟨q0, q1, q2, q3⟩ := rk wr hs
        go_wp2_with fail
        go_region_held3 (fun w' => w'.cell? ⟨b1', o1 + k * 4, none⟩ = some (.int .i64 (rat rs k).x0) ∧ w'.cell? ⟨b1', o1 + k * 4 + 1, none⟩ = some (.int .i64 (rat rs k).y0) ∧ w'.cell? ⟨b1', o1 + k * 4 + 2, none⟩ = some (.int .i64 (rat rs k).x1) ∧ w'.cell? ⟨b1', o1 + k * 4 + 3, none⟩ = some (.int .i64 (rat rs k).y1))
          (exact rk _ (by (repeat (first | assumption | exact Seen.refl _ | refine Seen.alloc ?_ _ | refine Seen.drew ?_))))
          (first
            | (refine step_append_rows _ rfl (.tmp 17) (.tmp 28) 41 rfl 2 i0 (.int .i64 0) 1 8 Try.underlying41 hi0 hz0 hz1 hz2 rfl (by decide) w1.heap.size 0 u5 _ _ rfl (HX.out.alloc _).drew (.slice (some ⟨wr.heap.size, 0, none⟩) 2 2) 2 (nums [(rat rs k).x0, (rat rs k).x1]) rfl (new2 wr _ _ _ rfl).drew (nums_one _) (by unfold maxLen; omega) (by omega) (Below.size (hs.alloc _).drew) ?_; intro vx wx hownx hgrx hatx; have sx : Seen w1 wx := Below.grown (hs.alloc _).drew hgrx (Below.size (hs.alloc _).drew) (fun j hj => (HX.out.lt j hj).1))
            | (refine step_append_rows _ rfl (.tmp 17) (.tmp 28) 41 rfl 2 i0 (.int .i64 0) 1 8 Try.underlying41 hi0 hz0 hz1 hz2 rfl (by decide) w1.heap.size 0 u5 _ _ rfl ((HX.out.alloc _).alloc _).drew (.slice (some ⟨wr.heap.size, 0, none⟩) 2 2) 2 (nums [(rat rs k).x0, (rat rs k).x1]) rfl ((new2 wr _ _ _ rfl).alloc _).drew (nums_one _) (by unfold maxLen; omega) (by omega) (Below.size ((hs.alloc _).alloc _).drew) ?_; intro vx wx hownx hgrx hatx; have sx : Seen w1 wx := Below.grown ((hs.alloc _).alloc _).drew hgrx (Below.size ((hs.alloc _).alloc _).drew) (fun j hj => (HX.out.lt j hj).1))
            | (refine step_append_rows _ rfl (.tmp 17) (.tmp 28) 41 rfl 2 i0 (.int .i64 0) 1 8 Try.underlying41 hi0 hz0 hz1 hz2 rfl (by decide) w1.heap.size 0 u5 _ _ rfl ((HX.out.alloc _).alloc _).drew (.slice (some ⟨wr.heap.size + 1, 0, none⟩) 2 2) 2 (nums [(rat rs k).x0, (rat rs k).x1]) rfl (new2 (wr.alloc (.cells #[.int .i64 (rat rs k).y0, .int .i64 (rat rs k).y1] 2)) _ _ _ (by simp)).drew (nums_one _) (by unfold maxLen; omega) (by omega) (Below.size ((hs.alloc _).alloc _).drew) ?_; intro vx wx hownx hgrx hatx; have sx : Seen w1 wx := Below.grown ((hs.alloc _).alloc _).drew hgrx (Below.size ((hs.alloc _).alloc _).drew) (fun j hj => (HX.out.lt j hj).1))
            | (refine step_append_rows _ rfl (.tmp 17) (.tmp 28) 41 rfl 2 i0 (.int .i64 0) 1 8 Try.underlying41 hi0 hz0 hz1 hz2 rfl (by decide) w1.heap.size 0 u5 _ _ rfl (World.ownsRow.kept ((HX.out.alloc _).alloc _).drew hgry (disj_l HD.out)) (.slice (some ⟨wr.heap.size, 0, none⟩) 2 2) 2 (nums [(rat rs k).x0, (rat rs k).x1]) rfl (World.ownsRow.kept ((new2 wr _ _ _ rfl).alloc _).drew hgry (.inr (fresh_ne HY.out (by omega)))) (nums_one _) (by unfold maxLen; omega) (by omega) (Below.size sy) ?_; intro vx wx hownx hgrx hatx; have sx : Seen w1 wx := Below.grown sy hgrx (Below.size sy) (fun j hj => (HX.out.lt j hj).1))
            | (refine step_append_rows _ rfl (.tmp 17) (.tmp 28) 41 rfl 2 i0 (.int .i64 0) 1 8 Try.underlying41 hi0 hz0 hz1 hz2 rfl (by decide) w1.heap.size 0 u5 _ _ rfl (World.ownsRow.kept ((HX.out.alloc _).alloc _).drew hgry (disj_l HD.out)) (.slice (some ⟨wr.heap.size + 1, 0, none⟩) 2 2) 2 (nums [(rat rs k).x0, (rat rs k).x1]) rfl (World.ownsRow.kept (new2 (wr.alloc (.cells #[.int .i64 (rat rs k).y0, .int .i64 (rat rs k).y1] 2)) _ _ _ (by simp)).drew hgry (.inr (fresh_ne HY.out (by omega)))) (nums_one _) (by unfold maxLen; omega) (by omega) (Below.size sy) ?_; intro vx wx hownx hgrx hatx; have sx : Seen w1 wx := Below.grown sy hgrx (Below.size sy) (fun j hj => (HX.out.lt j hj).1))
            | (refine step_append_rows _ rfl (.tmp 17) (.tmp 28) 41 rfl 2 i0 (.int .i64 0) 1 8 Try.underlying41 hi0 hz0 hz1 hz2 rfl (by decide) w1.heap.size 0 u5 _ _ rfl (World.ownsRow.alloc (World.ownsRow.kept (HX.out.alloc _).drew hgry (disj_l HD.out)) _) (.slice (some ⟨wy.heap.size, 0, none⟩) 2 2) 2 (nums [(rat rs k).x0, (rat rs k).x1]) rfl (new2 wy _ _ _ rfl) (nums_one _) (by unfold maxLen; omega) (by omega) (Below.size (Seen.alloc sy _)) ?_; intro vx wx hownx hgrx hatx; have sx : Seen w1 wx := Below.grown (Seen.alloc sy _) hgrx (Below.size (Seen.alloc sy _)) (fun j hj => (HX.out.lt j hj).1))
            | (refine step_append_rows _ rfl (.tmp 30) (.tmp 41) 41 rfl 2 i0 (.int .i64 0) 1 8 Try.underlying41 hi0 hz0 hz1 hz2 rfl (by decide) w1.heap.size 0 u6 _ _ rfl (HY.out.alloc _).drew (.slice (some ⟨wr.heap.size, 0, none⟩) 2 2) 2 (nums [(rat rs k).y0, (rat rs k).y1]) rfl (new2 wr _ _ _ rfl).drew (nums_one _) (by unfold maxLen; omega) (by omega) (Below.size (hs.alloc _).drew) ?_; intro vy wy howny hgry haty; have sy : Seen w1 wy := Below.grown (hs.alloc _).drew hgry (Below.size (hs.alloc _).drew) (fun j hj => (HY.out.lt j hj).1))
            | (refine step_append_rows _ rfl (.tmp 30) (.tmp 41) 41 rfl 2 i0 (.int .i64 0) 1 8 Try.underlying41 hi0 hz0 hz1 hz2 rfl (by decide) w1.heap.size 0 u6 _ _ rfl ((HY.out.alloc _).alloc _).drew (.slice (some ⟨wr.heap.size, 0, none⟩) 2 2) 2 (nums [(rat rs k).y0, (rat rs k).y1]) rfl ((new2 wr _ _ _ rfl).alloc _).drew (nums_one _) (by unfold maxLen; omega) (by omega) (Below.size ((hs.alloc _).alloc _).drew) ?_; intro vy wy howny hgry haty; have sy : Seen w1 wy := Below.grown ((hs.alloc _).alloc _).drew hgry (Below.size ((hs.alloc _).alloc _).drew) (fun j hj => (HY.out.lt j hj).1))
            | (refine step_append_rows _ rfl (.tmp 30) (.tmp 41) 41 rfl 2 i0 (.int .i64 0) 1 8 Try.underlying41 hi0 hz0 hz1 hz2 rfl (by decide) w1.heap.size 0 u6 _ _ rfl ((HY.out.alloc _).alloc _).drew (.slice (some ⟨wr.heap.size + 1, 0, none⟩) 2 2) 2 (nums [(rat rs k).y0, (rat rs k).y1]) rfl (new2 (wr.alloc (.cells #[.int .i64 (rat rs k).x0, .int .i64 (rat rs k).x1] 2)) _ _ _ (by simp)).drew (nums_one _) (by unfold maxLen; omega) (by omega) (Below.size ((hs.alloc _).alloc _).drew) ?_; intro vy wy howny hgry haty; have sy : Seen w1 wy := Below.grown ((hs.alloc _).alloc _).drew hgry (Below.size ((hs.alloc _).alloc _).drew) (fun j hj => (HY.out.lt j hj).1))
            | (refine step_append_rows _ rfl (.tmp 30) (.tmp 41) 41 rfl 2 i0 (.int .i64 0) 1 8 Try.underlying41 hi0 hz0 hz1 hz2 rfl (by decide) w1.heap.size 0 u6 _ _ rfl (World.ownsRow.kept ((HY.out.alloc _).alloc _).drew hgrx (disj_r HD.out)) (.slice (some ⟨wr.heap.size, 0, none⟩) 2 2) 2 (nums [(rat rs k).y0, (rat rs k).y1]) rfl (World.ownsRow.kept ((new2 wr _ _ _ rfl).alloc _).drew hgrx (.inr (fresh_ne HX.out (by omega)))) (nums_one _) (by unfold maxLen; omega) (by omega) (Below.size sx) ?_; intro vy wy howny hgry haty; have sy : Seen w1 wy := Below.grown sx hgry (Below.size sx) (fun j hj => (HY.out.lt j hj).1))
            | (refine step_append_rows _ rfl (.tmp 30) (.tmp 41) 41 rfl 2 i0 (.int .i64 0) 1 8 Try.underlying41 hi0 hz0 hz1 hz2 rfl (by decide) w1.heap.size 0 u6 _ _ rfl (World.ownsRow.kept ((HY.out.alloc _).alloc _).drew hgrx (disj_r HD.out)) (.slice (some ⟨wr.heap.size + 1, 0, none⟩) 2 2) 2 (nums [(rat rs k).y0, (rat rs k).y1]) rfl (World.ownsRow.kept (new2 (wr.alloc (.cells #[.int .i64 (rat rs k).x0, .int .i64 (rat rs k).x1] 2)) _ _ _ (by simp)).drew hgrx (.inr (fresh_ne HX.out (by omega)))) (nums_one _) (by unfold maxLen; omega) (by omega) (Below.size sx) ?_; intro vy wy howny hgry haty; have sy : Seen w1 wy := Below.grown sx hgry (Below.size sx) (fun j hj => (HY.out.lt j hj).1))
            | (refine step_append_rows _ rfl (.tmp 30) (.tmp 41) 41 rfl 2 i0 (.int .i64 0) 1 8 Try.underlying41 hi0 hz0 hz1 hz2 rfl (by decide) w1.heap.size 0 u6 _ _ rfl (World.ownsRow.alloc (World.ownsRow.kept (HY.out.alloc _).drew hgrx (disj_r HD.out)) _) (.slice (some ⟨wx.heap.size, 0, none⟩) 2 2) 2 (nums [(rat rs k).y0, (rat rs k).y1]) rfl (new2 wx _ _ _ rfl) (nums_one _) (by unfold maxLen; omega) (by omega) (Below.size (Seen.alloc sx _)) ?_; intro vy wy howny hgry haty; have sy : Seen w1 wy := Below.grown (Seen.alloc sx _) hgry (Below.size (Seen.alloc sx _)) (fun j hj => (HY.out.lt j hj).1)))
        all_goals
          have HT := Lib.hid (two_rows HX.out HY.out HD.out (show Seen wr _ by (repeat (first | exact Seen.refl _ | refine Seen.alloc ?_ _ | refine Seen.drew ?_))) hownx hgrx hatx (show Seen wx _ by (repeat (first | exact Seen.refl _ | refine Seen.alloc ?_ _ | refine Seen.drew ?_))) hgry haty)
          have HOY := Lib.hid howny
          clear hownx hgrx hatx howny hgry haty rk q0 q1 q2 q3 sx
          go_wp2_with fail
          go_roundw
          case rel =>
            have hkl : k < rs.length := by rw [HR.out.1]; exact hlt
            refine ⟨k + 1, by omega, by go_num, ?_, ?_, HT.out.2, sy⟩
            · rw [xs_step hkl, nums_append, List.length_append]; exact HT.out.1
            · rw [ys_step hkl, nums_append, List.length_append]; exact HOY.out
          case measure => simp [intOf]; omega
      · have htk : rs.take k = rs := List.take_of_length_le (by rw [HR.out.1]; omega)
        have hx := HX.out
        have hy := HY.out
        rw [htk] at hx hy
        clear htk HX HY HD
        obtain ⟨X, hX⟩ : ∃ X, xsL rs = X := ⟨_, rfl⟩
        obtain ⟨Y, hY⟩ : ∃ Y, ysL rs = Y := ⟨_, rfl⟩
        obtain ⟨nx, hnx⟩ : ∃ nx, X.length = nx := ⟨_, rfl⟩
        obtain ⟨ny, hny⟩ : ∃ ny, Y.length = ny := ⟨_, rfl⟩
        have hxl : nx ≤ 2000 := by rw [← hnx, ← hX, xsL_length, HR.out.1]; omega
        have hyl : ny ≤ 2000 := by rw [← hny, ← hY, ysL_length, HR.out.1]; omega
        rw [hX, hnx] at hx
        rw [hY, hny] at hy
        obtain ⟨ax, cx, rfl, hisx⟩ := is_of_own hx hnx
        obtain ⟨ay, cy, rfl, hisy⟩ := is_of_own hy hny
        obtain ⟨PX, hPX⟩ : ∃ PX, placesL r.x0 r.x1 X = PX := ⟨_, rfl⟩
        obtain ⟨PY, hPY⟩ : ∃ PY, placesL r.y0 r.y1 Y = PY := ⟨_, rfl⟩
        obtain ⟨mx, hmx⟩ : ∃ mx, PX.length = mx := ⟨_, rfl⟩
        obtain ⟨my, hmy⟩ : ∃ my, PY.length = my := ⟨_, rfl⟩
        have hxb : mx ≤ 2001 := by
          have := places_len r.x0 r.x1 X nx
          rw [List.take_of_length_le (by omega), hPX, hmx] at this; omega
        have hyb : my ≤ 2001 := by
          have := places_len r.y0 r.y1 Y ny
          rw [List.take_of_length_le (by omega), hPY, hmy] at this; omega
        have HPX : Hid (placesL r.x0 r.x1 (xsL rs) = PX) := by unfold Hid; rw [hX]; exact hPX
        have HPY : Hid (placesL r.y0 r.y1 (ysL rs) = PY) := by unfold Hid; rw [hY]; exact hPY
        have HQX := Lib.hid hPX
        have HQY := Lib.hid hPY
        have HMX := Lib.hid hmx
        have HMY := Lib.hid hmy
        have HIX := Lib.hid hisx
        have HIY := Lib.hid hisy
        clear hx hy hX hY hnx hny hPX hPY hmx hmy hisx hisy
        obtain ⟨q0, q1, q2, q3⟩ := b1 wr hs
        have sww := Seen.refl wr
        go_wp2_with fail
        go_region_held3 (fun w' => w'.cell? ⟨w.heap.size, 0, none⟩ = some (.int .i64 r.x0) ∧ w'.cell? ⟨w.heap.size, 1, none⟩ = some (.int .i64 r.y0) ∧ w'.cell? ⟨w.heap.size, 2, none⟩ = some (.int .i64 r.x1) ∧ w'.cell? ⟨w.heap.size, 3, none⟩ = some (.int .i64 r.y1))
          (exact b1 _ (by (repeat (first | assumption | exact Seen.refl _ | refine Seen.alloc ?_ _ | refine Seen.drew ?_))))
          (first
            | (go_at_call 24; (with_reducible refine (places_any r.x0 r.x1 ax nx cx X _ (HIX.out.seen (show Seen wr _ by (repeat (first | assumption | exact Seen.refl _ | refine Seen.alloc ?_ _ | refine Seen.drew ?_)))) (by omega)).mono ?_); rintro e wP ⟨⟨vP, rfl, hownP⟩, hbP⟩; rw [HQX.out, HMX.out] at hownP; obtain ⟨apx, cpx, rfl, hisP⟩ := is_of_own hownP HMX.out; have sP : Seen wr wP := Seen.next (show Seen wr _ by (repeat (first | assumption | exact Seen.refl _ | refine Seen.alloc ?_ _ | refine Seen.drew ?_))) hbP; have s1P : Seen w1 wP := hs.trans sP; have HJX := Lib.hid hisP; clear hownP hbP hisP)
            | (go_at_call 24; (with_reducible refine (places_any r.y0 r.y1 ay ny cy Y _ (HIY.out.seen (show Seen wr _ by (repeat (first | assumption | exact Seen.refl _ | refine Seen.alloc ?_ _ | refine Seen.drew ?_)))) (by omega)).mono ?_); rintro e wQ ⟨⟨vQ, rfl, hownQ⟩, hbQ⟩; rw [HQY.out, HMY.out] at hownQ; obtain ⟨apy, cpy, rfl, hisQ⟩ := is_of_own hownQ HMY.out; have sQ : Seen wr wQ := Seen.next (show Seen wr _ by (repeat (first | assumption | exact Seen.refl _ | refine Seen.alloc ?_ _ | refine Seen.drew ?_))) hbQ; have s1Q : Seen w1 wQ := hs.trans sQ; have sPQ : Seen wP wQ := hbQ; have HJY := Lib.hid hisQ; clear hownQ hbQ hisQ))
        have HRQ := Lib.hid (HR.out.seen (s1.trans s1Q))
        have HKX := Lib.hid (HJX.out.seen sPQ)
        have swQ : Seen w wQ := s1.trans s1Q
        clear q0 q1 q2 q3 sww b1 sP sQ s1P s1Q sPQ
        go_wp2_with fail
        go_loopw [58] (fun u wz => ∃ i : Nat, i ≤ mx ∧ u = .int .i64 i ∧ (∀ i', i' < i → ∀ j, j < my → inB rs (iat PX i') (iat PY j) = true) ∧ Seen wQ wz) (fun u _ => mx - (intOf u).toNat)
        case atStart => exact ⟨0, Nat.zero_le _, rfl, fun i hi => absurd hi (Nat.not_lt_zero _), Seen.refl _⟩
        case round =>
          obtain ⟨i, hi, rfl, hall, hsi⟩ := hrel
          have HAL := Lib.hid hall
          have HSI := Lib.hid hsi
          clear hall hsi
          by_cases hlx : i < mx
          · go_wp2_with fail
            go_loopw [63] (fun u wz => ∃ j : Nat, j ≤ my ∧ u = .int .i64 j ∧ (∀ j', j' < j → inB rs (iat PX i) (iat PY j') = true) ∧ Seen wQ wz) (fun u _ => my - (intOf u).toNat)
            case atStart => exact ⟨0, Nat.zero_le _, rfl, fun j hj => absurd hj (Nat.not_lt_zero _), HSI.out⟩
            case round =>
              obtain ⟨j, hj, rfl, hrow, hsj⟩ := hrel
              have HRW := Lib.hid hrow
              have hsd := hsj.drew
              clear hrow
              by_cases hly : j < my
              · obtain ⟨bx, ox, rfl, hcx⟩ := HKX.out.2 (by omega)
                obtain ⟨by_, oy, rfl, hcy⟩ := HJY.out.2 (by omega)
                have rx := cell_rules (hcx i hlx)
                have ry := cell_rules (hcy j hly)
                clear hcx hcy
                cases hb : inB rs (iat PX i) (iat PY j) with
                | false =>
                  have HB := Lib.hid hb
                  have HG := Lib.hid (grid_no HE.out HPX.out HPY.out (by rw [HMX.out]; exact hlx) (by rw [HMY.out]; exact hly) hb)
                  clear hb
                  go_wp2_with fail
                  refine wp_region_quiet (C := Seen wQ) (by kernel_rfl) (by kernel_rfl) hsd ?_
                  simp only []
                  repeat (first
                    | go_big_quiet_skip
                    | (go_big_quiet_want
                       apply Exists.intro
                       refine ⟨fun w1 h1 => ?_, ?_⟩
                       focus
                         go_simp
                         first | done | rfl | (go_at_call 10; with_reducible exact quiet_call h1 (isB (refIn_any ad n c rs (iat PX i) (iat PY j) _ (HRQ.out.seen h1) (by omega)) HB.out))
                       (try simp only [Act.put, List.setIfInBounds_toArray, List.set_cons_zero, List.set_cons_succ])
                       go_big_quiet_on))
                  refine wpQuiet_nil ?_
                  intro w3 h3
                  go_wp2_with fail
                  go_ret
                  exact ⟨ret_bool HG.out.symm, swQ.trans h3⟩
                | true =>
                  have HB := Lib.hid hb
                  have HRW2 : Hid (∀ j', j' < j + 1 → inB rs (iat PX i) (iat PY j') = true) := fun j' hj' => by
                    rcases Nat.lt_succ_iff_lt_or_eq.1 hj' with h1 | h1
                    · exact HRW.out j' h1
                    · rw [h1]; exact hb
                  clear hb
                  go_wp2_with fail
                  refine wp_region_quiet (C := Seen wQ) (by kernel_rfl) (by kernel_rfl) hsd ?_
                  simp only []
                  repeat (first
                    | go_big_quiet_skip
                    | (go_big_quiet_want
                       apply Exists.intro
                       refine ⟨fun w1 h1 => ?_, ?_⟩
                       focus
                         go_simp
                         first | done | rfl | (go_at_call 10; with_reducible exact quiet_call h1 (isB (refIn_any ad n c rs (iat PX i) (iat PY j) _ (HRQ.out.seen h1) (by omega)) HB.out))
                       (try simp only [Act.put, List.setIfInBounds_toArray, List.set_cons_zero, List.set_cons_succ])
                       go_big_quiet_on))
                  refine wpQuiet_nil ?_
                  intro w3 h3
                  go_wp2_with fail
                  go_roundw
                  case rel => exact ⟨j + 1, by omega, by go_num, HRW2.out, h3⟩
                  case measure => simp [intOf]; omega
              · have HAL2 : Hid (∀ i', i' < i + 1 → ∀ j, j < my → inB rs (iat PX i') (iat PY j) = true) := fun i' hi' j' hj' => by
                  rcases Nat.lt_succ_iff_lt_or_eq.1 hi' with h1 | h1
                  · exact HAL.out i' h1 j' hj'
                  · rw [h1]; exact HRW.out j' (by omega)
                go_wp2_with fail
                go_roundw
                case rel => exact ⟨i + 1, by omega, by go_num, HAL2.out, hsj⟩
                case measure => simp [intOf]; omega
          · have HG := Lib.hid (grid_yes HE.out HPX.out HPY.out (fun i' hi' j hj => HAL.out i' (by rw [HMX.out] at hi'; omega) j (by rw [HMY.out] at hj; exact hj)))
            go_wp2_with fail
            go_ret
            exact ⟨ret_bool HG.out.symm, swQ.trans HSI.out⟩
end Go.Proofs.Ytckfdlolmenigaa
