/- Contracts of package size (known, Of, Or, Least, Most) and of their reference twins, over the translation of this seat; no conditions. -/
import Derived.Test.YtjgpajbibmfjlaaRefPart
import Derived.Test.YtjgpajbibmfjlaaBlk
namespace Go.Proofs.Ytjgpajbibmfjlaa
open Go.ChangeShapes Go.WideShapes Go.ChangeAt Go.RowKit
set_option maxRecDepth 100000
/-- A size: auto, or a number. -/
structure Sz where
  au : Bool
  n : Int
deriving DecidableEq
/-- A length (kind k, number n) of the base b: the size. -/
def ofS (k n b : Int) (has : Bool) : Sz :=
  if k = 0 then ⟨true, 0⟩ else if k = 1 then ⟨false, if fitsB n then n else 0⟩ else if k = 2 then (if has then ⟨false, partN b n⟩ else ⟨true, 0⟩) else ⟨false, 0⟩
/-- Whether it is one. -/
def ofB (k n b : Int) (has : Bool) : Bool :=
  if k = 0 then true else if k = 1 then fitsB n else if k = 2 then (if has then partB b n else true) else false
def orV (s : Sz) (n : Int) : Int := if s.au then n else s.n
def ofOrV (k n b : Int) (has : Bool) (d : Int) : Int := if ofB k n b has then orV (ofS k n b has) d else 0
theorem ret_sz {a b : Sz} {c d : Bool} (h : a = b) (h2 : c = d) : Ending.returned (.tuple #[.agg #[.bool a.au, .int .i64 a.n], .bool c]) = .returned (.tuple #[.agg #[.bool b.au, .int .i64 b.n], .bool d]) := by rw [h, h2]
theorem known_any (n : Int) (b : Bool) (w : World) :
    Calls Try.prog 15 #[.int .i64 n, .bool b] w fun e w' => e = .returned (.tuple #[.agg #[.bool false, .int .i64 (if b then n else 0)], .bool b]) ∧ Below w.heap.size w w' := by
  cases b
  · go_enter Try.func15, Try.ntmps15
    go_wp2
    go_returns
    exact ⟨rfl, by go_grown⟩
  · go_enter Try.func15, Try.ntmps15
    go_wp2
    go_returns
    exact ⟨rfl, by go_grown⟩
theorem or_any (s : Sz) (n : Int) (w : World) :
    Calls Try.prog 14 #[.agg #[.bool s.au, .int .i64 s.n], .int .i64 n] w fun e w' => e = .returned (.int .i64 (orV s n)) ∧ Below w.heap.size w w' := by
  obtain ⟨a, m⟩ := s
  cases a
  all_goals
    go_enter Try.func14, Try.ntmps14
    go_wp2
    go_ret
    exact ⟨rfl, by go_grown⟩
theorem refOr_any (s : Sz) (n : Int) (w : World) :
    Calls Try.prog 11 #[.agg #[.bool s.au, .int .i64 s.n], .int .i64 n] w fun e w' => e = .returned (.int .i64 (orV s n)) ∧ Below w.heap.size w w' := by
  obtain ⟨a, m⟩ := s
  cases a
  all_goals
    go_enter Try.func11, Try.ntmps11
    go_wp2
    go_ret
    exact ⟨rfl, by go_grown⟩
theorem known_as (n : Int) (b : Bool) (m : Int) (hm : (if b then n else 0) = m) (w : World) :
    Calls Try.prog 15 #[.int .i64 n, .bool b] w fun e w' => e = .returned (.tuple #[.agg #[.bool false, .int .i64 m], .bool b]) ∧ Below w.heap.size w w' := hm ▸ known_any n b w
def fitN (n : Int) : Int := if fitsB n then n else 0
theorem fits_eq (n : Int) (w : World) : Calls Try.prog 16 #[.int .i64 n] w fun e w' => e = .returned (.bool (fitsB n)) ∧ w' = w := (fits_any n w).mono fun _ _ h => ⟨h.1, h.2.symm⟩
theorem partN_if (b n : Int) : (if partB b n then partN b n else 0) = partN b n := by unfold partN; split <;> simp_all
theorem of_any (k n b : Int) (has : Bool) (w : World) :
    Calls Try.prog 7 #[.agg #[.int .i64 k, .int .i64 n], .int .i64 b, .bool has] w fun e w' => e = .returned (.tuple #[.agg #[.bool (ofS k n b has).au, .int .i64 (ofS k n b has).n], .bool (ofB k n b has)]) ∧ Below w.heap.size w w' := by
  by_cases h0 : k = 0
  · subst h0
    go_enter Try.func7, Try.ntmps7
    go_wp2
    go_returns
    exact ⟨rfl, by go_grown⟩
  · by_cases h1 : k = 1
    · subst h1
      clear h0
      have HS := Lib.hid (show ofS 1 n b has = ⟨false, fitN n⟩ from rfl)
      have HB := Lib.hid (show ofB 1 n b has = fitsB n from rfl)
      obtain ⟨W, hW⟩ : ∃ W, W = (w.alloc (.cells #[.int .i64 1, .int .i64 n] 23)).alloc (.cells #[.bool false, .int .i64 0] 26) := ⟨_, rfl⟩
      have b0 := Blk.rules2 (show Blk W w.heap.size [.int .i64 1, .int .i64 n] 23 by rw [hW]; exact (Blk.new w _ _).alloc _)
      have k1 : Blk W (w.heap.size + 1) [.bool false, .int .i64 0] 26 := by rw [hW]; simpa using Blk.new (w.alloc (.cells #[.int .i64 1, .int .i64 n] 23)) [.bool false, .int .i64 0] 26
      have b1 := Blk.rules2 k1
      have hWb : Below w.heap.size w W := by subst hW; go_grown
      have sr := Seen.refl W
      have c0 := b0 W sr
      go_enter Try.func7, Try.ntmps7
      go_wp2_with fail
      rw [← hW]
      clear hW
      have r0 := fun w' h => (b0 w' h).2.1
      go_region_held3 (fun w' => w'.cell? ⟨w.heap.size, 1, none⟩ = some (.int .i64 n))
        (first | exact r0 _ sr.drew | exact r0 _ s1 | (rw [World.cell?_setCell_far _ _ _ _ (by simp), World.cell?_setCell_far _ _ _ _ (by simp)]; exact r0 _ s1))
        (first
          | (go_at_call 16; refine (fits_eq n _).mono ?_; rintro _ w' ⟨rfl, rfl⟩)
          | (go_at_call 15; refine (known_as _ _ (fitN n) rfl _).mono ?_; rintro e w' ⟨rfl, hb⟩; have s1 : Seen W w' := sr.drew.next hb; clear hb))
      go_wp2_with fail
      have z := ((k1.seen s1).set 0 (.bool false)).set 1 (.int .i64 (fitN n))
      have z0 := z.cell 0
      have z1 := z.cell 1
      refine bodyPost_ret (by simp [results, Try.results7, go_sem, z0, z1]; try rfl) rfl ?_
      exact ⟨by rw [HS.out, HB.out], (hWb.trans (s1.mono hWb.size)).setCell (by simp) _ |>.setCell (by simp) _⟩
    · by_cases h2 : k = 2
      · subst h2
        clear h0 h1
        cases has
        · go_enter Try.func7, Try.ntmps7
          go_wp2
          go_returns
          exact ⟨rfl, by go_grown⟩
        · have HS := Lib.hid (show ofS 2 n b true = ⟨false, partN b n⟩ from rfl)
          have HB := Lib.hid (show ofB 2 n b true = partB b n from rfl)
          obtain ⟨W, hW⟩ : ∃ W, W = (w.alloc (.cells #[.int .i64 2, .int .i64 n] 23)).alloc (.cells #[.bool false, .int .i64 0] 26) := ⟨_, rfl⟩
          have b0 := Blk.rules2 (show Blk W w.heap.size [.int .i64 2, .int .i64 n] 23 by rw [hW]; exact (Blk.new w _ _).alloc _)
          have k1 : Blk W (w.heap.size + 1) [.bool false, .int .i64 0] 26 := by rw [hW]; simpa using Blk.new (w.alloc (.cells #[.int .i64 2, .int .i64 n] 23)) [.bool false, .int .i64 0] 26
          have b1 := Blk.rules2 k1
          have hWb : Below w.heap.size w W := by subst hW; go_grown
          have sr := Seen.refl W
          go_enter Try.func7, Try.ntmps7
          go_wp2_with (first | (go_at_call 17; rw [← hW]; clear hW; refine (part_any _ _ _).mono ?_; rintro e w' ⟨rfl, rfl⟩) | (go_at_call 15; refine (known_as _ _ (partN b n) (partN_if b n) _).mono ?_; rintro e w' ⟨rfl, hb⟩; have s1 : Seen W w' := sr.next hb; clear hb))
          have z := ((k1.seen s1).set 0 (.bool false)).set 1 (.int .i64 (partN b n))
          have z0 := z.cell 0
          have z1 := z.cell 1
          refine bodyPost_ret (by simp [results, Try.results7, go_sem, z0, z1]; try rfl) rfl ?_
          exact ⟨by rw [HS.out, HB.out], (hWb.trans (s1.mono hWb.size)).setCell (by simp) _ |>.setCell (by simp) _⟩
      · have HS := Lib.hid (show ofS k n b has = ⟨false, 0⟩ by unfold ofS; rw [if_neg h0, if_neg h1, if_neg h2])
        have HB := Lib.hid (show ofB k n b has = false by unfold ofB; rw [if_neg h0, if_neg h1, if_neg h2])
        go_enter Try.func7, Try.ntmps7
        go_wp2
        go_returns
        exact ⟨by rw [HS.out, HB.out], by go_grown⟩
theorem ofOr_any (k n b : Int) (has : Bool) (d : Int) (w : World) :
    Calls Try.prog 20 #[.agg #[.int .i64 k, .int .i64 n], .int .i64 b, .bool has, .int .i64 d] w fun e w' => e = .returned (.tuple #[.int .i64 (ofOrV k n b has d), .bool (ofB k n b has)]) ∧ Below w.heap.size w w' := by
  have HV := Lib.hid (show ofOrV k n b has d = if ofB k n b has then orV (ofS k n b has) d else 0 from rfl)
  obtain ⟨W, hW⟩ : ∃ W, W = w.alloc (.cells #[.int .i64 k, .int .i64 n] 23) := ⟨_, rfl⟩
  have b0 := Blk.rules2 (show Blk W w.heap.size [.int .i64 k, .int .i64 n] 23 by rw [hW]; exact Blk.new w _ _)
  have hWb : Below w.heap.size w W := by subst hW; go_grown
  have sr := Seen.refl W
  have oa := fun w => of_any k n b has w
  obtain ⟨s, hs⟩ : ∃ s, ofS k n b has = s := ⟨_, rfl⟩
  obtain ⟨c, hc⟩ : ∃ c, ofB k n b has = c := ⟨_, rfl⟩
  rw [hs, hc] at HV oa
  rw [hc]
  clear hs hc
  cases c
  · go_enter Try.func20, Try.ntmps20
    go_wp2_with (go_at_call 7; rw [← hW]; clear hW; refine (oa _).mono ?_; rintro e w' ⟨rfl, hb⟩; have s1 : Seen W w' := sr.next hb; clear hb)
    go_ret2
    exact ⟨ret_two HV.out.symm rfl, Seen.alloc (Seen.trans hWb s1) _⟩
  · go_enter Try.func20, Try.ntmps20
    go_wp2_with (first | (go_at_call 7; rw [← hW]; clear hW; refine (oa _).mono ?_; rintro e w' ⟨rfl, hb⟩; have s1 : Seen W w' := sr.next hb; clear hb) | (go_at_call 14; refine (or_any s d _).mono ?_; rintro e w2 ⟨rfl, hb⟩))
    go_ret2
    exact ⟨ret_two HV.out.symm rfl, Seen.next (Seen.alloc (Seen.trans hWb s1) _) hb⟩
end Go.Proofs.Ytjgpajbibmfjlaa
