/- What is left of one rectangle without another one: a point lies in one of the parts, or in none. -/
import Derived.Test.YtckfdlolmenigaaLists
namespace Go.Proofs.Ytckfdlolmenigaa
theorem cnt_solid (x y : Int) (l : List R4) : (solid l).countP (fun r => holdsB r x y) = l.countP (fun r => holdsB r x y) := by
  unfold solid
  rw [List.countP_filter]
  refine List.countP_congr fun r _ => ?_
  simp only [holdsB, emptyB, Bool.and_eq_true, Bool.not_eq_true', decide_eq_true_eq, decide_eq_false_iff_not]
  omega
theorem countP_one (p : R4 → Bool) (r : R4) (l : List R4) : (r :: l).countP p = l.countP p + (if p r = true then 1 else 0) := List.countP_cons
/-- How many of what is left hold a point. -/
theorem cnt_cut (a b : R4) (x y : Int) : (cutL a b).countP (fun r => holdsB r x y) = if holdsB a x y && !holdsB b x y then 1 else 0 := by
  unfold cutL
  split
  · rename_i he
    have : holdsB a x y = false := by
      simp only [emptyB, holdsB, decide_eq_true_eq, decide_eq_false_iff_not] at *; omega
    rw [this]; rfl
  · rename_i he
    split
    · rename_i hm
      have e : (holdsB a x y && !holdsB b x y) = holdsB a x y := by
        by_cases h : max a.x0 b.x0 < min a.x1 b.x1 ∧ max a.y0 b.y0 < min a.y1 b.y1
        · rw [meetR_t h] at hm; simp only [emptyB, decide_eq_true_eq] at hm; omega
        · refine bool_iff ?_
          simp only [emptyB, holdsB, Bool.and_eq_true, Bool.not_eq_true', decide_eq_true_eq, decide_eq_false_iff_not] at *; omega
      rw [e, countP_one]; simp
    · rename_i hm
      by_cases h : max a.x0 b.x0 < min a.x1 b.x1 ∧ max a.y0 b.y0 < min a.y1 b.y1
      · rw [cnt_solid, meetR_t h]
        simp only [emptyB, decide_eq_true_eq] at he
        simp only [partsL, countP_one, List.countP_nil, holdsB, decide_eq_true_eq, Bool.and_eq_true, Bool.not_eq_true', decide_eq_false_iff_not]
        repeat' split
        all_goals omega
      · rw [meetR_f h] at hm; exact absurd rfl hm
theorem solid_no (l : List R4) : ∀ r ∈ solid l, emptyB r = false := by
  intro r hr
  have := (List.mem_filter.1 hr).2
  simpa using this
theorem cut_no (a b : R4) : ∀ r ∈ cutL a b, emptyB r = false := by
  unfold cutL
  split
  · intro r hr; simp at hr
  · rename_i he
    split
    · intro r hr; simp only [List.mem_singleton] at hr; subst hr; simpa using he
    · exact solid_no _
theorem cut_short (a b : R4) : (cutL a b).length ≤ 4 := by
  unfold cutL
  split
  · simp
  · split
    · simp
    · exact solid_length _
theorem cnt_le (x y : Int) (l : List R4) : l.countP (fun r => holdsB r x y) ≤ l.length := List.countP_le_length
theorem cnt_step {x y : Int} {l : List R4} {k : Nat} (h : k < l.length) : (l.take (k + 1)).countP (fun r => holdsB r x y) = (l.take k).countP (fun r => holdsB r x y) + (if holdsB (rat l k) x y = true then 1 else 0) := by
  rw [List.take_succ_eq_append_getElem h, List.countP_append, countP_one, rat_eq h]; simp
theorem At4.rules {W : World} {b o : Nat} {r : R4} (hb : At4 W b o r) : ∀ w', Seen W w' →
    w'.cell? ⟨b, o, none⟩ = some (.int .i64 r.x0) ∧ w'.cell? ⟨b, o + 1, none⟩ = some (.int .i64 r.y0) ∧ w'.cell? ⟨b, o + 2, none⟩ = some (.int .i64 r.x1) ∧ w'.cell? ⟨b, o + 3, none⟩ = some (.int .i64 r.y1) := fun _ h => h.at4 hb
/-- The number, as an integer. -/
def cntI (x y : Int) (l : List R4) : Int := (l.countP (fun r => holdsB r x y) : Nat)
end Go.Proofs.Ytckfdlolmenigaa
