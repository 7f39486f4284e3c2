/- Plain mathematics of FlowSums: what stands in a content is as wide as it, table by table; no conditions beyond those written in each theorem. -/
import Derived.Test.YteplmjgohnbpbaaM28
import Derived.Test.YteplmjgohnbpbaaM35
import Derived.Test.YteplmjgohnbpbaaM44
namespace Go.Proofs.Yteplmjgohnbpbaa
open Go.ChangeShapes Go.WideShapes Go.ChangeAt Go.RowKit
set_option maxRecDepth 100000
/-- A box with its margins, borders and paddings, from left to right. -/
def sumW (f : Fr) : Int := f.mg.d + f.bd.d + f.pd.d + f.w + f.pd.b + f.bd.b + f.mg.b
def in50 (x : Int) : Prop := -1125899906842624 ≤ x ∧ x ≤ 1125899906842624
structure Seven (f : Fr) : Prop where
  m3 : in50 f.mg.d
  b3 : in50 f.bd.d
  p3 : in50 f.pd.d
  w : in50 f.w
  p1 : in50 f.pd.b
  b1 : in50 f.bd.b
  m1 : in50 f.mg.b
structure Wide (c : Ct) (f : Fr) : Prop where
  sum : sumW f = c.w
  x : f.x = f.mg.d
  seven : Seven f
theorem five_sum {a b c d : Int} (h : sumB [a, b, 0, c, d] = true) : sumN [a, b, 0, c, d] = a + b + c + d ∧ in50 a ∧ in50 b ∧ in50 c ∧ in50 d := by
  have h' := h
  unfold sumB at h'
  rw [Bool.and_eq_true] at h'
  have e := (sum_good h'.1 h'.2).1
  have g := h'.1
  simp only [List.all_cons, List.all_nil, Bool.and_eq_true] at g
  obtain ⟨g1, g2, -, g3, g4, -⟩ := g
  refine ⟨e.trans ?_, fitsB_iff.1 g1, fitsB_iff.1 g2, fitsB_iff.1 g3, fitsB_iff.1 g4⟩
  simp [isum]
  omega
theorem frame_wide {s : Sty} {c : Ct} (h : frB s c = true) : Wide c (frF s c) := by
  unfold frB acB acG at h
  simp only [Bool.and_eq_true] at h
  obtain ⟨h1, ⟨h2, h3, h4, h5⟩, h6⟩ := h
  have hg : acG s (fr0 s c) c = true := by unfold acG; simp only [Bool.and_eq_true]; exact ⟨h2, h3, h4, h5⟩
  have e1 : frF s c = withO (fr0 s c) (solO (acIn s (fr0 s c) (sds (mg4 s) c.w) c)) := by
    unfold frF acO
    rw [if_pos h1, if_pos hg]
  obtain ⟨k1, k2, k3⟩ := sol_parts h6
  obtain ⟨f1, f2, f3⟩ := fit_parts k2
  have es := sum_is k1 k2
  rw [← k3] at es f1 f2 f3
  obtain ⟨a1, a2, a3, a4, a5⟩ := five_sum h5
  have ar : (acIn s (fr0 s c) (sds (mg4 s) c.w) c).ar = sumN (arL (fr0 s c)) := rfl
  have ab : (acIn s (fr0 s c) (sds (mg4 s) c.w) c).base = c.w := rfl
  have an : sumN (arL (fr0 s c)) = (fr0 s c).bd.d + (fr0 s c).pd.d + (fr0 s c).pd.b + (fr0 s c).bd.b := a1
  rw [ar, ab, an] at es
  rw [e1]
  obtain ⟨o, ho⟩ : ∃ o, solO (acIn s (fr0 s c) (sds (mg4 s) c.w) c) = o := ⟨_, rfl⟩
  rw [ho] at es f1 f2 f3 ⊢
  refine ⟨?_, rfl, ⟨fitsB_iff.1 f1, a2, a3, fitsB_iff.1 f2, a4, a5, fitsB_iff.1 f3⟩⟩
  show o.l + (fr0 s c).bd.d + (fr0 s c).pd.d + o.w + (fr0 s c).pd.b + (fr0 s c).bd.b + o.r = c.w
  omega
/-- What a box is made of. -/
theorem box_parts {l : List Nd} {k : Nat} {n : Int} {c : Ct} {b : Bo} (h : boxO l (k + 1) n c = some b) :
    frB (styAt l n) c = true ∧ ∃ a, contO (boxO l k) (flowV l n) (ctIn (styAt l n) (frF (styAt l n) c) (htsF (styAt l n) c.h)) (endE (frF (styAt l n) c) (htsF (styAt l n) c.h) (indB (styAt l n) n)) = some a ∧
      b.l = a.l ∧ b.f.x = (frF (styAt l n) c).x ∧ b.f.w = (frF (styAt l n) c).w ∧ b.f.mg = (frF (styAt l n) c).mg ∧ b.f.pd = (frF (styAt l n) c).pd ∧ b.f.bd = (frF (styAt l n) c).bd := by
  unfold boxO at h
  split at h
  · rename_i hh
    rw [Bool.and_eq_true] at hh
    refine ⟨hh.1, ?_⟩
    split at h
    · cases h
    · rename_i a ha
      split at h
      · simp at h
        subst h
        exact ⟨a, ha, rfl, rfl, rfl, rfl, rfl, rfl⟩
      · cases h
  · cases h
theorem wide_of {c : Ct} {f g : Fr} (h : Wide c f) (hx : g.x = f.x) (hw : g.w = f.w) (hm : g.mg = f.mg) (hp : g.pd = f.pd) (hb : g.bd = f.bd) : Wide c g := by
  obtain ⟨h1, h2, ⟨s1, s2, s3, s4, s5, s6, s7⟩⟩ := h
  refine ⟨?_, by rw [hx, hm, h2], ⟨by rw [hm]; exact s1, by rw [hb]; exact s2, by rw [hp]; exact s3, by rw [hw]; exact s4, by rw [hp]; exact s5, by rw [hb]; exact s6, by rw [hm]; exact s7⟩⟩
  unfold sumW at h1 ⊢
  rw [hw, hm, hp, hb]
  exact h1
theorem box_wide {l : List Nd} {k : Nat} {n : Int} {c : Ct} {b : Bo} (h : boxO l k n c = some b) : Wide c b.f := by
  cases k with
  | zero => simp [boxO] at h
  | succ k =>
    obtain ⟨h1, a, _, _, hx, hw, hm, hp, hb⟩ := box_parts h
    exact wide_of (frame_wide h1) hx hw hm hp hb
/-! The table of widths. -/
def tabs (t : List Int) : List Pd → List Int
  | [] => t
  | p :: r => tabs (t.set p.n.toNat p.f.w) r
/-- A box is as wide as the table has it of its parent. -/
def fitP (l : List Nd) (t : List Int) (p : Pd) : Prop := ∃ m q : Nat, p.n = m ∧ m < l.length ∧ (nd l m).p = q ∧ q < l.length ∧ sumW p.f = t.getD q 0 ∧ p.f.x = p.f.mg.d ∧ Seven p.f
def allP (l : List Nd) : List Int → List Pd → Prop
  | _, [] => True
  | t, p :: r => fitP l t p ∧ allP l (t.set p.n.toNat p.f.w) r
theorem tabs_len (ps : List Pd) : ∀ t : List Int, (tabs t ps).length = t.length := by
  induction ps with
  | nil => intro t; rfl
  | cons p r ih => intro t; rw [tabs, ih, List.length_set]
theorem tabs_append (a b : List Pd) : ∀ t : List Int, tabs t (a ++ b) = tabs (tabs t a) b := by
  induction a with
  | nil => intro t; rfl
  | cons p r ih => intro t; exact ih _
theorem allP_append {l : List Nd} (a b : List Pd) : ∀ t : List Int, allP l t a → allP l (tabs t a) b → allP l t (a ++ b) := by
  induction a with
  | nil => intro t _ h; exact h
  | cons p r ih => intro t h1 h2; exact ⟨h1.1, ih _ h1.2 h2⟩
theorem allP_at {l : List Nd} {ps : List Pd} : ∀ {t : List Int}, allP l t ps → ∀ {i : Nat}, i < ps.length → fitP l (tabs t (ps.take i)) (ps.getD i zPd) := by
  induction ps with
  | nil => intro t _ i hi; exact absurd hi (by simp)
  | cons p r ih =>
    intro t h i hi
    cases i with
    | zero => exact h.1
    | succ i =>
      rw [List.take_succ_cons, tabs, List.getD_cons_succ]
      exact ih h.2 (by simpa using hi)
theorem tabs_snoc {ps : List Pd} {t : List Int} {i : Nat} (hi : i < ps.length) : tabs t (ps.take (i + 1)) = (tabs t (ps.take i)).set (ps.getD i zPd).n.toNat (ps.getD i zPd).f.w := by
  rw [List.take_add_one, tabs_append]
  have e : ps[i]?.toList = [ps.getD i zPd] := by
    rw [List.getD_eq_getElem?_getD, List.getElem?_eq_getElem hi]
    rfl
  rw [e]
  rfl
theorem getD_set_ne {t : List Int} {m j : Nat} (v : Int) (h : m ≠ j) : (t.set m v).getD j 0 = t.getD j 0 := by
  rw [List.getD_eq_getElem?_getD, List.getD_eq_getElem?_getD, List.getElem?_set_ne h]
theorem getD_set_eq {t : List Int} {m : Nat} (v : Int) (h : m < t.length) : (t.set m v).getD m 0 = v := by
  rw [List.getD_eq_getElem?_getD, List.getElem?_set_self h]
  rfl
/-- What a box lays fits, table by table; what is not below it stays. -/
def SumsOK (l : List Nd) (B : Int → Ct → Option Bo) : Prop := ∀ (m : Nat) (c : Ct) (b : Bo) (t : List Int), m < l.length → B m c = some b → t.length = l.length → t.getD m 0 = b.f.w →
  allP l t b.l ∧ ∀ j, (j ≤ m ∨ endN l m ≤ j) → (tabs t b.l).getD j 0 = t.getD j 0
theorem sums_kids {l : List Nd} {B : Int → Ct → Option Bo} (hB : SumsOK l B) (hW : ∀ m c b, B m c = some b → Wide c b.f) {n : Nat} (hn : n < l.length) {c : Ct} {e : Nat} :
    ∀ {K : List Int} {bs : List Bo} {a : Nat} {ys : List Int} {t : List Int}, chainK l a K e → n < a → (∀ x ∈ K, ∀ m : Nat, x = m → (nd l m).p = n) → boxesO B c K = some bs → t.length = l.length → t.getD n 0 = c.w →
    allP l t (layY K bs ys) ∧ ∀ j, (j < a ∨ e ≤ j) → (tabs t (layY K bs ys)).getD j 0 = t.getD j 0 := by
  intro K
  induction K with
  | nil =>
    intro bs a ys t _ _ _ _ _ _
    have e0 : layY [] bs ys = [] := by cases bs <;> cases ys <;> rfl
    rw [e0]
    exact ⟨trivial, fun _ _ => rfl⟩
  | cons k r ih =>
    intro bs a ys t hc ha hp hb ht htn
    cases bs with
    | nil =>
      have e0 : layY (k :: r) [] ys = [] := by cases ys <;> rfl
      rw [e0]
      exact ⟨trivial, fun _ _ => rfl⟩
    | cons b bs =>
      cases ys with
      | nil => exact ⟨trivial, fun _ _ => rfl⟩
      | cons y ys =>
        obtain ⟨m, rfl, h1, h2, h3⟩ := hc
        have hpm := hp m List.mem_cons_self m rfl
        unfold boxesO at hb
        split at hb
        · cases hb
        · rename_i b' hb'
          split at hb
          · cases hb
          · rename_i bs' hbs'
            simp at hb
            obtain ⟨rfl, rfl⟩ := hb
            have hw := hW _ _ _ hb'
            have hel := end_low h2
            have hle := chain_le h3
            rw [layY]
            obtain ⟨g1, g2⟩ := hB m c b' (t.set m b'.f.w) h2 hb' (by rw [List.length_set]; exact ht) (getD_set_eq _ (by omega))
            have htn' : (tabs (t.set m b'.f.w) b'.l).getD n 0 = c.w := by
              rw [g2 n (.inl (by omega)), getD_set_ne _ (by omega)]
              exact htn
            obtain ⟨i1, i2⟩ := ih (bs := bs') (ys := ys) (t := tabs (t.set m b'.f.w) b'.l) h3 (by omega) (fun x hx => hp x (List.mem_cons_of_mem _ hx)) hbs' (by rw [tabs_len, List.length_set]; exact ht) htn'
            refine ⟨⟨⟨m, n, rfl, h2, hpm, hn, ?_, hw.x, ⟨hw.seven.m3, hw.seven.b3, hw.seven.p3, hw.seven.w, hw.seven.p1, hw.seven.b1, hw.seven.m1⟩⟩, allP_append _ _ _ g1 i1⟩, fun j hj => ?_⟩
            · rw [htn]; exact hw.sum
            · show (tabs (t.set m b'.f.w) (b'.l ++ layY r bs' ys)).getD j 0 = _
              rw [tabs_append, i2 j (by omega), g2 j (by omega), getD_set_ne _ (by omega)]
theorem flow_par {l : List Nd} {n : Nat} (hn : n < l.length) : ∀ x ∈ flowV l n, ∀ m : Nat, x = m → (nd l m).p = n := by
  intro x hx m hm
  subst hm
  rw [flowV_kids] at hx
  have hk := (List.mem_filter.1 hx).1
  unfold kidsV at hk
  rw [inB_nat hn, if_pos rfl] at hk
  unfold kidsTo at hk
  simp only [List.mem_map, List.mem_filter, List.mem_range] at hk
  obtain ⟨j, ⟨_, hj⟩, hjm⟩ := hk
  obtain rfl : j = m := by omega
  unfold kidB at hj
  simp at hj
  exact hj.2
theorem sums_all {l : List Nd} (hf : FormedT l) (k : Nat) : SumsOK l (boxO l k) := by
  induction k with
  | zero => intro m c b t _ hb; simp [boxO] at hb
  | succ k ih =>
    intro m c b t hm hb ht htm
    obtain ⟨_, a, ha, el, hx, hw, _, _, _⟩ := box_parts hb
    rw [el]
    unfold contO at ha
    split at ha
    · cases ha
    · rename_i bs hbs
      split at ha
      · cases ha
      · rename_i p hp
        split at ha
        · simp at ha
          subst ha
          obtain ⟨g1, g2⟩ := sums_kids ih (fun m c b h => box_wide h) hm (ys := p.y) (flow_chain hf hm) (Nat.lt_succ_self m) (flow_par hm) hbs ht (by rw [htm, hw]; rfl)
          exact ⟨g1, fun j hj => g2 j (by omega)⟩
        · cases ha
/-- What FlowSums asks. -/
theorem flow_sums {l : List Nd} (hf : FormedT l) {m : Nat} {c : Ct} {b : Bo} (hm : m < l.length) (h : flowO l m c = some b) :
    Wide c b.f ∧ allP l ((List.replicate l.length 0).set m b.f.w) b.l := by
  unfold flowO at h
  split at h
  · refine ⟨box_wide h, (sums_all hf _ m c b _ hm h (by simp) (getD_set_eq _ (by simpa using hm))).1⟩
  · cases h
end Go.Proofs.Yteplmjgohnbpbaa
