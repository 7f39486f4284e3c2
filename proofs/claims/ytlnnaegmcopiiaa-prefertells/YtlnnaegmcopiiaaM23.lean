/- Texts of the proof, merged: PfB, HandS. -/
import Derived.Test.YtlnnaegmcopiiaaM12
import Derived.Test.YtlnnaegmcopiiaaM11
import Derived.Test.YtlnnaegmcopiiaaM22
import Derived.Test.YtlnnaegmcopiiaaM14
import Derived.Test.YtlnnaegmcopiiaaM10
/- A box of units put in last: the preferred width as mathematics; no conditions beyond those written in each theorem. -/
namespace Go.Proofs.Ytlnnaegmcopiiaa
open Go.ChangeShapes Go.WideShapes Go.ChangeAt Go.RowKit
set_option maxRecDepth 100000
/-- The plain style with a width of n units. -/
def wideS (n : Int) : Sty := ⟨true, 0, List.replicate 4 ⟨0, 0⟩ ++ (⟨1, n⟩ :: (List.replicate 9 ⟨0, 0⟩ ++ List.replicate 4 ⟨1, 0⟩)), [0, 0, 0, 0], false, false, 0, false, 0, 0⟩
theorem wide_full (n : Int) : Full (wideS n) := ⟨rfl, rfl⟩
theorem wide_sets (n : Int) : setsL (stl (plainK 4)) 10 [.int .i64 1, .int .i64 n] = stl (wideS n) := rfl
theorem wide_lat (n : Int) : ∀ i, i < 18 → lat (wideS n).lens i = ⟨0, 0⟩ ∨ lat (wideS n).lens i = ⟨1, 0⟩ ∨ lat (wideS n).lens i = ⟨1, n⟩ := by
  intro i hi
  rcases (show i = 0 ∨ i = 1 ∨ i = 2 ∨ i = 3 ∨ i = 4 ∨ i = 5 ∨ i = 6 ∨ i = 7 ∨ i = 8 ∨ i = 9 ∨ i = 10 ∨ i = 11 ∨ i = 12 ∨ i = 13 ∨ i = 14 ∨ i = 15 ∨ i = 16 ∨ i = 17 by omega) with rfl | rfl | rfl | rfl | rfl | rfl | rfl | rfl | rfl | rfl | rfl | rfl | rfl | rfl | rfl | rfl | rfl | rfl <;> first | exact .inl rfl | exact .inr (.inl rfl) | exact .inr (.inr rfl)
theorem wide_formed {n : Int} (h : 0 ≤ n) : formedB (wideS n) = true := by
  refine decide_eq_true ⟨fun i hi => ?_, fun i hi => ?_, fun i hi => ?_, (show ∀ i, i < 4 → 0 ≤ bat [0, 0, 0, 0] i by decide), (show (0 : Int) ≤ 0 ∧ (0 : Int) ≤ 3 ∧ (0 : Int) ≤ 0 ∧ (0 : Int) ≤ 0 ∧ (false = true ∨ (0 : Int) = 0) by decide)⟩
  · rcases wide_lat n i hi with e | e | e <;> rw [e] <;> first | rfl | (unfold lnOk; simp)
  · rcases wide_lat n (4 + i) (by omega) with e | e | e <;> rw [e] <;> first | exact Int.le_refl 0 | exact h
  · rcases (show i = 0 ∨ i = 1 ∨ i = 2 ∨ i = 3 by omega) with rfl | rfl | rfl | rfl <;> exact ⟨Int.one_ne_zero, Int.le_refl 0⟩
theorem wide_within {n : Int} (h : 0 ≤ n) (h2 : n ≤ 65535) : withinB (wideS n) = true := by
  refine decide_eq_true ⟨fun i hi => ?_, (show ∀ i, i < 4 → bat [0, 0, 0, 0] i ≤ 1099511627776 by decide), (show -1073741824 ≤ (0 : Int) ∧ (0 : Int) ≤ 1073741824 ∧ (0 : Int) ≤ 16777216 ∧ (0 : Int) ≤ 16777216 by decide)⟩
  rcases wide_lat n i hi with e | e | e <;> rw [e]
  · rfl
  · rfl
  · unfold lnIn; rw [if_pos rfl]; simp only [decide_eq_true_eq]; exact ⟨by show _ ≤ n; omega, by show n ≤ _; omega⟩
def wideN (n p : Int) : Nd := ⟨wideS n, p, wide_full n⟩
theorem wide_tree {n : Int} (h : 0 ≤ n) : FormedT [wideN n (-1)] := by
  refine ⟨Nat.one_pos, fun i hi => ?_⟩
  obtain rfl : i = 0 := by simpa using hi
  exact ⟨(okAt0 _).2 rfl, wide_formed h⟩
theorem wide_check {n : Int} (h : 0 ≤ n) (h2 : n ≤ 65535) : checkT [wideN n (-1)] = 0 := by
  refine check0 (decide_eq_true (wide_tree h)) (decide_eq_true ⟨(show 1 ≤ 65535 by decide), fun i hi => ?_⟩)
  obtain rfl : i = 0 := by simpa using hi
  rw [deep_root (wide_tree h)]
  exact ⟨by decide, wide_within h h2⟩
theorem check_both {l : List Nd} (h : checkT l = 0) : FormedT l ∧ WithinT l := by
  unfold checkT at h
  cases hf : formedT l
  · rw [hf] at h; simp at h
  · refine ⟨of_decide_eq_true hf, ?_⟩
    cases hw : withinT l
    · rw [hf, hw] at h; simp at h
    · exact of_decide_eq_true hw
/-! One node put in last, below the first. -/
section
variable {l : List Nd} (hf : FormedT l) {x : Nd} (hx : x.p = 0)
theorem nd_snoc {i : Nat} (hi : i < l.length) : nd (l ++ [x]) i = nd l i := nd_append_left hi
include hf
theorem up_snoc (k : Nat) : ∀ {m : Int}, -1 ≤ m → m < l.length → upN (l ++ [x]) k m = upN l k m := by
  induction k with
  | zero => intro m h1 h2; rfl
  | succ k ih =>
    intro m h1 h2
    show par (l ++ [x]) (upN (l ++ [x]) k m) = par l (upN l k m)
    rw [ih h1 h2]
    have h3 := hf.low.up h1 h2 k
    rcases Int.lt_or_le (upN l k m) 0 with h4 | h4
    · rw [par_neg h4, par_neg h4]
    · obtain ⟨j, hj⟩ := Int.eq_ofNat_of_zero_le h4
      rw [hj, par_nat, par_nat, nd_snoc (by omega)]
theorem root_up : ∀ m : Nat, m < l.length → ∃ k, upN l k m = 0 := by
  intro m
  induction m using Nat.strongRecOn with
  | ind m ih =>
    intro hm
    rcases Nat.eq_zero_or_pos m with rfl | h0
    · exact ⟨0, rfl⟩
    · obtain ⟨h1, _⟩ := par_bel hf h0 hm
      have h2 := (par_lt hf hm).2
      obtain ⟨p, hp⟩ := Int.eq_ofNat_of_zero_le h1
      obtain ⟨k, hk⟩ := ih p (by omega) (by omega)
      refine ⟨1 + k, ?_⟩
      rw [upN_add, show upN l 1 (m : Int) = (nd l m).p from par_nat l m, hp]
      exact hk
theorem low_snoc : Low (l ++ [x]) l.length := fun i hi => by rw [nd_snoc hi]; exact hf.low i hi
include hx
theorem formed_snoc (hxf : formedB x.s = true) : FormedT (l ++ [x]) := by
  have hlen : (l ++ [x]).length = l.length + 1 := by simp
  refine ⟨by omega, fun i hi => ?_⟩
  rcases Nat.lt_or_ge i l.length with h | h
  · refine ⟨?_, by rw [nd_snoc h]; exact (hf.2 i h).2⟩
    rcases Nat.eq_zero_or_pos i with rfl | h0
    · rw [okAt0, nd_snoc h]; exact root_par hf
    · rw [okAtS _ h0, nd_snoc h]
      obtain ⟨h1, s, hs⟩ := par_bel hf h0 h
      refine ⟨h1, (above_iff (n := l.length) (by omega) (low_snoc hf) (m := (i : Int) - 1) (by omega) (by omega) h1).2 ⟨s, ?_⟩⟩
      rw [up_snoc hf s (by omega) (by omega)]
      exact hs
  · obtain rfl : i = l.length := by omega
    have h0 := hf.1
    rw [nd_last]
    refine ⟨?_, hxf⟩
    rw [okAtS _ h0, nd_last, hx]
    refine ⟨Int.le_refl 0, (above_iff (n := l.length) (by omega) (low_snoc hf) (m := (l.length : Int) - 1) (by omega) (by omega) (Int.le_refl 0)).2 ?_⟩
    obtain ⟨k, hk⟩ := root_up hf (l.length - 1) (by omega)
    refine ⟨k, ?_⟩
    rw [up_snoc hf k (by omega) (by omega), show (l.length : Int) - 1 = ((l.length - 1 : Nat) : Int) by omega]
    exact hk
variable (hxf : formedB x.s = true)
include hxf
theorem deep_snoc : ∀ i : Nat, i < l.length → deep (l ++ [x]) i = deep l i := by
  have hg := formed_snoc hf hx hxf
  have hlen : (l ++ [x]).length = l.length + 1 := by simp
  intro i
  induction i using Nat.strongRecOn with
  | ind i ih =>
    intro hi
    rcases Nat.eq_zero_or_pos i with rfl | h0
    · rw [deep_root hg, deep_root hf]
    · rw [deep_par hg h0 (by omega), deep_par hf h0 hi, nd_snoc hi]
      obtain ⟨h1, _⟩ := par_bel hf h0 hi
      have h2 := (par_lt hf hi).2
      obtain ⟨p, hp⟩ := Int.eq_ofNat_of_zero_le h1
      rw [hp, ih p (by omega) (by omega)]
theorem made_snoc : ∀ i : Nat, i < l.length → madeB (l ++ [x]) i = madeB l i := by
  have hg := formed_snoc hf hx hxf
  have hlen : (l ++ [x]).length = l.length + 1 := by simp
  intro i
  induction i using Nat.strongRecOn with
  | ind i ih =>
    intro hi
    rcases Nat.eq_zero_or_pos i with rfl | h0
    · rw [made_root hg, made_root hf, nd_snoc hi]
    · rw [made_par hg h0 (by omega), made_par hf h0 hi, nd_snoc hi]
      obtain ⟨h1, _⟩ := par_bel hf h0 hi
      have h2 := (par_lt hf hi).2
      obtain ⟨p, hp⟩ := Int.eq_ofNat_of_zero_le h1
      rw [hp, ih p (by omega) (by omega)]
theorem flowF_snoc {i : Nat} (hi : i < l.length) : flowF (l ++ [x]) i = flowF l i := by
  unfold flowF outB
  rw [made_snoc hf hx hxf i hi, Int.toNat_natCast, nd_snoc hi]
theorem flowTo_snoc (n : Int) : ∀ m, m ≤ l.length → flowTo (l ++ [x]) n m = flowTo l n m := by
  intro m
  induction m with
  | zero => intro _; rfl
  | succ m ih =>
    intro hm
    rw [flow_step, flow_step, ih (by omega), flowF_snoc hf hx hxf (by omega)]
    unfold kidB
    rw [nd_snoc (by omega)]
theorem flowV_snoc {n : Nat} (hn : n < l.length) : flowV (l ++ [x]) n = flowV l n ++ (if n = 0 ∧ flowF (l ++ [x]) l.length = true then [(l.length : Int)] else []) := by
  have hlen : (l ++ [x]).length = l.length + 1 := by simp
  have h0 := hf.1
  unfold flowV
  rw [inB_nat hn, inB_nat (by omega), hlen]
  simp only [if_true]
  rw [flow_step, flowTo_snoc hf hx hxf n l.length (Nat.le_refl _)]
  congr 1
  unfold kidB
  rw [nd_last, hx, decide_eq_true h0, Bool.true_and]
  rcases Nat.eq_zero_or_pos n with rfl | hp
  · simp
  · have : ((0 : Int) == (n : Int)) = false := by simp; omega
    rw [this]
    rw [if_neg (by simp), if_neg (by omega)]
end
theorem sty_snoc {l : List Nd} {x : Nd} {n : Nat} (hn : n < l.length) : styAt (l ++ [x]) n = styAt l n := by
  have hlen : (l ++ [x]).length = l.length + 1 := by simp
  unfold styAt
  rw [inB_nat hn, inB_nat (by omega), Int.toNat_natCast, nd_append_left hn]
theorem prW_congr {O O' : Int → Option Int} : ∀ {K : List Int} {m : Int}, (∀ x ∈ K, O x = O' x) → prW O K m = prW O' K m := by
  intro K
  induction K with
  | nil => intro m _; rfl
  | cons k r ih =>
    intro m h
    unfold prW
    rw [h k List.mem_cons_self]
    cases O' k with
    | none => rfl
    | some x => exact ih fun y hy => h y (List.mem_cons_of_mem _ hy)
theorem prW_last {O : Int → Option Int} {a : Int} : ∀ {K : List Int} {m : Int}, prW O (K ++ [a]) m = match prW O K m with
    | none => none
    | some q => match O a with
      | none => none
      | some x => some (max q x) := by
  intro K
  induction K with
  | nil => intro m; simp only [List.nil_append, prW]; cases O a <;> rfl
  | cons k r ih =>
    intro m
    simp only [List.cons_append, prW]
    cases O k with
    | none => rfl
    | some x => exact ih
theorem pr_fuel {l : List Nd} (hf : FormedT l) : ∀ (f g n : Nat), n < l.length → l.length - n ≤ f → l.length - n ≤ g → prO l f n = prO l g n := by
  intro f
  induction f with
  | zero => intro g n h1 h2 h3; omega
  | succ f ih =>
    intro g n h1 h2 h3
    cases g with
    | zero => omega
    | succ g =>
      unfold prO
      congr 2
      refine prW_congr fun y hy => ?_
      obtain ⟨m, rfl, h4, h5, _⟩ := flow_mem hf hy
      rw [ih g m h5 (by omega) (by omega)]
theorem pr_snoc {l : List Nd} (hf : FormedT l) {x : Nd} (hx : x.p = 0) (hxf : formedB x.s = true) : ∀ (f n : Nat), 0 < n → n < l.length → prO (l ++ [x]) f n = prO l f n := by
  intro f
  induction f with
  | zero => intro n _ _; rfl
  | succ f ih =>
    intro n h0 h1
    have e := flowV_snoc hf hx hxf h1
    rw [if_neg (by omega), List.append_nil] at e
    unfold prO
    rw [sty_snoc h1, e]
    congr 2
    refine prW_congr fun y hy => ?_
    obtain ⟨m, rfl, h4, h5, _⟩ := flow_mem hf hy
    rw [sty_snoc h5, ih m (by omega) h5]
theorem bnd_mono (s : Sty) {a b : Int} (h : a ≤ b) : clampI a (uN (lat s.lens 6) 0) (uN (lat s.lens 7) 1125899906842624) ≤ clampI b (uN (lat s.lens 6) 0) (uN (lat s.lens 7) 1125899906842624) := by
  unfold clampI; omega
theorem wide_pr {l : List Nd} {n : Int} (h : 0 ≤ n) (h2 : n ≤ 65535) (f : Nat) : outP (styAt (l ++ [wideN n 0]) l.length) (prO (l ++ [wideN n 0]) (f + 1) l.length) = some n := by
  have hs : styAt (l ++ [wideN n 0]) l.length = wideS n := by
    unfold styAt
    rw [inB_nat (by simp), Int.toNat_natCast, nd_last]
    rfl
  unfold prO
  rw [hs, if_pos (show (lat (wideS n).lens 4).k = 1 from rfl)]
  have e1 : bndP (wideS n) (some (lat (wideS n).lens 4).n) = some n := by
    show some (clampI n 0 1125899906842624) = some n
    unfold clampI
    congr 1
    omega
  rw [e1]
  show (if sumB [0, 0, 0, n, 0, 0, 0] then some (sumN [0, 0, 0, n, 0, 0, 0]) else none) = some n
  have hi : isum [0, 0, 0, n, 0, 0, 0] = n := by simp [isum]
  have hfit : fitsB n = true := by unfold fitsB; simp; omega
  have hb : sumB [0, 0, 0, n, 0, 0, 0] = true := by
    unfold sumB
    rw [hi, hfit]
    simp [hfit]
    decide
  unfold sumN
  rw [hb, hi]
  rfl
/-- What the law says, as mathematics. -/
theorem wider {l : List Nd} (hf : FormedT l) {n : Int} (h : 0 ≤ n) (h2 : n ≤ 65535) :
    (prefO (l ++ [wideN n 0]) 0).isSome = (prefO l 0).isSome ∧ ((prefO l 0).isSome = true → (prefO l 0).getD 0 ≤ (prefO (l ++ [wideN n 0]) 0).getD 0) := by
  have h0 := hf.1
  have hxf := wide_formed h
  have hlen : (l ++ [wideN n 0]).length = l.length + 1 := by simp
  have hm : (plAt (l ++ [wideN n 0]) 0).made = (plAt l 0).made := by
    have e1 := plAt_nat (l := l) (n := 0) h0
    have e2 := plAt_nat (l := l ++ [wideN n 0]) (n := 0) (by omega)
    rw [show ((0 : Nat) : Int) = 0 from rfl] at e1 e2
    rw [e1, e2]
    exact made_snoc (x := wideN n 0) hf rfl hxf 0 h0
  unfold prefO
  rw [hm]
  cases hmm : (plAt l 0).made with
  | false => exact ⟨rfl, fun h => by cases h⟩
  | true =>
    simp only [if_true]
    obtain ⟨f, hfl⟩ : ∃ f, l.length = f + 1 := ⟨l.length - 1, by omega⟩
    rw [hlen, hfl]
    have e0 : ∀ O : Int → Option Int, (∀ y ∈ flowV l (0 : Nat), O y = (fun k => outP (styAt l k) (prO l f k)) y) → True := fun _ _ => trivial
    have hk : ∀ y ∈ flowV l (0 : Nat), outP (styAt (l ++ [wideN n 0]) y) (prO (l ++ [wideN n 0]) (f + 1) y) = outP (styAt l y) (prO l f y) := fun y hy => by
      obtain ⟨m, rfl, h4, h5, _⟩ := flow_mem hf hy
      rw [sty_snoc (x := wideN n 0) h5, pr_snoc hf rfl hxf (f + 1) m h4 h5, pr_fuel hf (f + 1) f m h5 (by omega) (by omega)]
    have e1 : prO (l ++ [wideN n 0]) (f + 1 + 1) ((0 : Nat) : Int) = bndP (styAt l (0 : Nat)) (if (lat (styAt l (0 : Nat)).lens 4).k = 1 then some (lat (styAt l (0 : Nat)).lens 4).n else prW (fun k => outP (styAt (l ++ [wideN n 0]) k) (prO (l ++ [wideN n 0]) (f + 1) k)) (flowV (l ++ [wideN n 0]) (0 : Nat)) 0) := by
      rw [← sty_snoc (x := wideN n 0) h0]; rfl
    have e2 : prO l (f + 1) ((0 : Nat) : Int) = bndP (styAt l (0 : Nat)) (if (lat (styAt l (0 : Nat)).lens 4).k = 1 then some (lat (styAt l (0 : Nat)).lens 4).n else prW (fun k => outP (styAt l k) (prO l f k)) (flowV l (0 : Nat)) 0) := rfl
    show (prO (l ++ [wideN n 0]) (f + 1 + 1) ((0 : Nat) : Int)).isSome = (prO l (f + 1) ((0 : Nat) : Int)).isSome ∧ ((prO l (f + 1) ((0 : Nat) : Int)).isSome = true → (prO l (f + 1) ((0 : Nat) : Int)).getD 0 ≤ (prO (l ++ [wideN n 0]) (f + 1 + 1) ((0 : Nat) : Int)).getD 0)
    rw [e1, e2]
    by_cases hu : (lat (styAt l (0 : Nat)).lens 4).k = 1
    · rw [if_pos hu, if_pos hu]
      exact ⟨rfl, fun _ => Int.le_refl _⟩
    · rw [if_neg hu, if_neg hu, flowV_snoc (x := wideN n 0) hf rfl hxf h0]
      split
      · rw [prW_last, prW_congr hk]
        cases prW (fun k => outP (styAt l k) (prO l f k)) (flowV l (0 : Nat)) ((0 : Nat) : Int) with
        | none => exact ⟨rfl, fun h => by cases h⟩
        | some q =>
          simp only [wide_pr h h2 f]
          exact ⟨rfl, fun _ => bnd_mono _ (show q ≤ max q n by omega)⟩
      · rw [List.append_nil, prW_congr hk]
        exact ⟨rfl, fun _ => Int.le_refl _⟩
/-- The list with one more is a tree too. -/
theorem wider_check {l : List Nd} (hc : checkT l = 0) (hl : l.length ≤ 60000) {n : Int} (h : 0 ≤ n) (h2 : n ≤ 65535) : checkT (l ++ [wideN n 0]) = 0 := by
  obtain ⟨hf, hw⟩ := check_both hc
  have hxf := wide_formed h
  have h0 := hf.1
  have hg := formed_snoc (x := wideN n 0) hf rfl hxf
  have hlen : (l ++ [wideN n 0]).length = l.length + 1 := by simp
  refine check0 (decide_eq_true hg) (decide_eq_true ⟨by omega, fun i hi => ?_⟩)
  rcases Nat.lt_or_ge i l.length with hi' | hi'
  · rw [deep_snoc (x := wideN n 0) hf rfl hxf i hi', nd_snoc hi']
    exact hw.2 i hi'
  · obtain rfl : i = l.length := by omega
    rw [deep_par hg h0 (by omega), nd_last]
    show 1 + deep (l ++ [wideN n 0]) ((0 : Nat) : Int) ≤ 256 ∧ _
    rw [deep_root hg]
    exact ⟨by decide, wide_within h h2⟩
end Go.Proofs.Ytlnnaegmcopiiaa

/- Small facts for regions taken step by step: a style loaded and compared, strings and numbers compared; no conditions beyond those written in each theorem. -/
namespace Go.Proofs.Ytlnnaegmcopiiaa
open Go.ChangeShapes Go.WideShapes Go.ChangeAt Go.RowKit
set_option maxRecDepth 100000
/-- Number i is not wanted (its guard says no): it is taken first. -/
theorem hTakeNo {P : Program} {ops : Array Oper} {Q : Exit → Act → World → Prop} {md : Region.Mode} {S : World → Prop} (i : Nat) (d : Option Tmp) {fuel : Nat} {listed : Array Bool} {a : Act} {w : World} (hlt : decide (i < ops.size) = true) (hd : (opN ops i).dst = d)
    (hs : Region.noSelect ops = true) (hf : Region.free md ops listed i = true) (hr : (Region.ready md ops listed).contains i = true) (hw : Region.wanted (opN ops i) (yielded ops a.tmps) = false)
    (hQ : ∀ c a w, Q (.panic c) (a.put d undef) w → Q (.panic c) a w) (hS : S w)
    (h : wpAnyH P md ops Q S fuel (listed.setIfInBounds i true) (a.put d undef) w) : wpAnyH P md ops Q S (fuel + 1) listed a w := by
  subst hd
  exact wpAnyH_take (opN_at hlt) hs hf hr hQ (Or.inr ⟨hw, rfl⟩) hS h
theorem run_loadAtS {w : World} {X : Nat} {s : Sty} (h : Hs w X s) (hf : Full s) : (Instr.loadAt 39 (.pointer (some ⟨X, 0, none⟩))).run Try.prog w = .ok (sv s) w := by
  simp only [Instr.loadAt, Instr.sureAddr, Sem.run_bind, Sem.run_pure, Result.andThen_ok, run_loadS h hf]
theorem str_eql (x : _) (p q : Operand) (w : World) : ((do eqGuard .eql 9 p q (.string x) (.string x); binOp .eql 9 (.string x) (.string x)) : Sem Value).run Try.prog w = .ok (.bool true) w := by
  go_simp
theorem int_eql (x : Int) (p q : Operand) (w : World) : ((do eqGuard .eql 3 p q (.int .i64 x) (.int .i64 x); binOp .eql 3 (.int .i64 x) (.int .i64 x)) : Sem Value).run Try.prog w = .ok (.bool true) w := by
  go_simp
theorem sty_eql (s : Sty) (hf : Full s) (p q : Operand) (w : World) : ((do eqGuard .eql 39 p q (sv s) (sv s); binOp .eql 39 (sv s) (sv s)) : Sem Value).run Try.prog w = .ok (.bool true) w := by
  rw [Sem.run_bind, guard_self, Result.andThen_ok, eql_self s hf]
theorem sty_neq (s : Sty) (hf : Full s) (p q : Operand) (w : World) : ((do eqGuard .neq 39 p q (sv s) (sv s); binOp .neq 39 (sv s) (sv s)) : Sem Value).run Try.prog w = .ok (.bool false) w := by
  rw [Sem.run_bind, guard_self, Result.andThen_ok, neq_self s hf]
end Go.Proofs.Ytlnnaegmcopiiaa
