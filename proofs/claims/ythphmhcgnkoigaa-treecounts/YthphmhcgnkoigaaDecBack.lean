/- What was encoded is decoded as it was; counts and parents that do not fit are refused: plain mathematics. No conditions beyond those written in each theorem. -/
import Derived.Test.YthphmhcgnkoigaaDecode
import Derived.Test.YthphmhcgnkoigaaOpenN
namespace Go.Proofs.Ythphmhcgnkoigaa
open Go.ChangeShapes Go.WideShapes Go.ChangeAt Go.RowKit
set_option maxRecDepth 100000
theorem up_take {l : List Nd} {k : Nat} (hl : Low l k) {m : Int} (h0 : -1 ≤ m) (hm : m < k) (j : Nat) : upN (l.take k) j m = upN l j m := by
  induction j with
  | zero => rfl
  | succ j ih =>
    show par (l.take k) (upN (l.take k) j m) = par l (upN l j m)
    rw [ih]
    have h1 := hl.up h0 hm j
    unfold par
    split
    · rfl
    · rw [nd_take (by omega)]
theorem take_snoc {l : List Nd} {k : Nat} (h : k < l.length) : l.take k ++ [nd l k] = l.take (k + 1) := by
  rw [List.take_succ_eq_append_getElem h, nd_eq h]
theorem nd_ext {x : Nd} {s : Sty} {p : Int} (hf : Full s) (hs : s = x.s) (hp : p = x.p) : (⟨s, p, hf⟩ : Nd) = x := by
  subst hs hp; rfl
theorem ok_nd {l : List Nd} (h : ∀ q ∈ l, OkN q) {i : Nat} (hi : i < l.length) : OkN (nd l i) := by
  rw [nd_eq hi]; exact h _ (List.getElem_mem hi)
/-- One node. -/
theorem dec_one {l : List Nd} (hf : FormedT l) (ho : ∀ q ∈ l, OkN q) (hn : l.length ≤ 100000) {k : Nat} (hk : k < l.length) (r : List Int) :
    getE (rst ⟨nodeB l k ++ r, false⟩ (l.take k)) = ⟨r, false⟩ ∧ dnode ⟨nodeB l k ++ r, false⟩ (l.take k) = nd l k := by
  have hlen : (l.take k).length = k := by rw [List.length_take]; omega
  obtain ⟨hok, hform⟩ := hf.2 k hk
  have hfp : FormedP (nd l k).s := of_decide_eq_true hform
  obtain ⟨_, g2, g3⟩ := get_back (ok_nd ho hk).1 hfp r
  have key : rst ⟨nodeB l k ++ r, false⟩ (l.take k) = ⟨encS (nd l k).s ++ r, false⟩ ∧ rpar ⟨nodeB l k ++ r, false⟩ (l.take k) = (nd l k).p := by
    rcases Nat.eq_zero_or_pos k with h0 | h0
    · subst h0
      have hl0 : (l.take 0).length = 0 := hlen
      unfold rst rpar
      rw [if_pos hl0, if_pos hl0]
      exact ⟨rfl, ((okAt0 l).1 hok).symm⟩
    · have hlow : Low l k := hf.low.less (by omega)
      obtain ⟨h1, h2⟩ := ok_pos h0 hok
      have h3 := (deep_next h0 hk (hf.low.less (by omega)) hok).2
      have eb : nodeB l k ++ r = be (stepsAt l k : Nat) 4 ++ (encS (nd l k).s ++ r) := by
        unfold nodeB
        rw [if_neg (by omega), List.append_assoc]
      have e1 : rpar ⟨nodeB l k ++ r, false⟩ (l.take k) = (nd l k).p := by
        unfold rpar
        rw [if_neg (by omega), hlen, eb]
        show upN (l.take k) (tkV 4 (be (stepsAt l k : Nat) 4 ++ (encS (nd l k).s ++ r))).toNat ((k : Int) - 1) = _
        have e5 : (((stepsAt l k : Nat) : Int) % 256 ^ 4).toNat = stepsAt l k := by omega
        rw [tkV_be, e5, up_take hlow (by omega) (by omega), h2]
      refine ⟨?_, e1⟩
      unfold rst
      rw [if_neg (by omega), e1, if_neg (by omega), eb]
      show (⟨tkL 4 (be (stepsAt l k : Nat) 4 ++ (encS (nd l k).s ++ r)), tkB 4 (be (stepsAt l k : Nat) 4 ++ (encS (nd l k).s ++ r)) false⟩ : St) = _
      rw [tkL_be, tkB_be]
  constructor
  · rw [key.1, g3]
  · exact nd_ext _ (by rw [key.1, g2]) key.2
/-- The bytes of all nodes. -/
def nodesB (l : List Nd) : List Int := (List.range l.length).flatMap (nodeB l)
theorem encT_nodes (l : List Nd) : encT l = be l.length 4 ++ nodesB l := rfl
theorem dec_from {l : List Nd} (hf : FormedT l) (ho : ∀ q ∈ l, OkN q) (hn : l.length ≤ 100000) (r : List Int) (m : Nat) :
    ∀ k, k + m ≤ l.length → decN m ⟨(List.range' k m).flatMap (nodeB l) ++ r, false⟩ (l.take k) = (⟨r, false⟩, l.take (k + m)) := by
  induction m with
  | zero => intro k _; rfl
  | succ m ih =>
    intro k hk
    rw [List.range'_succ, List.flatMap_cons, List.append_assoc, decN_step _ _ rfl]
    obtain ⟨h1, h2⟩ := dec_one hf ho hn (k := k) (by omega) ((List.range' (k + 1) m).flatMap (nodeB l) ++ r)
    rw [h1, h2, take_snoc (by omega), ih (k + 1) (by omega), show k + 1 + m = k + (m + 1) by omega]
theorem dec_nodes {l : List Nd} (hf : FormedT l) (ho : ∀ q ∈ l, OkN q) (hn : l.length ≤ 100000) (r : List Int) : decN l.length ⟨nodesB l ++ r, false⟩ [] = (⟨r, false⟩, l) := by
  have := dec_from hf ho hn r l.length 0 (by omega)
  rw [Nat.zero_add, List.take_length, List.take_zero] at this
  unfold nodesB
  rw [List.range_eq_range']
  exact this
theorem decN_add (a b : Nat) (t : St) (l : List Nd) : decN (a + b) t l = decN b (decN a t l).1 (decN a t l).2 := by
  induction a generalizing t l with
  | zero => rw [Nat.zero_add]; rfl
  | succ a ih =>
    cases hb : t.bad with
    | true => rw [decN_bad _ _ hb, decN_bad _ _ hb, decN_bad _ _ hb]
    | false => rw [show a + 1 + b = (a + b) + 1 by omega, decN_step _ _ hb, decN_step _ _ hb, ih]
theorem dec_head (v : Int) (r : List Int) (h0 : 0 ≤ v) (h : v < 4294967296) : decC (be v 4 ++ r) = v.toNat ∧ decA (be v 4 ++ r) = decN v.toNat ⟨r, false⟩ [] := by
  have e : decC (be v 4 ++ r) = v.toNat := by
    unfold decC
    rw [tkV_be, show v % 256 ^ 4 = v by omega]
  refine ⟨e, ?_⟩
  unfold decA
  rw [e]
  show decN _ (⟨tkL 4 (be v 4 ++ r), tkB 4 (be v 4 ++ r) false⟩ : St) [] = _
  rw [tkL_be, tkB_be]
/-- What was encoded, with more behind it. -/
theorem dec_back {l : List Nd} (hf : FormedT l) (ho : ∀ q ∈ l, OkN q) (hn : l.length ≤ 100000) (r : List Int) : decA (encT l ++ r) = (⟨r, false⟩, l) := by
  rw [encT_nodes, List.append_assoc, (dec_head (l.length : Nat) _ (by omega) (by omega)).2]
  exact dec_nodes hf ho hn r
theorem code_back {l : List Nd} (hf : FormedT l) (ho : ∀ q ∈ l, OkN q) (hn : l.length ≤ 100000) : codeT (encT l) = checkT l ∧ (decA (encT l)).2 = l := by
  have h := dec_back hf ho hn []
  rw [List.append_nil] at h
  refine ⟨?_, by rw [h]⟩
  rw [code_yes (by unfold decOk; rw [h]; rfl), h]
/-- Bytes behind the last node. -/
theorem code_more {l : List Nd} (hf : FormedT l) (ho : ∀ q ∈ l, OkN q) (hn : l.length ≤ 100000) (x : Int) : codeT (encT l ++ [x]) = 2 := by
  have h := dec_back hf ho hn [x]
  exact code_no (by unfold decOk; rw [h]; rfl)
/-- A number of nodes that is too large. -/
theorem code_count {l : List Nd} (hf : FormedT l) (ho : ∀ q ∈ l, OkN q) (hn : l.length ≤ 100000) (m : Nat) (hm : m ≤ 100000) : codeT (be ((l.length + 1 + m : Nat) : Int) 4 ++ nodesB l) = 2 := by
  have h0 := hf.1
  have h1 := dec_nodes hf ho hn []
  rw [List.append_nil] at h1
  have h2 : decA (be ((l.length + 1 + m : Nat) : Int) 4 ++ nodesB l) = decN (1 + m) ⟨[], false⟩ l := by
    rw [(dec_head ((l.length + 1 + m : Nat) : Int) _ (by omega) (by omega)).2, Int.toNat_natCast, Nat.add_assoc, decN_add, h1]
  have h3 : rst ⟨[], false⟩ l = ⟨[], true⟩ := by
    unfold rst
    rw [if_neg (by omega)]
    split
    · rfl
    · rfl
  have h4 : (getE ⟨[], true⟩).bad = true := by
    cases h : getOk ⟨[], true⟩ with
    | false => rw [getE, if_neg (by rw [h]; simp)]
    | true => have := (get_eats (s := ⟨[], true⟩) Bytes8.nil h).1; cases this
  refine code_no ?_
  unfold decOk
  rw [h2, Nat.add_comm 1 m, decN_step _ _ rfl, h3, decN_bad _ _ h4]
  show (!(getE ⟨[], true⟩).bad && _) = false
  rw [h4]; rfl
/-- A parent above the first node. -/
theorem code_above {l : List Nd} (hf : FormedT l) (ho : ∀ q ∈ l, OkN q) (hn : l.length ≤ 100000) (d : Nat) (hd : deep l ((l.length : Int) - 1) ≤ d) (hd2 : d < 4294967296) (r : List Int) :
    codeT (be ((l.length + 1 : Nat) : Int) 4 ++ (nodesB l ++ (be (d : Int) 4 ++ r))) = 2 := by
  have h0 := hf.1
  have h1 := dec_nodes hf ho hn (be (d : Int) 4 ++ r)
  have h2 : decA (be ((l.length + 1 : Nat) : Int) 4 ++ (nodesB l ++ (be (d : Int) 4 ++ r))) = decN 1 ⟨be (d : Int) 4 ++ r, false⟩ l := by
    rw [(dec_head ((l.length + 1 : Nat) : Int) _ (by omega) (by omega)).2, Int.toNat_natCast, decN_add, h1]
  have hds := deep_spec (l := l) (m := (l.length : Int) - 1) (Nat.le_refl _) hf.low (by omega) (by omega)
  have hup : upN l d ((l.length : Int) - 1) < 0 := by
    rw [show d = deep l ((l.length : Int) - 1) + (d - deep l ((l.length : Int) - 1)) by omega, upN_add]
    have h5 := (hf.low.up (m := (l.length : Int) - 1) (by omega) (by omega) (deep l ((l.length : Int) - 1))).1
    rw [show upN l (deep l ((l.length : Int) - 1)) ((l.length : Int) - 1) = -1 by omega, up_neg]; omega
  have hrp : rpar ⟨be (d : Int) 4 ++ r, false⟩ l < 0 := by
    unfold rpar
    rw [if_neg (by omega)]
    show upN l (tkV 4 (be (d : Int) 4 ++ r)).toNat _ < 0
    have e5 : ((d : Int) % 256 ^ 4).toNat = d := by omega
    rw [tkV_be, e5]
    exact hup
  have h3 : rst ⟨be (d : Int) 4 ++ r, false⟩ l = ⟨[], true⟩ := by
    unfold rst
    rw [if_neg (by omega), if_pos hrp]
  have h4 : (getE ⟨[], true⟩).bad = true := by
    cases h : getOk ⟨[], true⟩ with
    | false => rw [getE, if_neg (by rw [h]; simp)]
    | true => have := (get_eats (s := ⟨[], true⟩) Bytes8.nil h).1; cases this
  refine code_no ?_
  unfold decOk
  rw [h2, decN_step _ _ rfl, h3, decN_bad _ _ h4]
  show (!(getE ⟨[], true⟩).bad && _) = false
  rw [h4]; rfl
end Go.Proofs.Ythphmhcgnkoigaa
