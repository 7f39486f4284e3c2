/- Bytes read as nodes: plain mathematics. No conditions beyond those written in each theorem. -/
import Derived.Test.YthphmhcgnkoigaaNd
import Derived.Test.YthphmhcgnkoigaaSteps
namespace Go.Proofs.Ythphmhcgnkoigaa
open Go.ChangeShapes Go.WideShapes Go.ChangeAt Go.RowKit
set_option maxRecDepth 100000
/-- The parent of the node that follows l, as the bytes say it. -/
def rpar (t : St) (l : List Nd) : Int := if l.length = 0 then -1 else upN l (tkV 4 t.l).toNat ((l.length : Int) - 1)
/-- What is left behind it; a parent above the first node makes it bad. -/
def rst (t : St) (l : List Nd) : St := if l.length = 0 then t else if rpar t l < 0 then ⟨[], true⟩ else adv 4 t
/-- The node. -/
def dnode (t : St) (l : List Nd) : Nd := ⟨getV (rst t l), rpar t l, getV_full _⟩
/-- So many nodes read, until something is bad. -/
def decN : Nat → St → List Nd → St × List Nd
  | 0, t, l => (t, l)
  | c + 1, t, l => if t.bad = true then (t, l) else decN c (getE (rst t l)) (l ++ [dnode t l])
theorem decN_bad (c : Nat) {t : St} (l : List Nd) (h : t.bad = true) : decN c t l = (t, l) := by
  cases c with
  | zero => rfl
  | succ c => rw [decN, if_pos h]
theorem decN_step (c : Nat) {t : St} (l : List Nd) (h : t.bad = false) : decN (c + 1) t l = decN c (getE (rst t l)) (l ++ [dnode t l]) := by
  rw [decN, if_neg (by rw [h]; simp)]
theorem up_neg (l : List Nd) (k : Nat) : upN l k (-1) = -1 := by
  induction k with
  | zero => rfl
  | succ k ih => show par l (upN l k (-1)) = -1; rw [ih]; rfl
theorem rpar_low {t : St} {l : List Nd} (h : Low l l.length) : -1 ≤ rpar t l ∧ rpar t l < l.length := by
  unfold rpar
  split
  · omega
  · have := h.up (m := (l.length : Int) - 1) (by omega) (by omega) (tkV 4 t.l).toNat
    omega
theorem low_snoc {l : List Nd} {x : Nd} (h : Low l l.length) (hx : -1 ≤ x.p ∧ x.p < l.length) : Low (l ++ [x]) (l ++ [x]).length := by
  intro i hi
  rw [List.length_append, List.length_singleton] at hi
  rcases Nat.lt_or_ge i l.length with h1 | h1
  · rw [nd_append_left h1]; exact h i h1
  · obtain rfl : i = l.length := by omega
    rw [nd_last]; exact hx
theorem getE_ok {s : St} (h : Bytes8 s.l) : Bytes8 (getE s).l := by
  unfold getE
  split
  · rename_i hg
    have := (get_eats h hg).2.1
    rw [getE, if_pos hg] at this
    intro x hx
    refine h x ?_
    rw [this]
    exact List.mem_append_right _ hx
  · exact Bytes8.nil
theorem getE_gone (s : St) (h : Bytes8 s.l) : (getE s).bad = true → (getE s).l = [] := by
  intro hb
  cases hg : getOk s with
  | true => rw [(get_eats h hg).2.2.1] at hb; cases hb
  | false => rw [getE, if_neg (by rw [hg]; simp)]
/-- What is known while nodes are read; M: how many bytes there were. -/
structure DI (M : Nat) (t : St) (l : List Nd) : Prop where
  low : Low l l.length
  bytes : Bytes8 t.l
  gone : t.bad = true → t.l = []
  room : t.bad = false → l.length + t.l.length ≤ M
  most : l.length ≤ M + 1
theorem rst_ok {t : St} {l : List Nd} (h : Bytes8 t.l) : Bytes8 (rst t l).l := by
  unfold rst
  split
  · exact h
  · split
    · exact Bytes8.nil
    · exact adv_ok h 4
theorem adv_len (n : Nat) (t : St) : (adv n t).l.length ≤ t.l.length := by
  show (tkL n t.l).length ≤ _
  unfold tkL
  split
  · simp
  · simp
theorem rst_len (t : St) (l : List Nd) : (rst t l).l.length ≤ t.l.length := by
  unfold rst
  split
  · exact Nat.le_refl _
  · split
    · simp
    · exact adv_len 4 t
theorem DI.step {M : Nat} {t : St} {l : List Nd} (h : DI M t l) (hb : t.bad = false) : DI M (getE (rst t l)) (l ++ [dnode t l]) := by
  have h1 := rst_ok (l := l) h.bytes
  have h2 := h.room hb
  refine ⟨low_snoc h.low (rpar_low h.low), getE_ok h1, getE_gone _ h1, fun he => ?_, by rw [List.length_append, List.length_singleton]; omega⟩
  cases hg : getOk (rst t l) with
  | false => rw [getE, if_neg (by rw [hg]; simp)] at he; cases he
  | true =>
    have h3 := (get_eats h1 hg).2.1
    have h4 := congrArg List.length h3
    have h5 := encS_pos (getV (rst t l))
    have h6 := rst_len t l
    rw [List.length_append] at h4
    rw [List.length_append, List.length_singleton]
    omega
theorem DI.start {l : List Int} (h : Bytes8 l) : DI l.length (adv 4 ⟨l, false⟩) [] := by
  refine ⟨fun i hi => absurd hi (by simp), adv_ok h 4, fun hb => ?_, fun _ => by have := adv_len 4 ⟨l, false⟩; simpa using this, by simp⟩
  have hb' : tkB 4 l false = true := hb
  show tkL 4 l = []
  unfold tkB at hb'
  unfold tkL
  split at hb'
  · rename_i h1; rw [if_pos h1]
  · cases hb'
/-- All of it. -/
def decC (l : List Int) : Nat := (tkV 4 l).toNat
def decA (l : List Int) : St × List Nd := decN (decC l) (adv 4 ⟨l, false⟩) []
/-- Whether nothing was missing and nothing is left. -/
def decOk (l : List Int) : Bool := !(decA l).1.bad && decide ((decA l).1.l.length = 0)
/-- What Decode says of them. -/
def codeT (l : List Int) : Int := if decOk l then checkT (decA l).2 else 2
end Go.Proofs.Ythphmhcgnkoigaa
