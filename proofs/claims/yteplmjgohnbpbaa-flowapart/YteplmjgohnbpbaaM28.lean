/- Texts of the proof, merged: FLoop, PTop. -/
import Derived.Test.YteplmjgohnbpbaaM15
import Derived.Deep.DeepCutAuto
/- The list of boxes as it grows, and how long it gets: plain mathematics; no conditions beyond those written in each theorem. -/
namespace Go.Proofs.Yteplmjgohnbpbaa
open Go.ChangeShapes Go.WideShapes Go.ChangeAt Go.RowKit
set_option maxRecDepth 100000
theorem boxesO_len {B : Int → Ct → Option Bo} {c : Ct} {K : List Int} {bs : List Bo} (h : boxesO B c K = some bs) : bs.length = K.length := by
  induction K generalizing bs with
  | nil => simp [boxesO] at h; subst h; rfl
  | cons k r ih =>
    unfold boxesO at h
    split at h
    · cases h
    · split at h
      · cases h
      · rename_i b _ l hl
        simp at h
        subst h
        simp [ih hl]
theorem boxesO_snoc {B : Int → Ct → Option Bo} {c : Ct} {K : List Int} {bs : List Bo} {k : Int} {b : Bo} (h : boxesO B c K = some bs) (hb : B k c = some b) : boxesO B c (K ++ [k]) = some (bs ++ [b]) := by
  induction K generalizing bs with
  | nil => simp [boxesO] at h; subst h; simp [boxesO, hb]
  | cons j r ih =>
    unfold boxesO at h
    split at h
    · cases h
    · split at h
      · cases h
      · rename_i x hx _ l hl
        simp at h
        subst h
        rw [List.cons_append]
        unfold boxesO
        rw [hx, ih hl]
        rfl
theorem boxesO_stop {B : Int → Ct → Option Bo} {c : Ct} {K : List Int} {bs : List Bo} {k : Int} {r : List Int} (h : boxesO B c K = some bs) (hb : B k c = none) : boxesO B c (K ++ k :: r) = none := by
  induction K generalizing bs with
  | nil => simp [boxesO, hb]
  | cons j q ih =>
    unfold boxesO at h
    split at h
    · cases h
    · split at h
      · cases h
      · rename_i x hx _ l hl
        rw [List.cons_append]
        unfold boxesO
        rw [hx, ih hl]
/-- How many boxes they are in all. -/
def tot : List Bo → Nat
  | [] => 0
  | b :: r => 1 + b.l.length + tot r
theorem tot_append (a b : List Bo) : tot (a ++ b) = tot a + tot b := by
  induction a with
  | nil => simp [tot]
  | cons x r ih => rw [List.cons_append, tot, tot, ih]; omega
theorem layB_length {K : List Int} {bs : List Bo} (h : K.length = bs.length) : (layB K bs).length = tot bs := by
  induction K generalizing bs with
  | nil => cases bs with
    | nil => rfl
    | cons b r => simp at h
  | cons k r ih => cases bs with
    | nil => simp at h
    | cons b q =>
      have := ih (bs := q) (by simpa using h)
      rw [layB, tot, List.length_cons, List.length_append, this]; omega
theorem layB_snoc {K : List Int} {bs : List Bo} (h : K.length = bs.length) (k : Int) (b : Bo) : layB (K ++ [k]) (bs ++ [b]) = layB K bs ++ (⟨k, b.f⟩ :: b.l) := by
  induction K generalizing bs with
  | nil => cases bs with
    | nil => simp [layB]
    | cons b r => simp at h
  | cons j r ih => cases bs with
    | nil => simp at h
    | cons x q =>
      have := ih (bs := q) (by simpa using h)
      simp only [List.cons_append, layB, this, List.append_assoc]
/-- Where each child stands in the list. -/
def plc (p0 : Nat) : List Bo → List Int
  | [] => []
  | b :: r => (p0 : Int) :: plc (p0 + 1 + b.l.length) r
theorem plc_length (p0 : Nat) (bs : List Bo) : (plc p0 bs).length = bs.length := by
  induction bs generalizing p0 with
  | nil => rfl
  | cons b r ih => rw [plc, List.length_cons, ih, List.length_cons]
theorem plc_snoc (p0 : Nat) (bs : List Bo) (b : Bo) : plc p0 (bs ++ [b]) = plc p0 bs ++ [((p0 + tot bs : Nat) : Int)] := by
  induction bs generalizing p0 with
  | nil => simp [plc, tot]
  | cons x r ih =>
    rw [List.cons_append, plc, plc, ih, List.cons_append, tot]
    congr 3
    omega
theorem plc_at (p0 : Nat) (bs : List Bo) {k : Nat} (hk : k < bs.length) : (plc p0 bs).getD k 0 = ((p0 + tot (bs.take k) : Nat) : Int) := by
  induction bs generalizing p0 k with
  | nil => simp at hk
  | cons b r ih =>
    cases k with
    | zero => simp [plc, tot]
    | succ k =>
      rw [plc, List.take_succ_cons, tot]
      show (plc (p0 + 1 + b.l.length) r).getD k 0 = _
      rw [ih _ (by simpa using hk)]
      congr 1
      omega
/-- The list while the pile's places are laid into it. -/
def layG : List Int → List Bo → List Int → List Pd
  | k :: r, b :: bs, y :: ys => ⟨k, { b.f with y := y }⟩ :: (b.l ++ layG r bs ys)
  | k :: r, b :: bs, [] => ⟨k, b.f⟩ :: (b.l ++ layG r bs [])
  | _, _, _ => []
theorem layG_nil (K : List Int) (bs : List Bo) : layG K bs [] = layB K bs := by
  induction K generalizing bs with
  | nil => cases bs <;> rfl
  | cons k r ih => cases bs with
    | nil => rfl
    | cons b q => simp only [layG, layB, ih]
theorem layG_all {K : List Int} {bs : List Bo} {ys : List Int} (h : ys.length = bs.length) : layG K bs ys = layY K bs ys := by
  induction K generalizing bs ys with
  | nil => cases bs <;> cases ys <;> rfl
  | cons k r ih => cases bs with
    | nil => cases ys <;> rfl
    | cons b q => cases ys with
      | nil => simp at h
      | cons y t => simp only [layG, layY]; rw [ih (by simpa using h)]
theorem layG_step {K : List Int} {bs : List Bo} {ys : List Int} {k : Nat} (h1 : K.length = bs.length) (h2 : ys.length = bs.length) (hk : k < bs.length) :
    ∃ (n : Int) (f : Fr), tot (bs.take k) < (layG K bs (ys.take k)).length ∧ (layG K bs (ys.take k)).getD (tot (bs.take k)) zPd = ⟨n, f⟩ ∧ (layG K bs (ys.take k)).set (tot (bs.take k)) ⟨n, { f with y := ys.getD k 0 }⟩ = layG K bs (ys.take (k + 1)) := by
  induction k generalizing K bs ys with
  | zero =>
    match K, bs, ys with
    | j :: K, b :: bs, y :: ys =>
      refine ⟨j, b.f, by simp [layG, tot], by simp [layG, tot], ?_⟩
      simp [layG, tot]
    | _, [], _ => simp at hk
    | [], _ :: _, _ => simp at h1
    | _, _ :: _, [] => simp at h2
  | succ k ih =>
    match K, bs, ys with
    | j :: K, b :: bs, y :: ys =>
      obtain ⟨n, f, e1, e2, e3⟩ := ih (K := K) (bs := bs) (ys := ys) (by simpa using h1) (by simpa using h2) (by simpa using hk)
      have et : tot ((b :: bs).take (k + 1)) = b.l.length + tot (bs.take k) + 1 := by rw [List.take_succ_cons, tot]; omega
      refine ⟨n, f, ?_, ?_, ?_⟩
      · rw [et, List.take_succ_cons, layG, List.length_cons, List.length_append]; omega
      · rw [et, List.take_succ_cons, layG]
        show (b.l ++ layG K bs (ys.take k)).getD (b.l.length + tot (bs.take k)) zPd = _
        rw [List.getD_eq_getElem?_getD, List.getElem?_append_right (by omega), show b.l.length + tot (bs.take k) - b.l.length = tot (bs.take k) by omega, ← List.getD_eq_getElem?_getD]
        exact e2
      · rw [et, List.take_succ_cons, List.take_succ_cons, layG, layG, List.set_cons_succ, List.set_append_right _ _ (by omega), show b.l.length + tot (bs.take k) - b.l.length = tot (bs.take k) by omega]
        show _ :: (b.l ++ (layG K bs (ys.take k)).set (tot (bs.take k)) ⟨n, { f with y := ys.getD k 0 }⟩) = _
        rw [e3]
    | _, [], _ => simp at hk
    | [], _ :: _, _ => simp at h1
    | _, _ :: _, [] => simp at h2
/-! How far the nodes of a list of children reach. -/
def chainK (l : List Nd) : Nat → List Int → Nat → Prop
  | a, [], e => a ≤ e
  | a, k :: r, e => ∃ m : Nat, k = m ∧ a ≤ m ∧ m < l.length ∧ chainK l (endN l m) r e
theorem chain_le {l : List Nd} {a e : Nat} {K : List Int} (h : chainK l a K e) : a ≤ e := by
  induction K generalizing a with
  | nil => exact h
  | cons k r ih =>
    obtain ⟨m, _, h1, h2, h3⟩ := h
    have := ih h3
    have := end_low h2
    omega
theorem chain_weak {l : List Nd} {a b e : Nat} {K : List Int} (h : chainK l a K e) (hb : b ≤ a) : chainK l b K e := by
  cases K with
  | nil => exact Nat.le_trans hb h
  | cons k r =>
    obtain ⟨m, e1, h1, h2, h3⟩ := h
    exact ⟨m, e1, by omega, h2, h3⟩
theorem chain_snoc {l : List Nd} {a : Nat} {K : List Int} {m : Nat} (h : chainK l a K m) (hm : m < l.length) : chainK l a (K ++ [(m : Int)]) (endN l m) := by
  induction K generalizing a with
  | nil => exact ⟨m, rfl, h, hm, Nat.le_refl _⟩
  | cons k r ih =>
    obtain ⟨j, e1, h1, h2, h3⟩ := h
    exact ⟨j, e1, h1, h2, ih h3⟩
theorem chain_filter {l : List Nd} {a e : Nat} {K : List Int} (p : Int → Bool) (h : chainK l a K e) : chainK l a (K.filter p) e := by
  induction K generalizing a with
  | nil => exact h
  | cons k r ih =>
    obtain ⟨m, e1, h1, h2, h3⟩ := h
    rw [List.filter_cons]
    split
    · exact ⟨m, e1, h1, h2, ih h3⟩
    · have := end_low h2
      exact chain_weak (ih h3) (by omega)
theorem kids_chain {l : List Nd} (h : FormedT l) {n : Nat} (hn : n < l.length) : ∀ d m, endN l n - m ≤ d → n < m → m ≤ endN l n → (m < endN l n → (nd l m).p = n) → chainK l (n + 1) (kidsTo l n m) m → chainK l (n + 1) (kidsTo l n (endN l n)) (endN l n) := by
  intro d
  induction d with
  | zero =>
    intro m hd h1 h2 _ hc
    obtain rfl : m = endN l n := by omega
    exact hc
  | succ d ih =>
    intro m hd h1 h2 hp hc
    rcases Nat.eq_or_lt_of_le h2 with h3 | h3
    · rw [← h3]; exact hc
    · have hml : m < l.length := Nat.lt_of_lt_of_le h3 (end_le hn)
      have hel := end_low hml
      refine ih (endN l m) (by omega) (by omega) (end_kid_le h hml hn (hp h3)) (fun h5 => kid_next h hml hn (hp h3) h5) ?_
      rw [kids_on h hml (hp h3)]
      exact chain_snoc hc hml
theorem flow_chain {l : List Nd} (h : FormedT l) {n : Nat} (hn : n < l.length) : chainK l (n + 1) (flowV l n) (endN l n) := by
  have h1 := kids_chain h hn (endN l n - (n + 1)) (n + 1) (Nat.le_refl _) (by omega) (end_low hn) (fun h2 => kid_first h hn h2) (by rw [kids_begin h hn]; exact Nat.le_refl _)
  rw [flowV_kids]
  refine chain_filter _ ?_
  unfold kidsV
  rw [inB_nat hn, if_pos rfl, kids_end h hn]
  exact h1
theorem chain_mem {l : List Nd} {a e : Nat} {K1 K2 : List Int} {k : Int} (h : chainK l a (K1 ++ k :: K2) e) : ∃ m : Nat, k = m ∧ m < l.length ∧ endN l m ≤ e := by
  induction K1 generalizing a with
  | nil =>
    obtain ⟨m, e1, _, h2, h3⟩ := h
    exact ⟨m, e1, h2, chain_le h3⟩
  | cons j r ih =>
    obtain ⟨m, _, _, _, h3⟩ := h
    exact ih h3
/-- What a box lays is no more than what is below it. -/
def Small (l : List Nd) (B : Int → Ct → Option Bo) : Prop := ∀ (m : Nat) (c : Ct) (b : Bo), m < l.length → B m c = some b → m + 1 + b.l.length ≤ endN l m
theorem chain_tot {l : List Nd} {B : Int → Ct → Option Bo} (hB : Small l B) {c : Ct} {a : Nat} {K1 K2 : List Int} {k : Int} {e : Nat} {bs : List Bo} (h : chainK l a (K1 ++ k :: K2) e) (hb : boxesO B c K1 = some bs) : ∀ m : Nat, k = m → a + tot bs ≤ m := by
  induction K1 generalizing a bs with
  | nil =>
    simp [boxesO] at hb
    subst hb
    intro m hm
    obtain ⟨j, e1, h1, _, _⟩ := h
    simp [tot]
    omega
  | cons j r ih =>
    obtain ⟨q, e1, h1, h2, h3⟩ := h
    unfold boxesO at hb
    split at hb
    · cases hb
    · split at hb
      · cases hb
      · rename_i x hx _ y hy
        simp at hb
        subst hb
        intro m hm
        have := ih h3 hy m hm
        rw [e1] at hx
        have := hB q c x h2 hx
        rw [tot]
        omega
theorem chain_all {l : List Nd} {B : Int → Ct → Option Bo} (hB : Small l B) {c : Ct} {a : Nat} {K : List Int} {e : Nat} {bs : List Bo} (h : chainK l a K e) (hb : boxesO B c K = some bs) : a + tot bs ≤ e := by
  induction K generalizing a bs with
  | nil =>
    simp [boxesO] at hb
    subst hb
    exact h
  | cons j r ih =>
    obtain ⟨q, e1, h1, h2, h3⟩ := h
    unfold boxesO at hb
    split at hb
    · cases hb
    · split at hb
      · cases hb
      · rename_i x hx _ y hy
        simp at hb
        subst hb
        have := ih h3 hy
        rw [e1] at hx
        have := hB q c x h2 hx
        rw [tot]
        omega
theorem layY_length (K : List Int) (bs : List Bo) (ys : List Int) : (layY K bs ys).length ≤ tot bs := by
  induction K generalizing bs ys with
  | nil => cases bs <;> cases ys <;> simp [layY]
  | cons k r ih => cases bs with
    | nil => cases ys <;> simp [layY]
    | cons b q => cases ys with
      | nil => simp [layY]
      | cons y t =>
        have := ih q t
        rw [layY, tot, List.length_cons, List.length_append]
        omega
theorem small_box {l : List Nd} (h : FormedT l) (k : Nat) : Small l (boxO l k) := by
  induction k with
  | zero => intro m c b _ hb; simp [boxO] at hb
  | succ k ih =>
    intro m c b hm hb
    unfold boxO at hb
    split at hb
    · split at hb
      · cases hb
      · rename_i a ha
        split at hb
        · simp at hb
          subst hb
          show m + 1 + a.l.length ≤ _
          unfold contO at ha
          split at ha
          · cases ha
          · rename_i bs hbs
            split at ha
            · cases ha
            · rename_i p hp
              split at ha
              · simp at ha
                subst ha
                have h1 := chain_all ih (flow_chain h hm) hbs
                have h2 := layY_length (flowV l m) bs p.y
                show m + 1 + (layY (flowV l m) bs p.y).length ≤ _
                omega
              · cases ha
        · cases hb
    · cases hb
end Go.Proofs.Yteplmjgohnbpbaa

/- Contracts of the three methods of a pile: a child at the top, a child below, a child; no conditions beyond those written in each theorem. -/
namespace Go.Proofs.Yteplmjgohnbpbaa
open Go.ChangeShapes Go.WideShapes Go.ChangeAt Go.RowKit
set_option maxRecDepth 100000
set_option linter.unusedVariables false
theorem add_plain' (w : World) (a b : Nat) : (⟨a, b, none⟩ : Addr).add 0 = ⟨a, b, none⟩ := add_plain a b 0
/-- x = append(x, y). -/
theorem wpList_pushP {ops : Array Oper} {rest : List Oper} {op : Oper} {a : Act} {w : World} {Q : Exit → Act → World → Prop} (hgd : op.guard = none) (s x : Operand) (ho : op.op = .call { callee := .builtin .append, args := #[s, x], argTypes := #[49, 49] })
    (base : Nat) (v : Value) (l : List Int) (y : Int) (hs : a.eval s = v) (hx : a.eval x = .slice (some ⟨w.heap.size, 0, none⟩) 1 1) (hown : RP w base v l) (hl : l.length ≤ 1000000) (hb : base ≤ w.heap.size)
    (h : ∀ g cap w', RP w' base (.slice (some ⟨g, 0, none⟩) (l.length + 1) cap) (l ++ [y]) → (w.alloc (.cells #[.int .i64 y] 2)).grownBy w' v.ownBlock → wpList Try.prog ops Q rest (a.put op.dst (.slice (some ⟨g, 0, none⟩) (l.length + 1) cap)) w') : wpList Try.prog ops Q (op :: rest) a (w.alloc (.cells #[.int .i64 y] 2)) := by
  obtain ⟨i0, hi, hz0, hz1, hz2⟩ := info_parts info2z
  refine wpList_append_own (P := Try.prog) _ hgd s x 49 ho base 2 i0 (.int .i64 0) 1 8 Try.underlying49 hi hz0 hz1 hz2 rfl (by decide) v l.length (flI l) hs (hown.alloc _) ⟨w.heap.size, 0, none⟩ 1 1 [.int .i64 y] hx rfl (one_atP _ _ _) (by intro u hu; rw [List.mem_singleton] at hu; subst hu; rfl) (by unfold maxLen; omega) (by omega) (by simp; omega) ?_
  intro v' w' h1 h2 _
  obtain ⟨g, cap, rfl⟩ := ownsRow_succ h1
  refine h g cap w' ?_ h2
  unfold RP
  rw [flI_append, List.length_append]
  exact h1
theorem Blk.rulesC {w : World} {B : Nat} {c : Ch} {t : TypeId} (h : Blk w B (chl c) t) : ∀ w', Seen w w' → At8 w' B 0 c := fun w' hs => (h.seen hs).child
theorem Blk.rulesP {w : World} {B : Nat} {stv : Value} {p : Pi} {t : TypeId} (h : Blk w B (pil stv p) t) : ∀ w', Seen w w' → (w'.cell? ⟨B, 0, none⟩ = some stv ∧ w'.cell? ⟨B, 1, none⟩ = some (.int .i64 p.edge) ∧ w'.cell? ⟨B, 2, none⟩ = some (.int .i64 p.top.p) ∧ w'.cell? ⟨B, 3, none⟩ = some (.int .i64 p.top.n) ∧ w'.cell? ⟨B, 4, none⟩ = some (.int .i64 p.cur.p) ∧ w'.cell? ⟨B, 5, none⟩ = some (.int .i64 p.cur.n) ∧ w'.cell? ⟨B, 6, none⟩ = some (.bool p.att) ∧ (∀ o, w'.frozen? ⟨B, o, none⟩ = false)) :=
  fun w' hs => ⟨(h.seen hs).cell 0, (h.seen hs).cell 1, (h.seen hs).cell 2, (h.seen hs).cell 3, (h.seen hs).cell 4, (h.seen hs).cell 5, (h.seen hs).cell 6, (h.seen hs).free⟩
theorem grow_other {W w1 : World} {X : Nat} {l : List Value} {t : TypeId} {base : Nat} {v : Value} {xs : List Int} {tmp : Obj} (h : Blk W X l t) (ht : t ≠ 2) (hr : RP W base v xs) (hg : (W.alloc tmp).grownBy w1 v.ownBlock) : Blk w1 X l t :=
  (hg.block X (h.alloc tmp).lt (fun e => row_apart h ht hr e.symm)).trans (h.alloc tmp)
theorem RP.two {w : World} {B : Nat} {l : List Value} {t : TypeId} {base : Nat} {v : Value} {xs : List Int} (hr : RP w base v xs) (h : Blk w B l t) (ht : t ≠ 2) (o o' : Nat) (u u' : Value) : RP ((w.setCell ⟨B, o, none⟩ u).setCell ⟨B, o', none⟩ u') base v xs := (hr.other h ht o u).other (h.set o u) ht o' u'
theorem RP.three {w : World} {B : Nat} {l : List Value} {t : TypeId} {base : Nat} {v : Value} {xs : List Int} (hr : RP w base v xs) (h : Blk w B l t) (ht : t ≠ 2) (o o' o'' : Nat) (u u' u'' : Value) : RP (((w.setCell ⟨B, o, none⟩ u).setCell ⟨B, o', none⟩ u').setCell ⟨B, o'', none⟩ u'') base v xs := (hr.two h ht o o' u u').other ((h.set o u).set o' u') ht o'' u''
theorem below_set {n : Nat} {w w' : World} (h : Below n w w') {B : Nat} (hB : n ≤ B) (o : Nat) (u : Value) : Below n w (w'.setCell ⟨B, o, none⟩ u) := h.setCell (by simp; omega) u
theorem zs_new (w : World) (a b : Int) (t : TypeId) : ZI (w.alloc (.cells #[.int .i64 a, .int .i64 b] t)) (some ⟨w.heap.size, 0, none⟩) 2 [a, b] := by
  have k := Blk.new w [.int .i64 a, .int .i64 b] t
  refine ⟨rfl, fun _ => ⟨_, _, rfl, fun i hi => ?_⟩⟩
  rcases (show i = 0 ∨ i = 1 by omega) with rfl | rfl
  · exact k.cell 0
  · exact k.cell 1
set_option maxHeartbeats 2000000 in
theorem addAtTop_any (base B : Nat) (v : Value) (p : Pi) (c : Ch) (w : World) (h : PS w base B 51 v p) (hb : base ≤ B) (hl : p.y.length ≤ 100000) :
    Calls Try.prog 88 #[.pointer (some ⟨B, 0, none⟩), chv c] w fun e w' => e = .returned (.bool (topB c)) ∧ (∃ v', PS w' base B 51 v' (topP p c)) ∧ Below base w w' := by
  have hlt := h.blk.lt
  obtain ⟨W, hW⟩ : ∃ W, W = w.alloc (.cells (chl c).toArray 45) := ⟨_, rfl⟩
  have sW : Seen w W := by rw [hW]; exact (Seen.refl w).alloc _
  have kW : Blk W w.heap.size (chl c) 45 := by rw [hW]; exact Blk.new w _ _
  have bW : Hid (Below base w W) := (by rw [hW]; exact (Below.refl base w).alloc (by omega) _ : Below base w W)
  have HP := Lib.hid (h.seen sW)
  have HK := Lib.hid kW
  have c0 := HP.out.blk.cell 0
  have hWs : Hid (base ≤ W.heap.size) := by rw [hW]; unfold Hid; simp; omega
  have HL : Hid (p.y.length ≤ 1000000) := Nat.le_trans hl (by decide)
  have hne : w.heap.size ≠ B := by omega
  have ef : fits_any = fits_any := rfl
  have jn := join_any p.top c.top
  have fn := fits_any c.high
  clear h kW sW hl ef
  obtain ⟨⟨tp, tn⟩, ⟨bp, bn⟩, ⟨ip, inn⟩, thr, hi⟩ := c
  obtain ⟨y, ed, ⟨pp, pn⟩, ⟨cp, cn⟩, att⟩ := p
  simp only at HL jn fn
  obtain ⟨r, hr⟩ : ∃ r, joinS ⟨pp, pn⟩ ⟨tp, tn⟩ = r := ⟨_, rfl⟩
  rw [hr] at jn
  have ER : Hid (joinS ⟨pp, pn⟩ ⟨tp, tn⟩ = r ∧ True) := ⟨hr, trivial⟩
  clear hr
  go_enter Try.func88, Try.ntmps88
  go_upto_region 1 with fail
  simp only [chl] at hW
  rw [← hW]
  clear hW
  go_upto_region 2 with (at_builtin; refine wpList_pushP rfl (.tmp 9) (.tmp 10) rfl base v y 0 rfl rfl HP.out.row HL.out hWs.out ?_; intro g cap w1 hown hgrow; have st := pile_step HP.out (by decide) hb hown hgrow; have ko := grow_other HK.out (by decide) HP.out.row hgrow; have q0 : w1.cell? ⟨B, 0, none⟩ = some v := st.1.cell 0; have q1 := st.1.free 0; have ST := Lib.hid (And.intro st ko); clear st ko hown hgrow c0 HP HK)
  obtain ⟨v', hv'⟩ : ∃ v', Value.slice (some ⟨g, 0, none⟩) (y.length + 1) cap = v' := ⟨_, rfl⟩
  rw [hv'] at ST ⊢
  clear hv'
  obtain ⟨V, hV⟩ : ∃ V, V = w1.setCell ⟨B, 0, none⟩ v' := ⟨_, rfl⟩
  have HV := ST.out.1.2
  have KV := ST.out.2.other (p := ⟨B, 0, none⟩) (by simp; omega) v'
  rw [← hV] at HV KV
  have HV2 := Lib.hid HV
  have KV2 := Lib.hid KV
  rw [← hV]
  clear hV ST q0 q1
  have rP := HV.1.blk.rulesP
  have rC := KV.rulesC
  have sV := Seen.refl V
  have dV := (Seen.refl V).drew
  simp only [At8, Nat.zero_add] at rC
  clear HV KV
  go_cut [] (fun wx => (PS wx base B 51 v' ⟨y ++ [0], ed, r, ⟨cp, cn⟩, att⟩ ∧ Blk wx w.heap.size (chl ⟨⟨tp, tn⟩, ⟨bp, bn⟩, ⟨ip, inn⟩, thr, hi⟩) 45 ∧ Below base w wx : Prop))
  case first =>
    go_region_with (go_at_call 69; refine (jn _).mono ?_; rintro e w2 ⟨rfl, hb2⟩; have s2 : Seen V w2 := dV.next hb2; clear hb2)
    all_goals
      go_wp2_with fail
      go_meet
      have a1 := (HV2.out.1.blk.seen s2).set 2 (.int .i64 r.p)
      refine ⟨⟨a1.set 3 (.int .i64 r.n), ?_⟩, ?_, ?_⟩
      · exact (((HV2.out.1.row.seen s2).other (HV2.out.1.blk.seen s2) (by decide) _ _).other a1 (by decide) _ _)
      · exact ((KV2.out.seen s2).other (by simp; omega) _).other (by simp; omega) _
      · exact (((bW.out.trans HV2.out.2).trans (s2.mono (by have := HV2.out.1.blk.lt; omega))).setCell (by simp; omega) _).setCell (by simp; omega) _
  obtain ⟨P2, K2, B2⟩ := hcut
  have HP2 := Lib.hid P2
  have HB2 := Lib.hid B2
  have HK2 := Lib.hid K2
  have rP2 := P2.blk.rulesP
  have rC2 := K2.rulesC
  simp only [At8, Nat.zero_add] at rC2
  have sV2 := Seen.refl wc
  clear rP rC sV dV HV2 KV2 P2 K2 B2 jn
  cases thr
  · have T1 : Hid (topB ⟨⟨tp, tn⟩, ⟨bp, bn⟩, ⟨ip, inn⟩, false, hi⟩ = fitsB hi) := by unfold Hid topB; rfl
    go_upto_region 6 with fail
    obtain ⟨V5, hV5⟩ : ∃ V5, V5 = wc.setCell ⟨B, 6, none⟩ (.bool false) := ⟨_, rfl⟩
    rw [← hV5]
    have P5 : PS V5 base B 51 v' ⟨y ++ [0], ed, r, ⟨cp, cn⟩, false⟩ := by
      rw [hV5]
      exact ⟨HP2.out.blk.set 6 (.bool false), HP2.out.row.other HP2.out.blk (by decide) _ _⟩
    have K5 := HK2.out.other (p := ⟨B, 6, none⟩) (by simp; omega) (.bool false)
    have B5 : Below base w V5 := by rw [hV5]; exact HB2.out.setCell (by simp; omega) _
    rw [← hV5] at K5
    have HP5 := Lib.hid P5
    have HB5 := Lib.hid B5
    have HK5 := Lib.hid K5
    obtain ⟨b0, b1, b2, b3, b4, b5, b6, f5⟩ := P5.blk.rulesP V5 (Seen.refl _)
    clear b0 b2 b3 b6
    have ac := K5.child
    simp only [At8, Nat.zero_add] at ac
    obtain ⟨-, -, a2, a3, -, -, -, a7⟩ := ac
    clear rP2 rC2 sV2 HP2 HB2 HK2 P5 K5 B5 hV5
    go_cut [] (fun wx => (PS wx base B 51 v' ⟨y ++ [0], hi, r, ⟨bp, bn⟩, false⟩ ∧ Blk wx w.heap.size (chl ⟨⟨tp, tn⟩, ⟨bp, bn⟩, ⟨ip, inn⟩, false, hi⟩) 45 ∧ Below base w wx : Prop))
    case first =>
      go_region_with fail
      all_goals
        go_wp2_with fail
        go_meet
        refine ⟨⟨((HP5.out.blk.set _ _).set _ _).set _ _, HP5.out.row.three HP5.out.blk (by decide) _ _ _ _ _ _⟩, ((HK5.out.other (by simp; omega) _).other (by simp; omega) _).other (by simp; omega) _, (below_set (below_set (below_set HB5.out hb _ _) hb _ _) hb _ _).drew⟩
    obtain ⟨P6, K6, B6⟩ := hcut
    have HP6 := Lib.hid P6
    have HB6 := Lib.hid B6
    have c7 := K6.child.2.2.2.2.2.2.2
    simp only [Nat.zero_add] at c7
    clear HP5 HB5 HK5 P6 K6 B6 a2 a3 a7 b1 b4 b5 f5
    go_wp2_with (go_at_call 76; refine (fn _).mono ?_; rintro e w7 ⟨rfl, rfl⟩)
    go_ret
    exact ⟨ret_bool T1.out.symm, ⟨v', by unfold topP; rw [if_neg (by simp), ER.out.1]; exact HP6.out⟩, HB6.out⟩
  · have T1 : Hid (topB ⟨⟨tp, tn⟩, ⟨bp, bn⟩, ⟨ip, inn⟩, true, hi⟩ = true) := by unfold Hid topB; rfl
    go_wp2_with fail
    go_ret
    exact ⟨ret_bool T1.out.symm, ⟨v', by unfold topP; rw [if_pos rfl, ER.out.1]; exact HP2.out⟩, HB2.out⟩
end Go.Proofs.Yteplmjgohnbpbaa
