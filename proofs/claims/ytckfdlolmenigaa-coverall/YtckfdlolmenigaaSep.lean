/- A loop over an iterator that keeps state of its own in memory: each side says which blocks are its own; no conditions beyond those written in each theorem. -/
import Derived.RangeFuncNested
import Derived.RangeFuncLeaves
import Derived.RangeFuncBound
import Derived.ControlIn
namespace Go.Proofs.Ytckfdlolmenigaa
open Go.RowKit
/-- The blocks of the set T lie as they lay; no block has gone. -/
structure Keeps (T : Nat → Prop) (W W' : World) : Prop where
  size : W.heap.size ≤ W'.heap.size
  block : ∀ k, T k → W'.heap[k]? = W.heap[k]?
/-- A step of the owner of T, who owns T' behind it: of the old blocks only those of T have turned, and what is newly owned is a new block. -/
structure Moves (T T' : Nat → Prop) (W W' : World) : Prop where
  os : W'.os = W.os
  tape : W'.tape = W.tape
  output : W'.output = W.output
  size : W.heap.size ≤ W'.heap.size
  block : ∀ k, k < W.heap.size → ¬ T k → W'.heap[k]? = W.heap[k]?
  own : ∀ k, T' k → T k ∨ W.heap.size ≤ k
theorem Keeps.refl (T : Nat → Prop) (W : World) : Keeps T W W := ⟨Nat.le_refl _, fun _ _ => rfl⟩
theorem Keeps.trans {T : Nat → Prop} {A B C : World} (h : Keeps T A B) (k : Keeps T B C) : Keeps T A C := ⟨Nat.le_trans h.size k.size, fun i hi => (k.block i hi).trans (h.block i hi)⟩
theorem Keeps.cell {T : Nat → Prop} {W W' : World} (h : Keeps T W W') {p : Addr} (hp : T p.block) : W'.cell? p = W.cell? p := World.cell?_of_block (h.block p.block hp)
theorem Keeps.of_below {T : Nat → Prop} {n : Nat} {W W' : World} (h : Below n W W') (ht : ∀ k, T k → k < n) : Keeps T W W' := ⟨h.size, fun k hk => h.block k (ht k hk)⟩
theorem Keeps.of_grown {T : Nat → Prop} {W W' : World} {row : Option Nat} (h : W.grownBy W' row) (ht : ∀ k, T k → k < W.heap.size ∧ some k ≠ row) : Keeps T W W' := ⟨h.size, fun k hk => h.block k (ht k hk).1 (ht k hk).2⟩
theorem Keeps.putObj {T : Nat → Prop} (W : World) (l : Nat) (o : Obj) (h : ¬ T l) : Keeps T W (W.putObj l o) := ⟨by simp, fun k hk => World.putObj_heap_other (fun e => h (e ▸ hk))⟩
theorem Moves.refl (T : Nat → Prop) (W : World) : Moves T T W W := ⟨rfl, rfl, rfl, Nat.le_refl _, fun _ _ _ => rfl, fun _ h => .inl h⟩
theorem Moves.trans {T T' T'' : Nat → Prop} {A B C : World} (h : Moves T T' A B) (k : Moves T' T'' B C) : Moves T T'' A C :=
  ⟨k.os.trans h.os, k.tape.trans h.tape, k.output.trans h.output, Nat.le_trans h.size k.size,
   fun i hi ht => (k.block i (Nat.lt_of_lt_of_le hi h.size) (fun h' => (h.own i h').elim ht (fun h2 => absurd hi (Nat.not_lt.2 h2)))).trans (h.block i hi ht),
   fun i hi => (k.own i hi).elim (h.own i) (fun h2 => .inr (Nat.le_trans h.size h2))⟩
/-- The iterator writes blocks that are newer than the world in which it began. -/
theorem Moves.newer {T T' : Nat → Prop} {A B C : World} (h : Moves T T' A B) (k : Below A.heap.size B C) : Moves T T' A C :=
  ⟨k.os.trans h.os, k.tape.trans h.tape, k.output.trans h.output, Nat.le_trans h.size k.size, fun i hi ht => (k.block i hi).trans (h.block i hi ht), h.own⟩
theorem Moves.of_below {T : Nat → Prop} {W W' : World} (h : Below W.heap.size W W') : Moves T T W W' := (Moves.refl T W).newer h
theorem Moves.of_grown {T : Nat → Prop} {W W' : World} {row : Option Nat} (h : W.grownBy W' row) (hr : ∀ k, row = some k → T k) : Moves T T W W' :=
  ⟨h.os, h.tape, h.output, h.size, fun k hk ht => h.block k hk (fun e => ht (hr k e.symm)), fun _ h => .inl h⟩
theorem Moves.alloc (T : Nat → Prop) (W : World) (o : Obj) : Moves T (fun k => T k ∨ k = W.heap.size) W (W.alloc o) :=
  ⟨rfl, rfl, rfl, by simp, fun k hk _ => Below.heap_alloc W o k hk, fun k hk => hk.elim .inl (fun e => .inr (Nat.le_of_eq e.symm))⟩
theorem Moves.setCell {T : Nat → Prop} (W : World) {p : Addr} (hp : T p.block) (v : Value) : Moves T T W (W.setCell p v) :=
  ⟨rfl, rfl, rfl, by simp [World.setCell], fun k _ ht => Below.heap_setCell W p v k (fun e => ht (e ▸ hp)), fun _ h => .inl h⟩
theorem Moves.putObj {T : Nat → Prop} (W : World) {l : Nat} (hl : T l) (o : Obj) : Moves T T W (W.putObj l o) :=
  ⟨rfl, rfl, rfl, by simp, fun k _ ht => World.putObj_heap_other (fun e => ht (e ▸ hl)), fun _ h => .inl h⟩
theorem Moves.less {T T' T'' : Nat → Prop} {W W' : World} (h : Moves T T' W W') (hs : ∀ k, T'' k → T' k) : Moves T T'' W W' := ⟨h.os, h.tape, h.output, h.size, h.block, fun k hk => h.own k (hs k hk)⟩
theorem Moves.below {T T' : Nat → Prop} {W W' : World} {n : Nat} (h : Moves T T' W W') (hn : n ≤ W.heap.size) (ht : ∀ k, T k → n ≤ k) : Below n W W' :=
  ⟨h.os, h.tape, h.output, h.size, fun k hk => h.block k (Nat.lt_of_lt_of_le hk hn) (fun e => absurd (ht k e) (Nat.not_le.2 hk))⟩
theorem Moves.keeps {T T' K : Nat → Prop} {W W' : World} (h : Moves T T' W W') (hk : ∀ k, K k → k < W.heap.size ∧ ¬ T k) : Keeps K W W' := ⟨h.size, fun k hK => h.block k (hk k hK).1 (hk k hK).2⟩

/-- What is said hangs on the blocks of T alone. -/
def Local {β : Type} (J : β → (Nat → Prop) → World → Prop) : Prop := ∀ s T W W', J s T W → Keeps T W W' → J s T W'
/-- What is owned has been laid. -/
def Low {β : Type} (J : β → (Nat → Prop) → World → Prop) : Prop := ∀ s T W, J s T W → ∀ k, T k → k < W.heap.size

/-- What a round answers: it goes on, or it has said 'no more'. -/
def RoundEnds {α : Type} (J Jx : List α → (Nat → Prop) → World → Prop) (xs : List α) (T : Nat → Prop) (W : World) (e : Ending) (W' : World) : Prop :=
  ∃ T', Moves T T' W W' ∧ ((e = .returned (.bool true) ∧ J xs T' W') ∨ (e = .returned (.bool false) ∧ Jx xs T' W'))
/-- What an iterator over the list R leaves. -/
def SeqEnds {α : Type} (J Jx : List α → (Nat → Prop) → World → Prop) (R : List α) (T : Nat → Prop) (W : World) (e : Ending) (W' : World) : Prop :=
  (∃ v, e = .returned v) ∧ ∃ T', Moves T T' W W' ∧ (J R T' W' ∨ ∃ pre, pre <+: R ∧ Jx pre T' W')
/-- The value (gf, lb), called in W, hands on the elements of R one by one; the blocks of K are what it reads of what was there. -/
def SeqSep {α : Type} (P : Program) (gf : Nat) (lb : Array Value) (encs : α → Array Value) (R : List α) (K : Nat → Prop) (W : World) : Prop :=
  ∀ (l : Nat) (J Jx : List α → (Nat → Prop) → World → Prop) (T : Nat → Prop), Local J → Local Jx → Low J →
    (∀ m pre x T1 W1, J pre T1 W1 → (pre ++ [x]) <+: R → YieldAt Fence.wide m P l (encs x) W1 (RoundEnds J Jx (pre ++ [x]) T1 W1)) →
    J [] T W → (∀ k, T k → ¬ K k) → Calls P gf (#[.func (.yield l) #[] #[]] ++ lb) W (SeqEnds J Jx R T W)

/-- How the body of a round may be left. -/
def sepPost {α : Type} (I : List α → (Nat → Prop) → World → Prop) (Ix : Code → List α → (Nat → Prop) → World → Prop) (xs : List α) (T : Nat → Prop) (W : World) : Exit → Act → World → Prop
  | .normal, _, W' => ∃ T', Moves T T' W W' ∧ I xs T' W'
  | .ret, _, W' => ∃ T', Moves T T' W W' ∧ Ix .ret xs T' W'
  | .exit id, _, W' => ∃ T', Moves T T' W W' ∧ Ix (.exit id) xs T' W'
  | .goto t, _, W' => ∃ T', Moves T T' W W' ∧ Ix (.goto t) xs T' W'
  | .panic _, _, _ => False
  | .outgrown, _, _ => False

/-- T and the loop's own two blocks. -/
def plus2 (T : Nat → Prop) (D : Nat) (k : Nat) : Prop := T k ∨ k = D ∨ k = D + 1
/-- The caller's word with the loop's record and the block for deferred calls beside it. -/
def withRec (X : (Nat → Prop) → World → Prop) (D : Nat) (o : Obj) (U : Nat → Prop) (W : World) : Prop :=
  ∃ T, U = plus2 T D ∧ X T W ∧ ¬ T D ∧ ¬ T (D + 1) ∧ W.heap[D + 1]? = some o ∧ W.heap[D]? = some (.deferred (some []))
theorem withRec_local {β : Type} {X : β → (Nat → Prop) → World → Prop} (h : Local X) (D : Nat) (o : β → Obj) : Local (fun s => withRec (X s) D (o s)) := by
  rintro s U W W' ⟨T, rfl, hx, h1, h2, hl, hd⟩ hk
  exact ⟨T, rfl, h s T W W' hx ⟨hk.size, fun k ht => hk.block k (.inl ht)⟩, h1, h2, (hk.block _ (.inr (.inr rfl))).trans hl, (hk.block _ (.inr (.inl rfl))).trans hd⟩

theorem wpIn_rangeFunc_sep {α : Type} {P : Program} {n : Nat} {g : Operand} {ps : Array Tmp} {assign body : Code} {Q : Exit → Act → World → Prop} {a : Act} {w : World}
    {gf : Nat} {lb : Array Value} (hg : a.eval g = .func (.func gf) #[] lb) (eg : ∀ args w, (callFunc gf args).run P w = .ok (.enter gf args) w)
    {encs : α → Array Value} {R : List α} {K : Nat → Prop} (hK : ∀ k, K k → k < w.heap.size) (hseq : ∀ W, Below w.heap.size w W → SeqSep P gf lb encs R K W) (hps : ∀ x, (encs x).size = ps.size)
    (I : List α → (Nat → Prop) → World → Prop) (Ix : Code → List α → (Nat → Prop) → World → Prop) (M : List α × α × Act → (Nat → Prop) → World → Prop)
    (hI : Local I) (hIx : ∀ c, Local (Ix c)) (hM : Local M) (low : Low I) (T0 : Nat → Prop) (h0 : I [] T0 w) (hT0 : ∀ k, T0 k → ¬ K k)
    (hassign : ∀ (l : Nat) (pre : List α) (x : α) (T : Nat → Prop) (W : World) (Ka : Act → World → Prop), I pre T W → (pre ++ [x]) <+: R → (∀ a' T' W', Moves T T' W W' → M (pre, x, a') T' W' → Ka a' W') →
      assign.wpIn (Fence.wide.inRound l) (n - 1 - 1) P (Exit.then Ka (fun _ _ _ => False)) { tmps := (ps.zip (encs x)).foldl (fun t (p, v) => t.setIfInBounds p v) a.tmps, defers := [] } W)
    (hbody : ∀ (l : Nat) (pre : List α) (x : α) (a' : Act) (T : Nat → Prop) (W : World), M (pre, x, a') T W → (pre ++ [x]) <+: R → body.wpIn (Fence.wide.inRound l) (n - 1 - 1) P (sepPost I Ix (pre ++ [x]) T W) a' W)
    (hdone : ∀ (D : Nat) (T : Nat → Prop) (W : World), w.heap.size ≤ D → Moves T0 T w W → I R T W → ¬ T D → W.heap[D]? = some (.deferred (some [])) → Q .normal { a with defers := { target := .collected D, args := #[] } :: a.defers } W)
    (hstop : ∀ (D : Nat) (c : Code) (pre : List α) (T : Nat → Prop) (W : World), w.heap.size ≤ D → Moves T0 T w W → pre <+: R → Ix c pre T W → ¬ T D → W.heap[D]? = some (.deferred (some [])) → c.wpIn Fence.wide n P Q { a with defers := { target := .collected D, args := #[] } :: a.defers } W) :
    (Code.rangeFunc g ps assign body).wpIn Fence.wide n P Q a w := by
  refine wpIn_rangeFunc fun fn _ => ?_
  obtain ⟨D, hD⟩ : ∃ D, w.heap.size = D := ⟨_, rfl⟩
  obtain ⟨rec, hrec⟩ : ∃ rec : LoopState → Option Code → Loop, rec = fun st pe => { state := st, pending := pe, fn, tmps := a.tmps, params := ps, assign, body, defers := D } := ⟨_, rfl⟩
  obtain ⟨W1, hW1⟩ : ∃ W1, (w.alloc (.deferred (some []))).alloc (.loop (rec .ready none)) = W1 := ⟨_, rfl⟩
  have b1 : Below w.heap.size w W1 := by rw [← hW1]; exact ((Below.refl _ w).alloc (Nat.le_refl _) _).alloc (by simp) _
  have s1 : W1.heap.size = D + 2 := by rw [← hW1]; simp [hD]
  have l1 : W1.heap[D + 1]? = some (.loop (rec .ready none)) := by
    rw [← hW1]; have := World.alloc_heap_new (w.alloc (.deferred (some []))) (.loop (rec .ready none)); rwa [World.size_alloc, hD] at this
  have d1 : W1.heap[D]? = some (.deferred (some [])) := by
    rw [← hW1]; refine (Below.heap_alloc _ _ _ (by simp [hD])).trans ?_; have := World.alloc_heap_new w (.deferred (some [])); rwa [hD] at this
  have n0 : ¬ T0 D ∧ ¬ T0 (D + 1) := ⟨fun h => by have := low _ _ _ h0 _ h; omega, fun h => by have := low _ _ _ h0 _ h; omega⟩
  have i1 : I [] T0 W1 := hI _ _ _ _ h0 (Keeps.of_below b1 (low _ _ _ h0))
  refine ⟨D + 1, [{ target := .collected D, args := #[] }], W1, { target := .fn (.func gf) lb, args := #[.func (.yield (D + 1)) #[] #[]] }, W1, gf, #[.func (.yield (D + 1)) #[] #[]] ++ lb, W1, ?_, ?_, fun _ _ => trivial, ?_, fun h => (by cases h), ?_⟩
  · rw [← hW1, hrec, ← hD]; exact run_enterLoop_outer _ _ _ _ _
  · simp only [resolve, hg]
    simp [go_sem]
  · simp [invoke, go_sem, eg]
  refine callsIn_wide.2 ((hseq W1 b1 (D + 1) (fun pre => withRec (I pre) D (.loop (rec .ready none))) (fun pre U W => ∃ c, withRec (Ix c pre) D (.loop (rec .done (some c))) U W) (plus2 T0 D) (withRec_local hI D _) ?_ ?_ ?_ ⟨T0, rfl, i1, n0.1, n0.2, l1, d1⟩ ?_).mono ?_)
  · rintro s U W W' ⟨c, h⟩ hk
    exact ⟨c, withRec_local (hIx c) D (fun _ => _) s U W W' h hk⟩
  · rintro s U W ⟨T, rfl, hx, h1, h2, hl, hd⟩ k (hk | rfl | rfl)
    · exact low _ _ _ hx k hk
    · exact (Array.getElem?_eq_some_iff.1 hd).1
    · exact (Array.getElem?_eq_some_iff.1 hl).1
  · -- one round
    rintro m pre x U W ⟨T, rfl, hi, nD, nL, hl, hd⟩ hpre
    have hLs : D + 1 < W.heap.size := (Array.getElem?_eq_some_iff.1 hl).1
    have hy := run_yield (P := P) (args := encs x) hl (by rw [hrec]; exact hps x)
    rw [hrec] at hy
    refine ⟨fn, _, assign, body, hy, ?_⟩
    clear hy
    have wide : ∀ {m m' : Nat} {R' : Ending → World → Prop} {tm : Array Value}, RoundIn Fence.wide m P (D + 1) fn tm assign body W R' → RoundIn Fence.wide m' P (D + 1) fn tm assign body W R' := fun h => ⟨trivial, fun c cs _ => h.2 c cs (room_wide _)⟩
    refine wide (m := n - 1 - 1) (roundIn_of_wpIn trivial (hassign _ pre x T W _ hi hpre ?_))
    intro a' Ta Wa mva hm
    have hla : Wa.heap[D + 1]? = some (.loop (rec .ready none)) := (mva.block _ hLs nL).trans hl
    have hda : Wa.heap[D]? = some (.deferred (some [])) := (mva.block _ (by omega) nD).trans hd
    have naL : ¬ Ta (D + 1) := fun h => (mva.own _ h).elim nL (fun h => by omega)
    have naD : ¬ Ta D := fun h => (mva.own _ h).elim nD (fun h => by omega)
    have hLa : D + 1 < Wa.heap.size := (Array.getElem?_eq_some_iff.1 hla).1
    refine ⟨_, run_beginRound hla (by rw [hrec]), ?_⟩
    obtain ⟨Wb, hWb⟩ : ∃ Wb, Wa.putObj (D + 1) (.loop { rec .ready none with state := .busy }) = Wb := ⟨_, rfl⟩
    rw [hWb]
    have hlb : Wb.heap[D + 1]? = some (.loop { rec .ready none with state := .busy }) := by rw [← hWb]; exact World.putObj_heap_same hLa
    have hdb : Wb.heap[D]? = some (.deferred (some [])) := by rw [← hWb]; exact (World.putObj_heap_other (by omega)).trans hda
    have sb : Wb.heap.size = Wa.heap.size := by rw [← hWb]; simp
    have mvb : Moves (plus2 Ta D) (plus2 Ta D) Wa Wb := by rw [← hWb]; exact Moves.putObj _ (.inr (.inr rfl)) _
    have up : ∀ {A B : Nat → Prop} {X Y : World}, Moves A B X Y → Moves (plus2 A D) (plus2 B D) X Y := fun h => ⟨h.os, h.tape, h.output, h.size, fun k hk ht => h.block k hk (fun e => ht (.inl e)), fun k hk => hk.elim (fun e => (h.own k e).imp .inl id) (fun e => .inl (.inr e))⟩
    refine wpIn_mono (hbody _ pre x a' Ta Wb (hM _ _ _ _ hm (by rw [← hWb]; exact Keeps.putObj _ _ _ naL)) hpre) ?_
    have fin : ∀ (jump : Option Code) (T' : Nat → Prop) (W3 : World), Moves Ta T' Wb W3 →
        (Instr.endRound (D + 1) jump).run P W3 = .ok (.bool jump.isNone) (W3.putObj (D + 1) (.loop (rec (if jump.isNone then .ready else .done) jump))) ∧
        Moves (plus2 T D) (plus2 T' D) W (W3.putObj (D + 1) (.loop (rec (if jump.isNone then .ready else .done) jump))) ∧
        ∀ X : (Nat → Prop) → World → Prop, (∀ W4, Keeps T' W3 W4 → X T' W4) → withRec X D (.loop (rec (if jump.isNone then .ready else .done) jump)) (plus2 T' D) (W3.putObj (D + 1) (.loop (rec (if jump.isNone then .ready else .done) jump))) := fun jump T' W3 mv3 => by
      have n3L : ¬ T' (D + 1) := fun h => (mv3.own _ h).elim naL (fun h => by omega)
      have n3D : ¬ T' D := fun h => (mv3.own _ h).elim naD (fun h => by omega)
      have hl3 : W3.heap[D + 1]? = some (.loop { rec .ready none with state := .busy }) := (mv3.block _ (by omega) naL).trans hlb
      have hd3 : W3.heap[D]? = some (.deferred (some [])) := (mv3.block _ (by omega) naD).trans hdb
      have hr := run_endRound (P := P) jump hl3
      rw [hrec] at hr ⊢
      refine ⟨hr, (up mva).trans (mvb.trans ((up mv3).trans (Moves.putObj _ (.inr (.inr rfl)) _))), fun X hX => ⟨T', rfl, hX _ (Keeps.putObj _ _ _ n3L), n3D, n3L, World.putObj_heap_same (Array.getElem?_eq_some_iff.1 hl3).1, (World.putObj_heap_other (by omega)).trans hd3⟩⟩
    rintro e a3 W3 hp
    cases e with
    | normal =>
      obtain ⟨T', mv3, hi3⟩ := hp
      obtain ⟨hr, mv, hw⟩ := fin none T' W3 mv3
      exact ⟨_, _, hr, plus2 T' D, mv, .inl ⟨rfl, hw _ (fun W4 hk => hI _ _ _ _ hi3 hk)⟩⟩
    | ret =>
      obtain ⟨T', mv3, hi3⟩ := hp
      obtain ⟨hr, mv, hw⟩ := fin (some .ret) T' W3 mv3
      exact ⟨_, _, hr, plus2 T' D, mv, .inr ⟨rfl, _, hw _ (fun W4 hk => hIx _ _ _ _ _ hi3 hk)⟩⟩
    | exit id =>
      obtain ⟨T', mv3, hi3⟩ := hp
      obtain ⟨hr, mv, hw⟩ := fin (some (.exit id)) T' W3 mv3
      exact ⟨_, _, hr, plus2 T' D, mv, .inr ⟨rfl, _, hw _ (fun W4 hk => hIx _ _ _ _ _ hi3 hk)⟩⟩
    | goto t =>
      obtain ⟨T', mv3, hi3⟩ := hp
      obtain ⟨hr, mv, hw⟩ := fin (some (.goto t)) T' W3 mv3
      exact ⟨_, _, hr, plus2 T' D, mv, .inr ⟨rfl, _, hw _ (fun W4 hk => hIx _ _ _ _ _ hi3 hk)⟩⟩
    | panic ch => exact hp.elim
    | outgrown => exact hp.elim
  · rintro k (h | rfl | rfl)
    · exact hT0 k h
    · intro h; have := hK _ h; omega
    · intro h; have := hK _ h; omega
  · -- behind the iterator
    rintro e W2 ⟨⟨v, rfl⟩, U, mv, hend⟩
    have back : ∀ {T : Nat → Prop} (o : Obj), Moves (plus2 T0 D) (plus2 T D) W1 W2 → Moves T0 T w (W2.putObj (D + 1) o) := fun {T} o h => by
      have h' : Moves T0 T0 w W1 := Moves.of_below b1
      refine ⟨h.os.trans h'.os, h.tape.trans h'.tape, h.output.trans h'.output, by have := h.size; have := h'.size; simp; omega, fun k hk ht => ?_, fun k hk => ?_⟩
      · refine (World.putObj_heap_other (by omega)).trans ((h.block k (by omega) ?_).trans (h'.block k hk ht))
        rintro (e | e | e)
        · exact ht e
        · omega
        · omega
      · rcases h.own k (.inl hk) with (e | e | e) | e
        · exact .inl e
        · exact .inr (by omega)
        · exact .inr (by omega)
        · exact .inr (by omega)
    rcases hend with ⟨T, rfl, hi, nD, nL, hl, hd⟩ | ⟨pre, hpre, c, T, rfl, hi, nD, nL, hl, hd⟩
    · refine ⟨none, _, by have := run_endLoop (P := P) hl (by rw [hrec]; simp); rw [hrec] at this; exact this, ?_⟩
      exact hdone D T _ (by omega) (back _ mv) (hI _ _ _ _ hi (Keeps.putObj _ _ _ nL)) nD ((World.putObj_heap_other (by omega)).trans hd)
    · refine ⟨some c, _, by have := run_endLoop (P := P) hl (by rw [hrec]; simp); rw [hrec] at this; exact this, ?_⟩
      exact hstop D c pre T _ (by omega) (back _ mv) hpre (hIx c _ _ _ _ hi (Keeps.putObj _ _ _ nL)) nD ((World.putObj_heap_other (by omega)).trans hd)
end Go.Proofs.Ytckfdlolmenigaa
