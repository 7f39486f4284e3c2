/- Texts of the proof, merged: FCont0. -/
import Derived.Test.YteplmjgohnbpbaaM27
import Derived.Test.YteplmjgohnbpbaaM28
import Derived.Test.YteplmjgohnbpbaaM29
import Derived.Test.YteplmjgohnbpbaaM23
import Derived.Deep.DeepCutAuto
/- What content knows of memory while it works; the answers of box and content; no conditions beyond those written in each theorem. -/
namespace Go.Proofs.Yteplmjgohnbpbaa
open Go.ChangeShapes Go.WideShapes Go.ChangeAt Go.RowKit
set_option maxRecDepth 100000
/-! Placed{N: n} and a slice of it. -/
def pdv (p : Pd) : Value := .agg (pdl p).toArray
theorem built61 (n : Int) : Try.prog.built 61 [(0, .int .i64 n)] = some (pdl ⟨n, zFr⟩).toArray := by kernel_rfl
theorem wpList_buildPd {ops : Array Oper} {rest : List Oper} {o : Oper} {a : Act} {w : World} {Q : Exit → Act → World → Prop} (hg : o.guard = none) (x : Operand) (ho : o.op = .build 61 #[(0, x)]) (n : Int)
    (hx : a.eval x = .int .i64 n) (h : wpList Try.prog ops Q rest (a.put o.dst (pdv ⟨n, zFr⟩)) w) : wpList Try.prog ops Q (o :: rest) a w := by
  refine wpList_buildTo hg 61 _ ho _ rfl (pdl ⟨n, zFr⟩).toArray ?_ h
  have e : ((#[(0, x)] : Array (Nat × Operand)).map fun (i, x) => (i, a.eval x)).toList = [(0, .int .i64 n)] := by simp [hx]
  rw [e]
  exact built61 n
theorem info61z : (Try.prog.info? 61).map (fun i => (i.zero, i.size, i.bytes)) = some (some (.agg (pdl zPd).toArray), 26, 208) := by kernel_rfl
theorem row_zero61 : (Array.range (1 * 26)).map ((pdl zPd).toArray[· % (pdl zPd).toArray.size]!) = (pdl zPd).toArray := by kernel_rfl
theorem wpList_buildPs {ops : Array Oper} {rest : List Oper} {o : Oper} {a : Act} {w : World} {Q : Exit → Act → World → Prop} (hg : o.guard = none) (x : Operand) (ho : o.op = .buildSlice 48 1 #[(0, x)]) (q : Pd)
    (hx : a.eval x = pdv q) (h : wpList Try.prog ops Q rest (a.put o.dst (.slice (some ⟨w.heap.size, 0, none⟩) 1 1)) (w.alloc (.cells (pdl q).toArray 61))) : wpList Try.prog ops Q (o :: rest) a w := by
  obtain ⟨i0, hi, hz0, hz1, hz2⟩ := info_parts info61z
  refine wpList_buildSlice hg 48 61 1 _ ho (pdl q).toArray i0 _ Try.underlying48 hi hz0 (by rw [hz1]; decide) (by rw [hz1]; decide) ?_ h
  have e : ((#[(0, x)] : Array (Nat × Operand)).map fun (i, x) => (i, a.eval x)).toList = [(0, pdv q)] := by simp [hx]
  rw [e, hz1]
  show Instr.fill _ ((Array.range (1 * 26)).map ((pdl zPd).toArray[· % (pdl zPd).toArray.size]!)) _ = _
  rw [row_zero61, fill_cons (vs := pdl q) (off := 0) (cs' := pdl q) (by rw [pdl_length]) rfl (by rw [pdl_length, pdl_length]; omega)]
  · rfl
  · exact sets_all _ _ rfl
/-! Rows of ints and of children. -/
def encI (x : Int) : List Value := [.int .i64 x]
theorem encI_one (x : Int) : ∀ u ∈ encI x, u.oneCell' = true := by
  intro u hu
  rw [encI, List.mem_singleton] at hu
  subst hu; rfl
theorem info45z : (Try.prog.info? 45).map (fun i => (i.zero, i.size, i.bytes)) = some (some (chv zeroC), 8, 64) := by kernel_rfl
theorem mk113 (n : Nat) (hn : n ≤ 1000) : ∃ cur : Array Value, cur.size = n * 8 ∧ ∀ w : World, (Instr.makeSlice 113 (.int .i64 0) (.int .i64 (n : Int))).run Try.prog w = .ok (.slice (some ⟨w.heap.size, 0, none⟩) 0 n) (w.alloc (.cells cur 45)) := by
  obtain ⟨i0, hi, hz0, hz1, hz2⟩ := info_parts info45z
  refine ⟨madeCells (chv zeroC).cells (n * 8), size_madeCells _ _, fun w => ?_⟩
  have := run_make (P := Try.prog) w 113 45 i0 _ Try.underlying113 hi hz0 .i64 .i64 0 n (by omega) (by omega) (by rw [hz2]; omega) (by omega)
  rw [hz1] at this
  simpa using this
theorem mk32 (n : Nat) (hn : n ≤ 1000) : ∃ cur : Array Value, cur.size = n * 1 ∧ ∀ w : World, (Instr.makeSlice 32 (.int .i64 0) (.int .i64 (n : Int))).run Try.prog w = .ok (.slice (some ⟨w.heap.size, 0, none⟩) 0 n) (w.alloc (.cells cur 3)) := by
  obtain ⟨i0, hi, hz0, hz1, hz2⟩ := info_parts info3z
  refine ⟨madeCells (Value.int .i64 0).cells (n * 1), size_madeCells _ _, fun w => ?_⟩
  have := run_make (P := Try.prog) w 32 3 i0 _ Try.underlying32 hi hz0 .i64 .i64 0 n (by omega) (by omega) (by rw [hz2]; omega) (by omega)
  rw [hz1] at this
  simpa using this
theorem GR.block {α : Type} {enc : α → List Value} {e : TypeId} {size : Nat} {w : World} {base : Nat} {v : Value} {l : List α} (h : GR enc e size w base v l) (h0 : 0 < l.length) : ∃ g cap, v = .slice (some ⟨g, 0, none⟩) l.length cap := by
  obtain ⟨n, hn⟩ : ∃ n, l.length = n + 1 := ⟨l.length - 1, by omega⟩
  have h' : w.ownsRow base e size v (n + 1) (l.flatMap enc) := by unfold GR at h; rw [hn] at h; exact h
  obtain ⟨g, cap, rfl⟩ := ownsRow_succ h'
  exact ⟨g, cap, by rw [hn]⟩
theorem run_index48 (g k n c : Nat) (hk : k < n) (w : World) : (Instr.indexAt 48 (.slice (some ⟨g, 0, none⟩) n c) (.int .i64 k)).run Try.prog w = .ok (.pointer (some ⟨g, k * 26, none⟩)) w := by
  simp [Instr.indexAt, asIntOf, run_underlying Try.underlying48, Try.sizeOf61, add_plain]
  omega
theorem run_index32 (g o k n c : Nat) (hk : k < n) (w : World) : (Instr.indexAt 32 (.slice (some ⟨g, o, none⟩) n c) (.int .i64 k)).run Try.prog w = .ok (.pointer (some ⟨g, o + k, none⟩)) w := by
  simp [Instr.indexAt, asIntOf, run_underlying Try.underlying32, Try.sizeOf3, add_plain]
  omega
/-- The cells of Lay{}. -/
abbrev zlay : List Value := [.slice none 0 0, .slice none 0 0, .int .i64 0, .int .i64 0, .int .i64 0, .int .i64 0, .int .i64 0, .bool false, .int .i64 0]
theorem layl_one {lv yv : Value} (h1 : lv.oneCell' = true) (h2 : yv.oneCell' = true) (p : Pi) (hi : Int) : ∀ u ∈ layl lv yv p hi, u.oneCell' = true := by
  intro u hu
  simp only [layl, List.mem_cons, List.not_mem_nil, or_false] at hu
  rcases hu with rfl | rfl | rfl | rfl | rfl | rfl | rfl | rfl | rfl
  · exact h1
  · exact h2
  all_goals rfl
/-- A whole Lay stored. -/
theorem wpList_storeL {ops : Array Oper} {rest : List Oper} {op : Oper} {a : Act} {w : World} {Q : Exit → Act → World → Prop} (hgd : op.guard = none) (x y : Operand) (ho : op.op = .store 53 x y) (X : Nat) (cs : List Value) (lv yv : Value) (h1 : lv.oneCell' = true) (h2 : yv.oneCell' = true) (p : Pi) (hi : Int)
    (hx : a.eval x = .pointer (some ⟨X, 0, none⟩)) (hy : a.eval y = layv lv yv p hi) (hl : cs.length = 9) (hb : Blk w X cs 53)
    (h : ∀ w', Blk w' X (layl lv yv p hi) 53 → Turns X w w' → wpList Try.prog ops Q rest (a.put op.dst undef) w') : wpList Try.prog ops Q (op :: rest) a w :=
  wpList_storeC hgd 53 x y ho X 0 (layl lv yv p hi) hx hy infoL (layl_one h1 h2 p hi) hb (by rw [hl]; exact Nat.le_refl _) (sets_all _ _ hl) h
/-! What content knows while it works. -/
structure CI (w0 : World) (D : Nat) (kv : Value) (W : World) (v : Value) (c : Ct) (en : En) (kb : Nat) (sl : Value) (K : List Int) (wr : World) (vi : Value) (qs : List Pd) (chs : List Ch) (pls : List Int) (u q : Value) : Prop where
  ls : LS w0 D kv wr vi qs
  mv : Moves (own D v) (own D vi) W wr
  ch : GR chl 45 8 wr (W.heap.size + 1 + 1 + 1) u chs
  pl : GR encI 3 1 wr (W.heap.size + 1 + 1 + 1) q pls
  kc : Blk wr W.heap.size (ctl c) 81
  ke : Blk wr (W.heap.size + 1) (enl en) 94
  kz : Blk wr (W.heap.size + 1 + 1) zlay 53
  kd : RI wr kb sl K
section
variable {w0 : World} {D : Nat} {kv : Value} {W : World} {v : Value} {c : Ct} {en : En} {kb : Nat} {sl : Value} {K : List Int} {wr w' : World} {vi : Value} {qs : List Pd} {chs : List Ch} {pls : List Int} {u q : Value}
theorem CI.seen (h : CI w0 D kv W v c en kb sl K wr vi qs chs pls u q) (hs : Seen wr w') : CI w0 D kv W v c en kb sl K w' vi qs chs pls u q :=
  ⟨h.ls.seen' hs, h.mv.newer (Below.mono hs h.mv.size), h.ch.seen hs, h.pl.seen hs, h.kc.seen hs, h.ke.seen hs, h.kz.seen hs, h.kd.seen hs⟩
/-- A step of the layout alone. -/
theorem CI.moves (h : CI w0 D kv W v c en kb sl K wr vi qs chs pls u q) {v' : Value} {qs' : List Pd} (hl : LS w0 D kv w' v' qs') (m : Moves (own D vi) (own D v') wr w') : CI w0 D kv W v c en kb sl K w' v' qs' chs pls u q :=
  ⟨hl, h.mv.trans m, row_moves h.ch h.ls (by decide) (by decide) m, row_moves h.pl h.ls (by decide) (by decide) m, h.kc.moves h.ls (by decide) (by decide) m, h.ke.moves h.ls (by decide) (by decide) m, h.kz.moves h.ls (by decide) (by decide) m, row_moves h.kd h.ls (by decide) (by decide) m⟩
theorem grown_block {w w' : World} {tmp : Obj} {r : Option Nat} (hg : (w.alloc tmp).grownBy w' r) {k : Nat} (hk : k < w.heap.size) (hne : r ≠ some k) : w'.heap[k]? = w.heap[k]? :=
  (hg.block k (by simp; omega) (fun e => hne e.symm)).trans (Below.heap_alloc w tmp k hk)
theorem type_apart {w : World} {base : Nat} {e : TypeId} {size n : Nat} {x : Value} {xs : List Value} (h : w.ownsRow base e size x n xs) {B : Nat} {cur : Array Value} {t : TypeId} (hb : w.heap[B]? = some (.cells cur t)) (hne : t ≠ e) : x.ownBlock ≠ some B := fun hx => by
  obtain ⟨c, hc⟩ := row_block h hx
  rw [hb] at hc
  simp at hc
  exact hne hc.2
theorem rows_apart {w : World} {base base' : Nat} {e e' : TypeId} {size n size' n' : Nat} {x y : Value} {xs ys : List Value} (h : w.ownsRow base e size x n xs) (k : w.ownsRow base' e' size' y n' ys) (hne : e' ≠ e) {g : Nat} (hg : y.ownBlock = some g) : x.ownBlock ≠ some g := by
  obtain ⟨c, hc⟩ := row_block k hg
  exact type_apart h hc hne
theorem row_grown {w w' : World} {tmp : Obj} {base base' : Nat} {e e' : TypeId} {size n size' n' : Nat} {x y : Value} {xs ys : List Value} (h : w.ownsRow base e size x n xs) (hg : (w.alloc tmp).grownBy w' x.ownBlock) (k : w.ownsRow base' e' size' y n' ys) (hne : e' ≠ e) : w'.ownsRow base' e' size' y n' ys :=
  ownsRow_keeps k fun g hg' => grown_block hg (k.lt g hg').2 (rows_apart h k hne hg')
theorem blk_grown {w w' : World} {tmp : Obj} {base : Nat} {e t : TypeId} {size n B : Nat} {x : Value} {xs cs : List Value} (h : w.ownsRow base e size x n xs) (hg : (w.alloc tmp).grownBy w' x.ownBlock) (k : Blk w B cs t) (hne : t ≠ e) : Blk w' B cs t :=
  (grown_block hg k.lt (type_apart h k hne)).trans k
theorem below_grown {w w' : World} {tmp : Obj} {base : Nat} {e : TypeId} {size n : Nat} {x : Value} {xs : List Value} (h : w.ownsRow base e size x n xs) (hb : base ≤ w.heap.size) (hg : (w.alloc tmp).grownBy w' x.ownBlock) : Below base w w' :=
  ((Below.refl base w).alloc hb tmp).grown hg (by simp; omega) (fun g hg => (h.lt g hg).1)
/-- A step of a row of its own, of elements of another type. -/
theorem LS.grown {w w' : World} {tmp : Obj} {base : Nat} {e : TypeId} {size n : Nat} {x : Value} {xs : List Value} (hl : LS w0 D kv w vi qs) (h : w.ownsRow base e size x n xs) (hb : base ≤ w.heap.size) (hbase : w0.heap.size ≤ base) (hg : (w.alloc tmp).grownBy w' x.ownBlock) (h1 : (83 : TypeId) ≠ e) (h2 : (61 : TypeId) ≠ e) : LS w0 D kv w' vi qs :=
  ⟨Below.trans hl.seen ((below_grown h hb hg).mono hbase), blk_grown h hg hl.blk h1, row_grown h hg hl.row h2⟩
theorem CI.pushP (h : CI w0 D kv W v c en kb sl K wr vi qs chs pls u q) (hD : w0.heap.size ≤ D) (hDW : D < W.heap.size) {tmp : Obj} {q' : Value} {pls' : List Int} (hg : (wr.alloc tmp).grownBy w' q.ownBlock) (hr : GR encI 3 1 w' (W.heap.size + 1 + 1 + 1) q' pls') (hsl : ∀ g, sl.ownBlock = some g → g < W.heap.size) : CI w0 D kv W v c en kb sl K w' vi qs chs pls' u q' := by
  have hb : W.heap.size + 1 + 1 + 1 ≤ wr.heap.size := by have := h.kz.lt; omega
  have hbel := below_grown h.pl hb hg
  refine ⟨h.ls.grown h.pl hb (by omega) hg (by decide) (by decide), h.mv.newer (hbel.mono (by omega)), row_grown h.pl hg h.ch (by decide), hr, blk_grown h.pl hg h.kc (by decide), blk_grown h.pl hg h.ke (by decide), blk_grown h.pl hg h.kz (by decide), ?_⟩
  exact ownsRow_keeps h.kd fun g hg' => grown_block hg (h.kd.lt g hg').2 fun e => by
    have h1 := hsl g hg'
    have h2 := (h.pl.lt g e).1
    omega
theorem CI.pushC (h : CI w0 D kv W v c en kb sl K wr vi qs chs pls u q) (hD : w0.heap.size ≤ D) (hDW : D < W.heap.size) {tmp : Obj} {u' : Value} {chs' : List Ch} (hg : (wr.alloc tmp).grownBy w' u.ownBlock) (hr : GR chl 45 8 w' (W.heap.size + 1 + 1 + 1) u' chs') : CI w0 D kv W v c en kb sl K w' vi qs chs' pls u' q := by
  have hb : W.heap.size + 1 + 1 + 1 ≤ wr.heap.size := by have := h.kz.lt; omega
  have hbel := below_grown h.ch hb hg
  exact ⟨h.ls.grown h.ch hb (by omega) hg (by decide) (by decide), h.mv.newer (hbel.mono (by omega)), hr, row_grown h.ch hg h.pl (by decide), blk_grown h.ch hg h.kc (by decide), blk_grown h.ch hg h.ke (by decide), blk_grown h.ch hg h.kz (by decide), row_grown h.ch hg h.kd (by decide)⟩
end
/-! The answers. -/
def BoxAns (l : List Nd) (w0 : World) (D : Nat) (kv : Value) (k : Nat) (n : Nat) (c : Ct) (W : World) (v : Value) (ps : List Pd) (e : Ending) (W' : World) : Prop :=
  ∃ (F : Fr) (a : Option Addr) (m cap : Nat) (P : Pi) (hi : Int) (ok : Bool) (v' : Value) (ps' : List Pd),
    e = .returned (.tuple #[frv F, layv (.slice none 0 0) (.slice a m cap) P hi, .bool ok]) ∧ LS w0 D kv W' v' ps' ∧ Moves (own D v) (own D v') W W' ∧
    ((boxO l k n c = none ∧ ok = false) ∨ (∃ b, boxO l k n c = some b ∧ ok = true ∧ F = b.f ∧ P = b.p ∧ hi = b.hi ∧ ps' = ps ++ b.l ∧ m = b.p.y.length ∧ RP W' W.heap.size (.slice a m cap) b.p.y))
def ContAns (l : List Nd) (w0 : World) (D : Nat) (kv : Value) (k : Nat) (K : List Int) (c : Ct) (en : En) (W : World) (v : Value) (ps : List Pd) (e : Ending) (W' : World) : Prop :=
  ∃ (a : Option Addr) (m cap : Nat) (P : Pi) (hi : Int) (ok : Bool) (v' : Value) (ps' : List Pd),
    e = .returned (.tuple #[layv (.slice none 0 0) (.slice a m cap) P hi, .bool ok]) ∧ LS w0 D kv W' v' ps' ∧ Moves (own D v) (own D v') W W' ∧
    ((contO (boxO l k) K c en = none ∧ ok = false) ∨ (∃ b, contO (boxO l k) K c en = some b ∧ ok = true ∧ P = b.p ∧ hi = b.hi ∧ ps' = ps ++ b.l ∧ m = b.p.y.length ∧ RP W' W.heap.size (.slice a m cap) b.p.y))
def BoxOK (l : List Nd) (w0 : World) (D : Nat) (kv : Value) (k : Nat) : Prop :=
  ∀ (n : Nat) (c : Ct) (W : World) (v : Value) (ps : List Pd), n < l.length → l.length - n ≤ k → LS w0 D kv W v ps → ps.length + (endN l n - (n + 1)) ≤ 70000 →
    Calls Try.prog 24 #[.pointer (some ⟨D, 0, none⟩), .int .i64 (n : Int), ctv c] W (BoxAns l w0 D kv k n c W v ps)
end Go.Proofs.Yteplmjgohnbpbaa
