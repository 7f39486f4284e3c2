/- Texts of the proof, merged: Build, KinAwake, PfAll. -/
import Derived.Test.YtlnnaegmcopiiaaM10
import Derived.Great.BuildSlice
import Derived.Test.YtlnnaegmcopiiaaM26
import Derived.Test.YtlnnaegmcopiiaaM12
import Derived.Test.YtlnnaegmcopiiaaM1
import Derived.Test.YtlnnaegmcopiiaaM17
import Derived.Test.YtlnnaegmcopiiaaM19
import Derived.Test.YtlnnaegmcopiiaaM23
import Derived.Test.YtlnnaegmcopiiaaM18
/- Nodes and slices of one node made by literals; no conditions beyond those written in each theorem. -/
namespace Go.Proofs.Ytlnnaegmcopiiaa
open Go.ChangeShapes Go.WideShapes Go.ChangeAt Go.RowKit
set_option maxRecDepth 100000
theorem fold_sets (vs cs : List Value) (off k : Nat) : (vs.zipIdx k).foldl (fun (a : Array Value) (p : Value × Nat) => a.setIfInBounds (off + p.2) p.1) cs.toArray = (setsL cs (off + k) vs).toArray := by
  induction vs generalizing cs k with
  | nil => rfl
  | cons v r ih =>
    rw [List.zipIdx_cons, List.foldl_cons, List.setIfInBounds_toArray, ih, setsL]
    rfl
theorem fill_cons {place : Nat → Option (Nat × Nat)} {cs cs' vs : List Value} {i off : Nat} {v : Value} {rest : List (Nat × Value)} (hp : place i = some (off, vs.length)) (hv : v.cells = vs.toArray) (hle : off + vs.length ≤ cs.length) (e : setsL cs off vs = cs') :
    Instr.fill place cs.toArray ((i, v) :: rest) = Instr.fill place cs'.toArray rest := by
  have h1 : (v.cells.size ≠ vs.length || off + v.cells.size > cs.toArray.size) = false := by
    rw [hv]; simp; omega
  have h2 : v.cells.zipIdx.foldl (fun (a : Array Value) (p : Value × Nat) => a.setIfInBounds (off + p.2) p.1) cs.toArray = cs'.toArray := by
    have h4 := fold_sets vs cs off 0
    rw [Nat.add_zero] at h4
    rw [hv, ← e, ← h4]
    simp
  have h3 : Instr.fill place cs.toArray ((i, v) :: rest) = if (v.cells.size ≠ vs.length || off + v.cells.size > cs.toArray.size) = true then none else Instr.fill place (v.cells.zipIdx.foldl (fun (a : Array Value) (p : Value × Nat) => a.setIfInBounds (off + p.2) p.1) cs.toArray) rest := by
    rw [Instr.fill, hp]
  rw [h3, h1, h2]
  rfl
theorem built51 (parts : List (Nat × Value)) : Try.prog.built 42 parts = Instr.fill ([(0, 48), (48, 1)].toArray[·]?) (ndl zeroN).toArray parts := by kernel_rfl
theorem sv_cells (s : Sty) : (sv s).cells = (stl s).toArray := rfl
theorem nv_cells (x : Nd) : (nv x).cells = (ndl x).toArray := rfl
theorem fill_par (s : Sty) (hf : Full s) (p q : Int) : Instr.fill ([(0, 48), (48, 1)].toArray[·]?) (ndl ⟨s, q, hf⟩).toArray [(1, .int .i64 p)] = some (ndl ⟨s, p, hf⟩).toArray := by
  rw [fill_cons (vs := [.int .i64 p]) (off := 48) (cs' := ndl ⟨s, p, hf⟩) rfl rfl (by rw [ndl_length]; simp)]
  · rfl
  · have := setsL_mid (stl s) [.int .i64 q] [] [.int .i64 p] rfl
    rw [hf.len] at this
    simpa [ndl] using this
theorem built_both (s : Sty) (hf : Full s) (p : Int) : Try.prog.built 42 [(0, sv s), (1, .int .i64 p)] = some (ndl ⟨s, p, hf⟩).toArray := by
  rw [built51, fill_cons (vs := stl s) (off := 0) (cs' := ndl ⟨s, 0, hf⟩) (by rw [hf.len]; rfl) rfl (by rw [ndl_length, hf.len]; omega), fill_par]
  have := setsL_mid [] (stl zeroS) [.int .i64 0] (stl s) (by rw [hf.len, zero_full.len])
  simpa [ndl, zeroN] using this
theorem built_par (p : Int) : Try.prog.built 42 [(1, .int .i64 p)] = some (ndl ⟨zeroS, p, zero_full⟩).toArray := by
  rw [built51]
  exact fill_par zeroS zero_full p 0
/-- api.Node{S: s, Parent: p}. -/
theorem wpList_buildN {ops : Array Oper} {rest : List Oper} {o : Oper} {a : Act} {w : World} {Q : Exit → Act → World → Prop} (hg : o.guard = none) (x y : Operand) (ho : o.op = .build 42 #[(0, x), (1, y)]) (s : Sty) (hf : Full s) (p : Int)
    (hx : a.eval x = sv s) (hy : a.eval y = .int .i64 p) (h : wpList Try.prog ops Q rest (a.put o.dst (nv ⟨s, p, hf⟩)) w) : wpList Try.prog ops Q (o :: rest) a w := by
  refine wpList_buildTo hg 42 _ ho _ rfl (ndl ⟨s, p, hf⟩).toArray ?_ h
  have e : ((#[(0, x), (1, y)] : Array (Nat × Operand)).map fun (i, x) => (i, a.eval x)).toList = [(0, sv s), (1, .int .i64 p)] := by
    simp [hx, hy]
  rw [e, built_both s hf]
/-- api.Node{Parent: p}. -/
theorem wpList_buildP {ops : Array Oper} {rest : List Oper} {o : Oper} {a : Act} {w : World} {Q : Exit → Act → World → Prop} (hg : o.guard = none) (y : Operand) (ho : o.op = .build 42 #[(1, y)]) (p : Int)
    (hy : a.eval y = .int .i64 p) (h : wpList Try.prog ops Q rest (a.put o.dst (nv ⟨zeroS, p, zero_full⟩)) w) : wpList Try.prog ops Q (o :: rest) a w := by
  refine wpList_buildTo hg 42 _ ho _ rfl (ndl ⟨zeroS, p, zero_full⟩).toArray ?_ h
  have e : ((#[(1, y)] : Array (Nat × Operand)).map fun (i, x) => (i, a.eval x)).toList = [(1, .int .i64 p)] := by
    simp [hy]
  rw [e, built_par]
theorem info51z : (Try.prog.info? 42).map (fun i => (i.zero, i.size, i.bytes)) = some (some (.agg (ndl zeroN).toArray), 49, 384) := by kernel_rfl
theorem row_zero : (Array.range (1 * 49)).map ((ndl zeroN).toArray[· % (ndl zeroN).toArray.size]!) = (ndl zeroN).toArray := by kernel_rfl
/-- []api.Node{x}. -/
theorem wpList_buildS1 {ops : Array Oper} {rest : List Oper} {o : Oper} {a : Act} {w : World} {Q : Exit → Act → World → Prop} (hg : o.guard = none) (x : Operand) (ho : o.op = .buildSlice 22 1 #[(0, x)]) (q : Nd)
    (hx : a.eval x = nv q) (h : wpList Try.prog ops Q rest (a.put o.dst (.slice (some ⟨w.heap.size, 0, none⟩) 1 1)) (w.alloc (.cells (ndl q).toArray 42))) : wpList Try.prog ops Q (o :: rest) a w := by
  obtain ⟨i0, hi, hz0, hz1, hz2⟩ := info_parts info51z
  refine wpList_buildSlice hg 22 42 1 _ ho (ndl q).toArray i0 _ Try.underlying22 hi hz0 (by rw [hz1]; decide) (by rw [hz1]; decide) ?_ h
  have e : ((#[(0, x)] : Array (Nat × Operand)).map fun (i, x) => (i, a.eval x)).toList = [(0, nv q)] := by simp [hx]
  rw [e, hz1]
  show Instr.fill _ ((Array.range (1 * 49)).map ((ndl zeroN).toArray[· % (ndl zeroN).toArray.size]!)) _ = _
  rw [row_zero, fill_cons (vs := ndl q) (off := 0) (cs' := ndl q) (by rw [ndl_length]) rfl (by rw [ndl_length, ndl_length]; omega)]
  · rfl
  · have := setsL_mid [] (ndl zeroN) [] (ndl q) (by rw [ndl_length, ndl_length])
    simpa using this
/-- The row that it makes. -/
theorem new_rowN (w : World) (q : Nd) (base : Nat) (hb : base ≤ w.heap.size) : (w.alloc (.cells (ndl q).toArray 42)).ownsRow base 42 49 (.slice (some ⟨w.heap.size, 0, none⟩) 1 1) 1 (flatN [q]) :=
  ⟨by rw [flatN_length]; rfl, .inr ⟨w.heap.size, 1, (ndl q).toArray, rfl, hb, World.alloc_heap_new w _, Nat.le_refl _, by unfold maxLen; omega, by simp [ndl_length], by rw [List.take_of_length_le (by simp [ndl_length])]; simp [flatN]⟩⟩
/-- What a row of nodes reads as. -/
theorem ns_of_own {w : World} {base n : Nat} {v : Value} {l : List Nd} (h : w.ownsRow base 42 49 v n (flatN l)) (hl : l.length = n) : ∃ a c, v = .slice a n c ∧ NS w a n l ∧ n ≤ c ∧ (a = none → c = 0) := by
  rcases h.2 with ⟨rfl, rfl⟩ | ⟨g, cap, cur, rfl, hb, hh, h1, h2, h3, h4⟩
  · exact ⟨none, 0, rfl, ⟨hl, fun h => absurd h (by omega)⟩, by omega, fun _ => rfl⟩
  · refine ⟨_, cap, rfl, ⟨hl, fun _ => ⟨g, 0, rfl, fun i hi j hj => ?_⟩⟩, h1, fun e => by cases e⟩
    rw [Nat.zero_add, h.cellAt (i * 49 + j) (by omega)]
    exact flatN_at l (by omega) hj
end Go.Proofs.Ytlnnaegmcopiiaa

/- Contract of the law's own awake; an argument that is a number, opened; no conditions beyond those written in each theorem. -/
namespace Go.Proofs.Ytlnnaegmcopiiaa
open Go.ChangeShapes Go.WideShapes Go.ChangeAt Go.RowKit Go.Joins Go.Deep
set_option maxRecDepth 100000
section
variable {H : Type} {enc : TypeId × Value → H} {w : World} {base : Nat} {spare : Nat → Bool} {held : Bool} {r : Reach} {b0 : Nat} {v : Value} {d : DataW H} {p : List MemPlace}
theorem open_int3 (hv : Value.okWide Try.prog w r b0 3 v) (h : DataW.Trod enc Try.prog w base spare held 3 v d p) : ∃ n : Int, v = .int .i64 n ∧ -9223372036854775808 ≤ n ∧ n < 9223372036854775808 := by
  obtain ⟨n, rfl, rfl, rfl, wn⟩ := open_int Try.underlying3 hv h
  exact ⟨n, rfl, wf_i64 wn⟩
end
/-- The node that the law's awake makes. -/
def plainN (p : Int) : Nd := ⟨plainK 4, p, plain_full (Nat.le_refl 4)⟩
theorem plain_tree : FormedT [plainN (-1)] := by
  refine ⟨by decide, fun i hi => ?_⟩
  obtain rfl : i = 0 := by simpa using hi
  exact ⟨(okAt0 _).2 rfl, plain_formed⟩
theorem plain_check : checkT [plainN (-1)] = 0 := by
  refine check0 (decide_eq_true plain_tree) (decide_eq_true ⟨by decide, fun i hi => ?_⟩)
  obtain rfl : i = 0 := by simpa using hi
  rw [deep_root plain_tree]
  exact ⟨by decide, plain_within⟩
theorem check_formed {l : List Nd} (h : checkT l = 0) : FormedT l := by
  unfold checkT at h
  cases hf : formedT l
  · rw [hf] at h; simp at h
  · exact of_decide_eq_true hf
theorem KK.kv {w : World} {B G H : Nat} {l : List Nd} (h : KK w B G H l (endN l)) (hf : FormedT l) (hl : l.length ≤ 65535) : KV w (.pointer (some ⟨B, 0, none⟩)) l := .inr ⟨hf, hl, B, G, H, rfl, h⟩
end Go.Proofs.Ytlnnaegmcopiiaa

/- Contracts of Content, of the reference, of the law's own awake; no conditions beyond those written in each theorem. -/
namespace Go.Proofs.Ytlnnaegmcopiiaa
open Go.ChangeShapes Go.WideShapes Go.ChangeAt Go.RowKit
set_option maxRecDepth 100000
theorem made_nat {l : List Nd} {n : Int} (h : (plAt l n).made = true) : ∃ m : Nat, m < l.length ∧ n = (m : Int) ∧ madeB l m = true := by
  cases hb : inB l n
  · rw [plAt_no hb] at h; cases h
  · obtain ⟨k, hk, rfl⟩ := inB_iff.1 hb
    rw [plAt_nat hk] at h
    exact ⟨k, hk, rfl, h⟩
theorem made_same (l : List Nd) (n : Int) : (inB l n && madeB l n) = (plAt l n).made := by
  cases hb : inB l n
  · rw [plAt_no hb]; rfl
  · rw [(plAt_made hb).1]; rfl
theorem content_ok {l : List Nd} {w0 : World} {kv : Value} (hf : FormedT l) (hl : l.length ≤ 65535) (hKV : KV w0 kv l) : ∀ k, PrOK l w0 kv k := by
  intro k
  induction k with
  | zero => intro n hn hk; omega
  | succ k ih => exact content_step hf hl hKV ih
theorem refContent_ok {l : List Nd} {w0 : World} {ad : Option Addr} {N cp : Nat} (hf : FormedT l) (hl : N ≤ 65535) (hNS : NS w0 ad N l) : ∀ k, RfOK l w0 ad N cp k := by
  intro k
  induction k with
  | zero => intro n hn hk; omega
  | succ k ih => exact refContent_step hf hl hNS ih
set_option maxHeartbeats 1000000 in
theorem content_any {l : List Nd} {kv : Value} (n : Int) (W : World) (hKV : KV W kv l) : Calls Try.prog 8 #[kv, .int .i64 n] W fun e w' => e = .returned (prA (prefO l n)) ∧ Seen W w' := by
  cases hm : (plAt l n).made with
  | true =>
    obtain ⟨m, h1, rfl, h2⟩ := made_nat hm
    obtain ⟨hf, hl, _⟩ := hKV.node (inB_nat h1)
    have := content_ok hf hl hKV l.length m h1 (by omega) h2 W (Seen.refl W)
    rwa [show prO l l.length m = prefO l m by unfold prefO; rw [hm]; rfl] at this
  | false =>
    have HM := Lib.hid (made_kin kv l n W hKV)
    rw [hm] at HM
    rw [show prA (prefO l n) = .tuple #[.int .i64 0, .bool false] by unfold prefO; rw [hm]; rfl]
    clear hm hKV
    go_enter Try.func8, Try.ntmps8
    go_wp2_with (go_at_call 17; refine HM.out.mono ?_; clear HM; rintro e w1 ⟨rfl, hb⟩; have S1 := Lib.hid hb; clear hb)
    go_ret2
    exact ⟨rfl, S1.out⟩
set_option maxHeartbeats 1000000 in
theorem refContent_any {l : List Nd} (ad : Option Addr) (N cp : Nat) (n : Int) (W : World) (hNS : NS W ad N l) (hf : FormedT l) (hl : N ≤ 65535) : Calls Try.prog 9 #[.slice ad N cp, .int .i64 n] W fun e w' => e = .returned (prA (prefO l n)) ∧ Seen W w' := by
  have hN := hNS.1
  cases hm : (plAt l n).made with
  | true =>
    obtain ⟨m, h1, rfl, h2⟩ := made_nat hm
    have := refContent_ok (cp := cp) hf hl hNS l.length m (by omega) (by omega) h2 W (Seen.refl W)
    rwa [show prO l l.length m = prefO l m by unfold prefO; rw [hm]; rfl] at this
  | false =>
    have HM := Lib.hid (refMade_any ad N cp l n W hNS hf (by omega))
    rw [made_same, hm] at HM
    rw [show prA (prefO l n) = .tuple #[.int .i64 0, .bool false] by unfold prefO; rw [hm]; rfl]
    clear hm hNS hN hf
    go_enter Try.func9, Try.ntmps9
    go_wp2_with (go_at_call 23; refine HM.out.mono ?_; clear HM; rintro e w1 ⟨rfl, hb⟩; rw [hb]; clear hb)
    go_ret2
    exact ⟨rfl, Seen.refl _⟩
theorem wide_pref : prefO [wideN 10 (-1)] 0 = some 10 := by kernel_rfl
/-- A width stored into the plain style. -/
theorem wpList_storeW {ops : Array Oper} {rest : List Oper} {op : Oper} {a : Act} {w : World} {Q : Exit → Act → World → Prop} (hgd : op.guard = none) (x y : Operand) (ho : op.op = .store 35 x y) (X : Nat) (n : Int)
    (hx : a.eval x = .pointer (some ⟨X, 10, none⟩)) (hy : a.eval y = .agg #[.int .i64 1, .int .i64 n]) (hs : Hs w X (plainK 4))
    (h : ∀ w', Hs w' X (wideS n) → Turns X w w' → wpList Try.prog ops Q rest (a.put op.dst undef) w') : wpList Try.prog ops Q (op :: rest) a w :=
  wpList_storeC hgd 35 x y ho X 10 [.int .i64 1, .int .i64 n] hx hy sz35 (by intro u hu; simp at hu; rcases hu with rfl | rfl <;> rfl) hs (by rw [(plain_full (Nat.le_refl 4)).len]; show 10 + 2 ≤ 48; decide) (wide_sets n) h
set_option maxHeartbeats 4000000 in
theorem awake_any15 (w : World) : Calls Try.prog 5 #[] w fun e w' => e = .returned (.bool true) ∧ Seen w w' := by
  have HP : Hid (prA (prefO [wideN 10 (-1)] 0) = .tuple #[.int .i64 10, .bool true]) := by unfold Hid; rw [wide_pref]; rfl
  go_enter Try.func5, Try.ntmps5
  go_upto_region 5 with (first
    | (go_at_call 10; refine (plain_any w).mono ?_; rintro _ w1 ⟨rfl, hs1⟩; have S1 : Hid (Seen w w1) := hs1; clear hs1)
    | (rw [zero_lit]; refine wpList_storeS rfl (.tmp 1) (.tmp 6) rfl w1.heap.size zeroS (plainK 4) rfl rfl (plain_full (Nat.le_refl 4)) zero_full (hs_new w1 zeroS) ?_
       intro w2 b2 t2
       have S2 := Lib.hid (S1.out.trans (Seen.fresh (Seen.refl w1) t2))
       have K2 := Lib.hid b2
       clear b2 t2)
    | (refine wpList_storeW rfl (.tmp 8) (.tmp 7) rfl w1.heap.size 10 rfl rfl K2.out ?_
       intro w3 b3 t3
       have S3 := Lib.hid (Seen.turns S2.out t3 S1.out.size)
       have K3 := Lib.hid b3
       clear b3 t3)
    | (refine wpList_loadS rfl (.tmp 1) rfl w1.heap.size (wideS 10) rfl (wide_full 10) K3.out ?_)
    | (refine wpList_buildN rfl (.tmp 10) (.const (.int .i64 (-1))) rfl (wideS 10) (wide_full 10) (-1) rfl rfl ?_)
    | (refine wpList_buildS1 rfl (.tmp 11) rfl (wideN 10 (-1)) rfl ?_
       obtain ⟨W, hW⟩ : ∃ W, W = w3.alloc (.cells (ndl (wideN 10 (-1))).toArray 42) := ⟨_, rfl⟩
       rw [← hW]
       have S4 : Hid (Seen w W) := by rw [hW]; exact S3.out.alloc _
       have N4 : Hid (NS W (some ⟨w3.heap.size, 0, none⟩) 1 [wideN 10 (-1)]) := by
         obtain ⟨a, c, e, h, _, _⟩ := ns_of_own (new_rowN w3 (wideN 10 (-1)) 0 (Nat.zero_le _)) rfl
         cases e
         rw [hW]; exact h
       clear hW)
    | (go_at_call 7; refine (of_yes _ 1 1 _ W N4.out (wide_check (by decide) (by decide)) (wide_tree (by decide)) (by omega)).mono ?_; rintro _ w5 ⟨B, G, H, rfl, _, hk5, hs5⟩; have S5 : Hid (Seen w w5) := S4.out.trans hs5; have K5 := Lib.hid (hk5.kv (wide_tree (by decide)) (by decide)); clear hs5 hk5)
    | (go_at_call 8; refine (content_any 0 w5 K5.out).mono ?_; rw [HP.out]; rintro _ w6 ⟨rfl, hs6⟩; have S6 : Hid (Seen w w6) := S5.out.trans hs6; clear hs6))
  go_wp2_with fail
  go_ret
  exact ⟨rfl, S6.out⟩
end Go.Proofs.Ytlnnaegmcopiiaa
