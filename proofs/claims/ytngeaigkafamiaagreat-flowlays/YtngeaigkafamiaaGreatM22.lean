/- Texts of the proof, merged: FR4a, PRefTop. -/
import Derived.Test.YtngeaigkafamiaaGreatM13
import Derived.Test.YtngeaigkafamiaaGreatM16
import Derived.Test.YtngeaigkafamiaaGreatM18
import Derived.Test.YtngeaigkafamiaaGreatM19
import Derived.Test.YtngeaigkafamiaaGreatM21
import Derived.Deep.DeepCutAuto
namespace Go.Proofs.YtngeaigkafamiaaGreat
open Go.ChangeShapes Go.WideShapes Go.ChangeAt Go.RowKit
set_option maxRecDepth 100000
theorem info48z : (Tryz.prog.info? 48).map (fun i => (i.zero, i.size, i.bytes)) = some (some (chv zeroC), 8, 64) := by kernel_rfl
theorem info116z : (Tryz.prog.info? 116).map (fun i => (i.zero, i.size, i.bytes)) = some (some (.agg (pdl zPd).toArray), 26, 208) := by kernel_rfl
structure RJ (W0 : World) (XO : Nat) (w : World) (v : Value) (ps : List Pd) (u : Value) (chs : List Ch) (q : Value) (pl : List Int) : Prop where
  seen : Seen W0 w
  blk : Blk w XO (layl v (.slice none 0 0) zPi 0) 55
  row : GR pdl 116 26 w W0.heap.size v ps
  ch : GR chl 48 8 w W0.heap.size u chs
  pl : GR encI 3 1 w W0.heap.size q pl
section
variable {W0 : World} {XO : Nat} {w w' : World} {v : Value} {ps : List Pd} {u : Value} {chs : List Ch} {q : Value} {pl : List Int}
theorem RJ.next (h : RJ W0 XO w v ps u chs q pl) (hs : Seen w w') : RJ W0 XO w' v ps u chs q pl :=
  ⟨h.seen.trans hs, h.blk.seen hs, h.row.seen hs, h.ch.seen hs, h.pl.seen hs⟩
theorem RJ.pushP (h : RJ W0 XO w v ps u chs q pl) {tmp : Obj} {q' : Value} {pl' : List Int} (hg : (w.alloc tmp).grownBy w' q.ownBlock) (hr : GR encI 3 1 w' W0.heap.size q' pl') : RJ W0 XO w' v ps u chs q' pl' :=
  ⟨Below.trans h.seen (below_grown h.pl h.seen.size hg), blk_grown h.pl hg h.blk (by decide), row_grown h.pl hg h.row (by decide), row_grown h.pl hg h.ch (by decide), hr⟩
theorem RJ.pushC (h : RJ W0 XO w v ps u chs q pl) {tmp : Obj} {u' : Value} {chs' : List Ch} (hg : (w.alloc tmp).grownBy w' u.ownBlock) (hr : GR chl 48 8 w' W0.heap.size u' chs') : RJ W0 XO w' v ps u' chs' q pl :=
  ⟨Below.trans h.seen (below_grown h.ch h.seen.size hg), blk_grown h.ch hg h.blk (by decide), row_grown h.ch hg h.row (by decide), hr, row_grown h.ch hg h.pl (by decide)⟩
end
def RAns (l : List Nd) (k : Nat) (n : Int) (c : Ct) (W : World) (e : Ending) (w' : World) : Prop :=
  Seen W w' ∧ ((boxO l k n c = none ∧ e = .returned (.tuple #[frv zFr, layv (.slice none 0 0) (.slice none 0 0) zPi 0, .bool false])) ∨
    (∃ b v a cap, boxO l k n c = some b ∧ e = .returned (.tuple #[frv b.f, layv v (.slice a b.p.y.length cap) b.p b.hi, .bool true]) ∧ GR pdl 116 26 w' W.heap.size v b.l ∧ RP w' W.heap.size (.slice a b.p.y.length cap) b.p.y))
theorem RAns.form {l : List Nd} {k : Nat} {n : Int} {c : Ct} {W w' : World} {e : Ending} (h : RAns l k n c W e w') :
    Seen W w' ∧ ∃ F va vn vc ra rm rc P hi ok bl, e = .returned (.tuple #[frv F, layv (.slice va vn vc) (.slice ra rm rc) P hi, .bool ok]) ∧ GR pdl 116 26 w' W.heap.size (.slice va vn vc) bl ∧ ((boxO l k n c = none ∧ ok = false) ∨ (∃ b, boxO l k n c = some b ∧ ok = true ∧ F = b.f ∧ bl = b.l)) := by
  obtain ⟨hs, ⟨h1, rfl⟩ | ⟨b, v, a, cap, h1, rfl, hg, hr⟩⟩ := h
  · exact ⟨hs, zFr, none, 0, 0, none, 0, 0, zPi, 0, false, [], rfl, GR.nil _ _, .inl ⟨h1, rfl⟩⟩
  · obtain ⟨va, vc, rfl, -, -⟩ := hg.slice pdl_length zPd
    exact ⟨hs, b.f, va, _, vc, a, _, cap, b.p, b.hi, true, b.l, rfl, hg, .inr ⟨b, h1, rfl, rfl, rfl⟩⟩
def RBoxOK (l : List Nd) (w0 : World) (ad : Option Addr) (N cp : Nat) (k : Nat) : Prop :=
  ∀ n : Nat, n < N → N - n ≤ k → madeB l n = true → ∀ (x : Int) (h : Sz) (rtl : Bool), rngB ⟨x, h, rtl⟩ = true → ∀ W, Seen w0 W →
    Calls Tryz.prog 8 #[.slice ad N cp, .int .i64 (n : Int), .int .i64 x, .agg #[.bool h.au, .int .i64 h.n], .bool rtl] W (RAns l k n ⟨x, h, rtl⟩ W)
def RInAns (l : List Nd) (k : Nat) (K : List Int) (c : Ct) (e : En) (W : World) (r : Ending) (w' : World) : Prop :=
  Seen W w' ∧ ((contO (boxO l k) K c e = none ∧ ∃ v yv P hi, v.oneCell' = true ∧ yv.oneCell' = true ∧ r = .returned (.tuple #[layv v yv P hi, .bool false])) ∨
    (∃ b v a cap, contO (boxO l k) K c e = some b ∧ r = .returned (.tuple #[layv v (.slice a b.p.y.length cap) b.p b.hi, .bool true]) ∧ GR pdl 116 26 w' W.heap.size v b.l ∧ RP w' W.heap.size (.slice a b.p.y.length cap) b.p.y))
theorem wpList_storeLr {ops : Array Oper} {rest : List Oper} {op : Oper} {a : Act} {w : World} {Q : Exit → Act → World → Prop} (hgd : op.guard = none) (x y : Operand) (ho : op.op = .store 55 x y) (X : Nat) (cs : List Value) (lv yv : Value) (h1 : lv.oneCell' = true) (h2 : yv.oneCell' = true) (p : Pi) (hi : Int)
    (hx : a.eval x = .pointer (some ⟨X, 0, none⟩)) (hy : a.eval y = layv lv yv p hi) (hl : cs.length = 9) (hb : Blk w X cs 55)
    (h : ∀ w', Blk w' X (layl lv yv p hi) 55 → Turns X w w' → wpList Tryz.prog ops Q rest (a.put op.dst undef) w') : wpList Tryz.prog ops Q (op :: rest) a w :=
  wpList_storeC hgd 55 x y ho X 0 (layl lv yv p hi) hx hy zz55 (layl_one h1 h2 p hi) hb (by rw [hl]; exact Nat.le_refl _) (sets_all _ _ hl) h
theorem run_loadLr {w : World} {X : Nat} {lv yv : Value} {p : Pi} {hi : Int} (h : Blk w X (layl lv yv p hi) 55) : (loadVar 55 ⟨X, 0, none⟩).run Tryz.prog w = .ok (layv lv yv p hi) w :=
  run_loadVar_mid w X 0 55 (layl lv yv p hi) _ h.range Tryz.underlying55 rfl zz55
theorem zl_blk (w : World) : Blk (w.alloc (.cells #[.slice none 0 0, .slice none 0 0, .int .i64 0, .int .i64 0, .int .i64 0, .int .i64 0, .int .i64 0, .bool false, .int .i64 0] 55)) w.heap.size (layl (.slice none 0 0) (.slice none 0 0) zPi 0) 55 := Blk.new w (layl (.slice none 0 0) (.slice none 0 0) zPi 0) 55
theorem fr_blk (w : World) : Blk (w.alloc (.cells #[.int .i64 0, .int .i64 0, .int .i64 0, .int .i64 0, .int .i64 0, .int .i64 0, .int .i64 0, .int .i64 0, .int .i64 0, .int .i64 0, .int .i64 0, .int .i64 0, .int .i64 0, .int .i64 0, .int .i64 0, .int .i64 0, .bool false, .int .i64 0, .int .i64 0, .int .i64 0, .int .i64 0, .int .i64 0, .int .i64 0, .bool false, .int .i64 0] 50)) w.heap.size (frl zFr) 50 := Blk.new w (frl zFr) 50
theorem run_append_op {o : Oper} {a : Act} {w w' : World} {v u v' : Value} {t : TypeId} (s x : Operand) (ho : o.op = .call { callee := .builtin .append, args := #[s, x], argTypes := #[t, t] }) (hs : a.eval s = v) (hx : a.eval x = u)
    (hr : (Builtin.append_ #[t, t] o.type #[v, u]).run Tryz.prog w = .ok v' w') : (execOp a.eval o).run Tryz.prog w = .ok (.value v') w' := by
  unfold execOp
  simp only [ho, resolve, invoke, builtin, Sem.run_bind, Sem.run_pure, Result.andThen_ok, List.map_toArray, List.map_cons, List.map_nil, hs, hx, hr]
end Go.Proofs.YtngeaigkafamiaaGreat
namespace Go.Proofs.YtngeaigkafamiaaGreat
open Go.ChangeShapes Go.WideShapes Go.ChangeAt Go.RowKit
set_option maxRecDepth 100000
set_option linter.unusedVariables false
set_option maxHeartbeats 2000000 in
theorem refTop_any (a : Option Addr) (n c : Nat) (l : List Ch) (o : Bool) (w : World) (h : CS w a n l) (hn : n ≤ 1000) :
    Calls Tryz.prog 82 #[.slice a n c, .bool o] w fun e w' => e = .returned (.int .i64 (topN l o : Nat)) ∧ w = w' := by
  have HL : Hid (l.length = n) := h.1
  have HC := Lib.hid h
  clear h
  cases o
  · have e1 : Hid (topN l false = 0) := rfl
    go_enter Tryz.func82, Tryz.ntmps82
    go_wp2_with fail
    go_ret
    rw [e1.out]
    exact ⟨rfl, rfl⟩
  · have e1 : Hid (topN l true = topK l) := rfl
    go_enter Tryz.func82, Tryz.ntmps82
    go_wp2_with fail
    go_loopw [10] (fun i wr => ∃ k : Nat, k ≤ n ∧ i = .int .i64 k ∧ topK l = k + topK (l.drop k) ∧ wr = w) (fun i _ => n - (intOf i).toNat)
    case atStart => exact ⟨0, Nat.zero_le _, rfl, by simp, rfl⟩
    case round =>
      obtain ⟨k, hk, rfl, ht, rfl⟩ := hrel
      by_cases hkn : k < n
      · have hkl : k < l.length := by rw [HL.out]; exact hkn
        have hs := topK_step hkl
        obtain ⟨b, off, rfl, hats⟩ := HC.out.ats (by omega : 0 < n)
        have hat := hats k hkn
        have c6 := hat.2.2.2.2.2.2.1
        cases hthr : (cat l k).thr
        · rw [hthr] at c6 hs
          simp only [Bool.false_eq_true, if_false] at hs
          have HT : Hid (topN l true = k + 1) := by rw [e1.out, ht, hs]; exact rfl
          clear hats hat ht hs e1
          go_wp2_with fail
          go_ret
          rw [HT.out]
          exact ⟨by congr 2, rfl⟩
        · rw [hthr] at c6 hs
          simp only [if_true] at hs
          have HT : Hid (topK l = (k + 1) + topK (l.drop (k + 1))) := by unfold Hid; omega
          clear hats hat ht hs
          go_wp2_with fail
          go_roundw
          case rel => exact ⟨k + 1, by omega, by go_num, HT.out, by trivial⟩
          case measure => simp [intOf]; omega
      · obtain rfl : k = n := by omega
        have ed : l.drop k = [] := List.drop_eq_nil_of_le (by rw [HL.out]; exact Nat.le_refl _)
        rw [ed] at ht
        have HT : Hid (topN l true = k) := by rw [e1.out, ht]; exact rfl
        clear ht ed e1
        go_wp2_with fail
        go_ret
        rw [HT.out]
        exact ⟨rfl, rfl⟩
end Go.Proofs.YtngeaigkafamiaaGreat

