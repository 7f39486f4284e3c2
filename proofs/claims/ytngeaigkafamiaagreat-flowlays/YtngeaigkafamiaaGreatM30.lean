/- Texts of the proof, merged: FBox0. -/
import Derived.Test.YtngeaigkafamiaaGreatM24
import Derived.Test.YtngeaigkafamiaaGreatM29
namespace Go.Proofs.YtngeaigkafamiaaGreat
open Go.ChangeShapes Go.WideShapes Go.ChangeAt Go.RowKit
set_option maxRecDepth 100000
structure BW (D : Nat) (kv : Value) (X9 : Nat) (s : Sty) (X10 : Nat) (F : Fr) (X12 : Nat) (h : Hts) (X14 : Nat) (e : En) (R : Nat) (w : World) : Prop where
  kd : w.cell? ⟨D, 0, none⟩ = some kv
  ks : Blk w X9 (stl s) 66
  kf : Blk w X10 (frl F) 37
  kh : Blk w X12 (htl h) 127
  ke : Blk w X14 (enl e) 131
  k1 : Blk w R (frl zFr) 37
  k2 : Blk w (R + 1) zlay 43
section
variable {w0 : World} {D : Nat} {kv : Value} {X9 : Nat} {s : Sty} {X10 : Nat} {F : Fr} {X12 : Nat} {h : Hts} {X14 : Nat} {e : En} {R : Nat} {w w' : World}
theorem BW.seen (b : BW D kv X9 s X10 F X12 h X14 e R w) (hs : Seen w w') : BW D kv X9 s X10 F X12 h X14 e R w' :=
  ⟨hs.cell b.kd, b.ks.seen hs, b.kf.seen hs, b.kh.seen hs, b.ke.seen hs, b.k1.seen hs, b.k2.seen hs⟩
theorem BW.moves (b : BW D kv X9 s X10 F X12 h X14 e R w) {v v' : Value} {ps ps' : List Pd} (hl : LS w0 D kv w v ps) (hl' : LS w0 D kv w' v' ps') (m : Moves (own D v) (own D v') w w') : BW D kv X9 s X10 F X12 h X14 e R w' :=
  ⟨hl'.blk.cell 0, b.ks.moves hl (by decide) (by decide) m, b.kf.moves hl (by decide) (by decide) m, b.kh.moves hl (by decide) (by decide) m, b.ke.moves hl (by decide) (by decide) m, b.k1.moves hl (by decide) (by decide) m, b.k2.moves hl (by decide) (by decide) m⟩
theorem BW.turns (b : BW D kv X9 s X10 F X12 h X14 e R w) {X : Nat} (t : Turns X w w') (h0 : X ≠ D) (h1 : X ≠ X9) (h2 : X ≠ X10) (h3 : X ≠ X12) (h4 : X ≠ X14) (h5 : X ≠ R) (h6 : X ≠ R + 1) : BW D kv X9 s X10 F X12 h X14 e R w' := by
  refine ⟨?_, b.ks.turns t (Ne.symm h1), b.kf.turns t (Ne.symm h2), b.kh.turns t (Ne.symm h3), b.ke.turns t (Ne.symm h4), b.k1.turns t (Ne.symm h5), b.k2.turns t (Ne.symm h6)⟩
  have hlt : D < w.heap.size := by
    rcases Nat.lt_or_ge D w.heap.size with h | h
    · exact h
    · have := b.kd
      simp [World.cell?, Array.getElem?_eq_none h] at this
  rw [World.cell?_of_block (t.block D hlt (Ne.symm h0))]
  exact b.kd
end
def AQ (l : List Nd) (k : Nat) (K : List Int) (c : Ct) (en : En) (base : Nat) (ps : List Pd) (a : Option Addr) (m cap : Nat) (P : Pi) (hi : Int) (ok : Bool) (ps' : List Pd) (w : World) : Prop :=
  (contO (boxO l k) K c en = none ∧ ok = false) ∨ (∃ b, contO (boxO l k) K c en = some b ∧ ok = true ∧ P = b.p ∧ hi = b.hi ∧ ps' = ps ++ b.l ∧ m = b.p.y.length ∧ RP w base (.slice a m cap) b.p.y)
section
variable {l : List Nd} {k : Nat} {K : List Int} {c : Ct} {en : En} {base base' : Nat} {ps : List Pd} {a : Option Addr} {m cap : Nat} {P : Pi} {hi : Int} {ok : Bool} {ps' : List Pd} {w w' : World}
theorem AQ.more (h : AQ l k K c en base ps a m cap P hi ok ps' w) (hb : base' ≤ base) : AQ l k K c en base' ps a m cap P hi ok ps' w := by
  rcases h with h | ⟨b, h1, h2, h3, h4, h5, h6, h7⟩
  · exact .inl h
  · exact .inr ⟨b, h1, h2, h3, h4, h5, h6, row_more h7 hb⟩
theorem AQ.seen (h : AQ l k K c en base ps a m cap P hi ok ps' w) (hs : Seen w w') : AQ l k K c en base ps a m cap P hi ok ps' w' := by
  rcases h with h | ⟨b, h1, h2, h3, h4, h5, h6, h7⟩
  · exact .inl h
  · exact .inr ⟨b, h1, h2, h3, h4, h5, h6, RP.seen h7 hs⟩
theorem rp_turns {v : Value} {y : List Int} {X : Nat} {cs : List Value} {t : TypeId} (h : RP w base v y) (hX : Blk w X cs t) (ht : t ≠ 2) (k : Turns X w w') : RP w' base v y :=
  ownsRow_keeps h fun gg hg => k.block gg (h.lt gg hg).2 fun e => type_apart h hX ht (e ▸ hg)
theorem AQ.turns (h : AQ l k K c en base ps a m cap P hi ok ps' w) {X : Nat} {cs : List Value} {t : TypeId} (hX : Blk w X cs t) (ht : t ≠ 2) (q : Turns X w w') : AQ l k K c en base ps a m cap P hi ok ps' w' := by
  rcases h with h | ⟨b, h1, h2, h3, h4, h5, h6, h7⟩
  · exact .inl h
  · exact .inr ⟨b, h1, h2, h3, h4, h5, h6, rp_turns h7 hX ht q⟩
end
def BQ (l : List Nd) (w0 : World) (D : Nat) (kv : Value) (k : Nat) (K : List Int) (c : Ct) (en : En) (W : World) (v : Value) (ps : List Pd) (X9 : Nat) (s : Sty) (X10 : Nat) (F : Fr) (X12 : Nat) (h : Hts) (X14 : Nat) (R X : Nat) (a : Option Addr) (m cap : Nat) (P : Pi) (hi : Int) (ok : Bool) (v' : Value) (ps' : List Pd) (wx : World) : Prop :=
  LS w0 D kv wx v' ps' ∧ Moves (own D v) (own D v') W wx ∧ BW D kv X9 s X10 F X12 h X14 en R wx ∧ Blk wx X (layl (.slice none 0 0) (.slice a m cap) P hi) 43 ∧ X14 < X ∧ AQ l k K c en W.heap.size ps a m cap P hi ok ps' wx
theorem flowV_length (l : List Nd) (n : Int) : (flowV l n).length ≤ l.length := by
  rw [flowV_kids]
  exact Nat.le_trans (List.length_filter_le _ _) (kidsV_length l n)
theorem blk_zlay (w : World) : Blk (w.alloc (.cells #[.slice none 0 0, .slice none 0 0, .int .i64 0, .int .i64 0, .int .i64 0, .int .i64 0, .int .i64 0, .bool false, .int .i64 0] 43)) w.heap.size zlay 43 := Blk.new w zlay 43
theorem stLay {w : World} {X : Nat} {cs : List Value} {t : TypeId} (lv yv : Value) (h1 : lv.oneCell' = true) (h2 : yv.oneCell' = true) (p : Pi) (hi : Int) (h : Blk w X cs t) (hl : cs.length = 9) : (Instr.storeAt 43 (.pointer (some ⟨X, 0, none⟩)) (layv lv yv p hi)).run Tryz.prog w = .ok () (w.setCells X 0 (layl lv yv p hi)) :=
  stC (vs := layl lv yv p hi) h (by rw [hl]; exact Nat.le_refl _) infoL (layl_one h1 h2 p hi)
theorem blkLay {w : World} {X : Nat} {cs : List Value} (lv yv : Value) (p : Pi) (hi : Int) (h : Blk w X cs 43) (hl : cs.length = 9) : Blk (w.setCells X 0 (layl lv yv p hi)) X (layl lv yv p hi) 43 := block_sets h 0 _ (sets_all cs _ hl)
theorem stFr {w : World} {X : Nat} {cs : List Value} {t : TypeId} (f : Fr) (h : Blk w X cs t) (hl : cs.length = 25) : (Instr.storeAt 37 (.pointer (some ⟨X, 0, none⟩)) (frv f)).run Tryz.prog w = .ok () (w.setCells X 0 (frl f)) :=
  stC (vs := frl f) h (by rw [hl]; exact Nat.le_refl _) infoF (frl_one f)
theorem blkFr {w : World} {X : Nat} {cs : List Value} (f : Fr) (h : Blk w X cs 37) (hl : cs.length = 25) : Blk (w.setCells X 0 (frl f)) X (frl f) 37 := block_sets h 0 _ (sets_all cs _ hl)
theorem oneS (a : Option Addr) (m c : Nat) : (Value.slice a m c).oneCell' = true := by cases a <;> rfl
theorem frl_done (f : Fr) (x : Int) (b : Bool) : ((frl f).set 3 (.int .i64 x)).set 16 (.bool b) = frl { f with h := x, kn := b } := rfl
theorem frl_ch (f : Fr) (c : Ch) : setsL (frl f) 17 (chl c) = frl { f with ch := c } := rfl
end Go.Proofs.YtngeaigkafamiaaGreat

