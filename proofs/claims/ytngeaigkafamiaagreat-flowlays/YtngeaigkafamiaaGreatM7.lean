/- Texts of the proof, merged: PMem, FMath, FLow, FEnds, FAround. -/
import Derived.Test.YtngeaigkafamiaaGreatM6
import Derived.Test.YtngeaigkafamiaaGreatM0
import Derived.Laws.MakeOwn
import Derived.Test.YtngeaigkafamiaaGreatM4
import Derived.Test.YtngeaigkafamiaaGreatM5
import Derived.Deep.DeepCutAuto
namespace Go.Proofs.YtngeaigkafamiaaGreat
open Go.ChangeShapes Go.WideShapes Go.ChangeAt Go.RowKit
set_option maxRecDepth 100000
def chl (c : Ch) : List Value := [.int .i64 c.top.p, .int .i64 c.top.n, .int .i64 c.bot.p, .int .i64 c.bot.n, .int .i64 c.inn.p, .int .i64 c.inn.n, .bool c.thr, .int .i64 c.high]
theorem chl_length (c : Ch) : (chl c).length = 8 := rfl
abbrev chv (c : Ch) : Value := .agg #[.int .i64 c.top.p, .int .i64 c.top.n, .int .i64 c.bot.p, .int .i64 c.bot.n, .int .i64 c.inn.p, .int .i64 c.inn.n, .bool c.thr, .int .i64 c.high]
def CS (w : World) (a : Option Addr) (n : Nat) (l : List Ch) : Prop := SL chl 8 zeroC w a n l
theorem CS.seen {w w' : World} {a : Option Addr} {n : Nat} {l : List Ch} (h : CS w a n l) (hs : Seen w w') : CS w' a n l := SL.seen chl_length h hs
def At8 (w : World) (b o : Nat) (c : Ch) : Prop :=
  w.cell? ⟨b, o, none⟩ = some (.int .i64 c.top.p) ∧ w.cell? ⟨b, o + 1, none⟩ = some (.int .i64 c.top.n) ∧ w.cell? ⟨b, o + 2, none⟩ = some (.int .i64 c.bot.p) ∧ w.cell? ⟨b, o + 3, none⟩ = some (.int .i64 c.bot.n) ∧
  w.cell? ⟨b, o + 4, none⟩ = some (.int .i64 c.inn.p) ∧ w.cell? ⟨b, o + 5, none⟩ = some (.int .i64 c.inn.n) ∧ w.cell? ⟨b, o + 6, none⟩ = some (.bool c.thr) ∧ w.cell? ⟨b, o + 7, none⟩ = some (.int .i64 c.high)
theorem CS.ats {w : World} {a : Option Addr} {n : Nat} {l : List Ch} (h : CS w a n l) (h0 : 0 < n) : ∃ b off, a = some ⟨b, off, none⟩ ∧ ∀ i, i < n → At8 w b (off + i * 8) (cat l i) := by
  obtain ⟨b, off, e, hc⟩ := h.2 h0
  refine ⟨b, off, e, fun i hi => ?_⟩
  have k := hc i hi
  exact ⟨k 0 (by omega), k 1 (by omega), k 2 (by omega), k 3 (by omega), k 4 (by omega), k 5 (by omega), k 6 (by omega), k 7 (by omega)⟩
theorem At8.seen {w w' : World} {b o : Nat} {c : Ch} (h : At8 w b o c) (hs : Seen w w') : At8 w' b o c := by
  obtain ⟨h0, h1, h2, h3, h4, h5, h6, h7⟩ := h
  exact ⟨hs.cell h0, hs.cell h1, hs.cell h2, hs.cell h3, hs.cell h4, hs.cell h5, hs.cell h6, hs.cell h7⟩
theorem Blk.child {w : World} {B : Nat} {c : Ch} {t : TypeId} (h : Blk w B (chl c) t) : At8 w B 0 c := ⟨h.cell 0, h.cell 1, h.cell 2, h.cell 3, h.cell 4, h.cell 5, h.cell 6, h.cell 7⟩
def flI (l : List Int) : List Value := l.map (.int .i64)
theorem flI_append (l m : List Int) : flI (l ++ m) = flI l ++ flI m := List.map_append
theorem info2z : (Tryz.prog.info? 2).map (fun i => (i.zero, i.size, i.bytes)) = some (some (.int .i64 0), 1, 8) := by kernel_rfl
theorem one_atP (w : World) (u : Value) (t : TypeId) : ∀ j v, [u][j]? = some v → (w.alloc (.cells #[u] t)).cell? ((⟨w.heap.size, 0, none⟩ : Addr).add j) = some v := by
  intro j v h
  match j, h with
  | 0, h =>
    simp at h
    subst h
    rw [add_plain, Go.Joins.cell_of_block (World.alloc_heap_new w _)]; rfl
def RP (w : World) (base : Nat) (v : Value) (l : List Int) : Prop := w.ownsRow base 2 1 v l.length (flI l)
theorem RP.seen {w w' : World} {base : Nat} {v : Value} {l : List Int} (h : RP w base v l) (hs : Seen w w') : RP w' base v l := row_seen h hs
theorem RP.nil (w : World) (base : Nat) : RP w base (.slice none 0 0) [] := ⟨rfl, .inl ⟨rfl, rfl⟩⟩
theorem RP.slice {w : World} {base : Nat} {v : Value} {l : List Int} (h : RP w base v l) : ∃ a c, v = .slice a l.length c ∧ ZI w a l.length l ∧ l.length ≤ c := by
  rcases h.2 with ⟨rfl, hn⟩ | ⟨g, cap, cur, rfl, hb, hh, h1, h2, h3, h4⟩
  · refine ⟨none, 0, by rw [hn], ⟨rfl, fun h => absurd h (by omega)⟩, by omega⟩
  · refine ⟨_, cap, rfl, ⟨rfl, fun _ => ⟨g, 0, rfl, fun i hi => ?_⟩⟩, h1⟩
    have hc := World.ownsRow.cellAt h i (by omega)
    rw [Nat.zero_add, hc]
    unfold flI zat
    simp [hi]
abbrev pil (stv : Value) (p : Pi) : List Value := [stv, .int .i64 p.edge, .int .i64 p.top.p, .int .i64 p.top.n, .int .i64 p.cur.p, .int .i64 p.cur.n, .bool p.att]
abbrev piv (stv : Value) (p : Pi) : Value := .agg #[stv, .int .i64 p.edge, .int .i64 p.top.p, .int .i64 p.top.n, .int .i64 p.cur.p, .int .i64 p.cur.n, .bool p.att]
structure PS (w : World) (base B : Nat) (t : TypeId) (stv : Value) (p : Pi) : Prop where
  blk : Blk w B (pil stv p) t
  row : RP w base stv p.y
theorem PS.seen {w w' : World} {base B : Nat} {t : TypeId} {stv : Value} {p : Pi} (h : PS w base B t stv p) (hs : Seen w w') : PS w' base B t stv p := ⟨h.blk.seen hs, h.row.seen hs⟩
theorem row_apart {w : World} {B : Nat} {l : List Value} {t : TypeId} {base : Nat} {v : Value} {xs : List Int} (h : Blk w B l t) (ht : t ≠ 2) (hr : RP w base v xs) : v.ownBlock ≠ some B := by
  rcases hr.2 with ⟨rfl, _⟩ | ⟨g, cap, cur, rfl, _, hg, _⟩
  · intro e; cases e
  · intro e
    have e' : g = B := by simpa [Value.ownBlock] using e
    subst e'
    have h1 : w.heap[g]? = some (.cells l.toArray t) := h
    rw [hg] at h1
    simp at h1
    exact ht h1.2.symm
theorem RP.other {w : World} {B : Nat} {l : List Value} {t : TypeId} {base : Nat} {v : Value} {xs : List Int} (hr : RP w base v xs) (h : Blk w B l t) (ht : t ≠ 2) (o : Nat) (u : Value) : RP (w.setCell ⟨B, o, none⟩ u) base v xs :=
  ownsRow_keeps hr (fun g hg => Below.heap_setCell w _ _ g (fun e => by simp at e; subst e; exact row_apart h ht hr hg))
theorem pile_step {W w1 : World} {base B : Nat} {t : TypeId} {stv v' : Value} {p : Pi} {y : Int} {tmp : Obj} (h : PS W base B t stv p) (ht : t ≠ 2) (hb : base ≤ B)
    (hown : RP w1 base v' (p.y ++ [y])) (hgrow : (W.alloc tmp).grownBy w1 stv.ownBlock) :
    Blk w1 B (pil stv p) t ∧ PS (w1.setCell ⟨B, 0, none⟩ v') base B t v' ⟨p.y ++ [y], p.edge, p.top, p.cur, p.att⟩ ∧ Below base W (w1.setCell ⟨B, 0, none⟩ v') := by
  have hap := row_apart h.blk ht h.row
  have hlt := h.blk.lt
  have h1 : Blk w1 B (pil stv p) t := (hgrow.block B (h.blk.alloc tmp).lt (fun e => hap e.symm)).trans (h.blk.alloc tmp)
  refine ⟨h1, ⟨h1.set 0 v', hown.other h1 ht 0 v'⟩, ?_⟩
  exact ((((Below.refl base W).alloc (by omega) tmp).grown hgrow (by simp; omega) (fun g hg => (h.row.lt g hg).1)).setCell (by simp; omega) _)
end Go.Proofs.YtngeaigkafamiaaGreat
namespace Go.Proofs.YtngeaigkafamiaaGreat
open Go.ChangeShapes Go.WideShapes Go.ChangeAt Go.RowKit
set_option maxRecDepth 100000
structure I4 where
  a : Int
  b : Int
  c : Int
  d : Int
def zI4 : I4 := ⟨0, 0, 0, 0⟩
structure S4 where
  a : Sz
  b : Sz
  c : Sz
  d : Sz
structure Fr where
  x : Int
  y : Int
  w : Int
  h : Int
  mg : I4
  pd : I4
  bd : I4
  kn : Bool
  ch : Ch
def zFr : Fr := ⟨0, 0, 0, 0, zI4, zI4, zI4, false, zeroC⟩
def frl (f : Fr) : List Value :=
  [.int .i64 f.x, .int .i64 f.y, .int .i64 f.w, .int .i64 f.h, .int .i64 f.mg.a, .int .i64 f.mg.b, .int .i64 f.mg.c, .int .i64 f.mg.d,
   .int .i64 f.pd.a, .int .i64 f.pd.b, .int .i64 f.pd.c, .int .i64 f.pd.d, .int .i64 f.bd.a, .int .i64 f.bd.b, .int .i64 f.bd.c, .int .i64 f.bd.d, .bool f.kn,
   .int .i64 f.ch.top.p, .int .i64 f.ch.top.n, .int .i64 f.ch.bot.p, .int .i64 f.ch.bot.n, .int .i64 f.ch.inn.p, .int .i64 f.ch.inn.n, .bool f.ch.thr, .int .i64 f.ch.high]
def frv (f : Fr) : Value := .agg (frl f).toArray
theorem frl_length (f : Fr) : (frl f).length = 25 := rfl
theorem frl_one (f : Fr) : ∀ u ∈ frl f, u.oneCell' = true := by
  intro u hu
  simp only [frl, List.mem_cons, List.not_mem_nil, or_false] at hu
  rcases hu with rfl | rfl | rfl | rfl | rfl | rfl | rfl | rfl | rfl | rfl | rfl | rfl | rfl | rfl | rfl | rfl | rfl | rfl | rfl | rfl | rfl | rfl | rfl | rfl | rfl <;> rfl
structure Pd where
  n : Int
  f : Fr
def pdl (p : Pd) : List Value := .int .i64 p.n :: frl p.f
def zPd : Pd := ⟨0, zFr⟩
theorem pdl_length (p : Pd) : (pdl p).length = 26 := rfl
theorem pdl_one (p : Pd) : ∀ u ∈ pdl p, u.oneCell' = true := by
  intro u hu
  rcases List.mem_cons.1 hu with rfl | h
  · rfl
  · exact frl_one _ _ h
structure Ct where
  w : Int
  h : Sz
  rtl : Bool
abbrev ctl (c : Ct) : List Value := [.int .i64 c.w, .bool c.h.au, .int .i64 c.h.n, .bool c.rtl]
abbrev ctv (c : Ct) : Value := .agg #[.int .i64 c.w, .bool c.h.au, .int .i64 c.h.n, .bool c.rtl]
structure Hts where
  own : Sz
  lo : Int
  hi : Int
abbrev htl (h : Hts) : List Value := [.bool h.own.au, .int .i64 h.own.n, .int .i64 h.lo, .int .i64 h.hi]
abbrev htv (h : Hts) : Value := .agg #[.bool h.own.au, .int .i64 h.own.n, .int .i64 h.lo, .int .i64 h.hi]
def zHt : Hts := ⟨⟨false, 0⟩, 0, 0⟩
structure En where
  top : Bool
  bot : Bool
  flat : Bool
abbrev enl (e : En) : List Value := [.bool e.top, .bool e.bot, .bool e.flat]
abbrev env (e : En) : Value := .agg #[.bool e.top, .bool e.bot, .bool e.flat]
def zEn : En := ⟨false, false, false⟩
abbrev s4v (m : S4) : Value := .agg #[.bool m.a.au, .int .i64 m.a.n, .bool m.b.au, .int .i64 m.b.n, .bool m.c.au, .int .i64 m.c.n, .bool m.d.au, .int .i64 m.d.n]
def layl (lv yv : Value) (p : Pi) (hi : Int) : List Value := [lv, yv, .int .i64 p.edge, .int .i64 p.top.p, .int .i64 p.top.n, .int .i64 p.cur.p, .int .i64 p.cur.n, .bool p.att, .int .i64 hi]
def layv (lv yv : Value) (p : Pi) (hi : Int) : Value := .agg (layl lv yv p hi).toArray
def mg4 (s : Sty) : Ln4 := ⟨lat s.lens 10, lat s.lens 11, lat s.lens 12, lat s.lens 13⟩
def pd4 (s : Sty) : Ln4 := ⟨lat s.lens 14, lat s.lens 15, lat s.lens 16, lat s.lens 17⟩
def bd4 (s : Sty) : I4 := ⟨bat s.bord 0, bat s.bord 1, bat s.bord 2, bat s.bord 3⟩
def sds (q : Ln4) (b : Int) : S4 := ⟨sideS q b q.a, sideS q b q.b, sideS q b q.c, sideS q b q.d⟩
def or4 (m : S4) : I4 := ⟨orV m.a 0, orV m.b 0, orV m.c 0, orV m.d 0⟩
def arL (f : Fr) : List Int := [f.bd.d, f.pd.d, 0, f.pd.b, f.bd.b]
def arT (f : Fr) (n : Int) : List Int := [f.bd.a, f.pd.a, n, f.pd.c, f.bd.c]
def acIn (s : Sty) (f : Fr) (m : S4) (c : Ct) : Bx :=
  ⟨c.w, m.d, ofS (lat s.lens 4).k (lat s.lens 4).n c.w true, m.b, sumN (arL f), c.rtl, ofOrV (lat s.lens 6).k (lat s.lens 6).n c.w true 0, ofOrV (lat s.lens 7).k (lat s.lens 7).n c.w true 1125899906842624⟩
def acG (s : Sty) (f : Fr) (c : Ct) : Bool :=
  ofB (lat s.lens 4).k (lat s.lens 4).n c.w true && (ofB (lat s.lens 6).k (lat s.lens 6).n c.w true && (ofB (lat s.lens 7).k (lat s.lens 7).n c.w true && sumB (arL f)))
def acB (s : Sty) (f : Fr) (m : S4) (c : Ct) : Bool := acG s f c && solB (acIn s f m c)
def acO (s : Sty) (f : Fr) (m : S4) (c : Ct) : O3 := if acG s f c then solO (acIn s f m c) else zO
def fr0 (s : Sty) (c : Ct) : Fr := ⟨0, 0, 0, 0, or4 (sds (mg4 s) c.w), or4 (sds (pd4 s) c.w), bd4 s, false, zeroC⟩
def sdB (s : Sty) (c : Ct) : Bool := sidesB (mg4 s) c.w && sidesB (pd4 s) c.w
def frB (s : Sty) (c : Ct) : Bool := sdB s c && acB s (fr0 s c) (sds (mg4 s) c.w) c
def withO (f : Fr) (o : O3) : Fr := ⟨o.l, f.y, o.w, f.h, ⟨f.mg.a, o.r, f.mg.c, o.l⟩, f.pd, f.bd, f.kn, f.ch⟩
def frF (s : Sty) (c : Ct) : Fr := if sdB s c then withO (fr0 s c) (acO s (fr0 s c) (sds (mg4 s) c.w) c) else zFr
def htsF (s : Sty) (h : Sz) : Hts :=
  ⟨ofS (lat s.lens 5).k (lat s.lens 5).n h.n (!h.au), ofOrV (lat s.lens 8).k (lat s.lens 8).n h.n (!h.au) 0, ofOrV (lat s.lens 9).k (lat s.lens 9).n h.n (!h.au) 1125899906842624⟩
def htsB (s : Sty) (h : Sz) : Bool :=
  ofB (lat s.lens 5).k (lat s.lens 5).n h.n (!h.au) && (ofB (lat s.lens 8).k (lat s.lens 8).n h.n (!h.au) && ofB (lat s.lens 9).k (lat s.lens 9).n h.n (!h.au))
def outN (h : Hts) (x : Int) : Int := clampI (orV h.own x) h.lo h.hi
def innS (h : Hts) : Sz := if h.own.au then h.own else ⟨false, outN h 0⟩
def flatB (f : Fr) (h : Hts) : Bool := decide (f.bd.c = 0) && (decide (f.pd.c = 0) && decide (h.lo = 0))
def endE (f : Fr) (h : Hts) (ind : Bool) : En := if ind then zEn else ⟨decide (f.bd.a = 0) && decide (f.pd.a = 0), flatB f h && h.own.au, flatB f h⟩
def thrB (p : Pi) (e : En) (h : Hts) : Bool := p.att && (e.flat && (h.own.au || (decide (h.own.n = 0) && decide (p.y.length = 0))))
def chO (f : Fr) (p : Pi) (e : En) (h : Hts) : Ch :=
  ⟨if thrB p e h then joinS (joinS (ofM f.mg.a) p.top) (ofM f.mg.c) else joinS (ofM f.mg.a) p.top,
   if thrB p e h then joinS (joinS (ofM f.mg.a) p.top) (ofM f.mg.c) else if e.bot then joinS (ofM f.mg.c) p.cur else ofM f.mg.c,
   joinS (ofM f.mg.a) p.top, thrB p e h, sumN (arT f f.h)⟩
def chB (f : Fr) : Bool := sumB (arT f f.h)
def hgV (p : Pi) (e : En) : Int := max (if e.bot then p.edge else wrap64 (p.edge + valN p.cur)) 0
def hgG (p : Pi) (e : En) : Bool := e.bot || valB p.cur
def hgN (p : Pi) (e : En) : Int := if hgG p e then hgV p e else 0
def hgB (p : Pi) (e : En) : Bool := hgG p e && fitsB (hgV p e)
structure Bo where
  f : Fr
  p : Pi
  hi : Int
  l : List Pd
structure La where
  p : Pi
  hi : Int
  l : List Pd
def boxesO (B : Int → Ct → Option Bo) (c : Ct) : List Int → Option (List Bo)
  | [] => some []
  | k :: r => match B k c with
    | none => none
    | some b => match boxesO B c r with
      | none => none
      | some l => some (b :: l)
def layB : List Int → List Bo → List Pd
  | k :: r, b :: bs => ⟨k, b.f⟩ :: (b.l ++ layB r bs)
  | _, _ => []
def layY : List Int → List Bo → List Int → List Pd
  | k :: r, b :: bs, y :: ys => ⟨k, { b.f with y := y }⟩ :: (b.l ++ layY r bs ys)
  | _, _, _ => []
def contO (B : Int → Ct → Option Bo) (kids : List Int) (c : Ct) (e : En) : Option La :=
  match boxesO B c kids with
  | none => none
  | some bs => match stkO (bs.map fun b => b.f.ch) e.top with
    | none => none
    | some p => if hgB p e then some ⟨p, hgN p e, layY kids bs p.y⟩ else none
def doneF (f : Fr) (h : Hts) (hi : Int) : Fr := { f with h := outN h hi, kn := !h.own.au }
def indB (s : Sty) (n : Int) : Bool := decide (n = 0) || s.clip
def ctIn (s : Sty) (f : Fr) (h : Hts) : Ct := ⟨f.w, innS h, s.rtl⟩
def boxO (l : List Nd) : Nat → Int → Ct → Option Bo
  | 0, _, _ => none
  | k + 1, n, c =>
    if frB (styAt l n) c && htsB (styAt l n) c.h then
      match contO (boxO l k) (flowV l n) (ctIn (styAt l n) (frF (styAt l n) c) (htsF (styAt l n) c.h)) (endE (frF (styAt l n) c) (htsF (styAt l n) c.h) (indB (styAt l n) n)) with
      | none => none
      | some a =>
        if chB (doneF (frF (styAt l n) c) (htsF (styAt l n) c.h) a.hi) then
          some ⟨{ doneF (frF (styAt l n) c) (htsF (styAt l n) c.h) a.hi with ch := chO (doneF (frF (styAt l n) c) (htsF (styAt l n) c.h) a.hi) a.p (endE (frF (styAt l n) c) (htsF (styAt l n) c.h) (indB (styAt l n) n)) (htsF (styAt l n) c.h) }, a.p, a.hi, a.l⟩
        else none
    else none
end Go.Proofs.YtngeaigkafamiaaGreat
namespace Go.Proofs.YtngeaigkafamiaaGreat
open Go.ChangeShapes Go.WideShapes Go.ChangeAt Go.RowKit
set_option maxRecDepth 100000
theorem stOf_any (m : Int) (w : World) :
    Calls Tryz.prog 76 #[.int .i64 m] w fun e w' => e = .returned (.agg #[.int .i64 (ofM m).p, .int .i64 (ofM m).n]) ∧ Seen w w' := by
  have H := Lib.hid (show (ofM m).p = max m 0 ∧ (ofM m).n = min m 0 from ⟨rfl, rfl⟩)
  go_enter Tryz.func76, Tryz.ntmps76
  go_wp2
  all_goals
    go_returns
    exact ⟨ret_st (by rw [H.out.1]; omega) (by rw [H.out.2]; omega), by unfold Seen; go_grown⟩
theorem clamp_any (n l m : Int) (w : World) :
    Calls Tryz.prog 74 #[.int .i64 n, .int .i64 l, .int .i64 m] w fun e w' => e = .returned (.int .i64 (clampI n l m)) ∧ w' = w := by
  have H := Lib.hid (show clampI n l m = max (min n m) l from rfl)
  go_enter Tryz.func74, Tryz.ntmps74
  go_wp2
  all_goals
    go_ret
    exact ⟨ret_int (by rw [H.out]; omega), rfl⟩
theorem clamp_seen (n l m : Int) (w : World) :
    Calls Tryz.prog 74 #[.int .i64 n, .int .i64 l, .int .i64 m] w fun e w' => e = .returned (.int .i64 (clampI n l m)) ∧ Seen w w' :=
  (clamp_any n l m w).mono fun _ _ h => ⟨h.1, h.2 ▸ Seen.refl w⟩
theorem Blk.rules4 {w : World} {B : Nat} {t : TypeId} {x0 x1 x2 x3 : Value} (h : Blk w B [x0, x1, x2, x3] t) : ∀ w', Seen w w' → w'.cell? ⟨B, 0, none⟩ = some x0 ∧ w'.cell? ⟨B, 1, none⟩ = some x1 ∧ w'.cell? ⟨B, 2, none⟩ = some x2 ∧ w'.cell? ⟨B, 3, none⟩ = some x3 ∧ (∀ o, w'.frozen? ⟨B, o, none⟩ = false) :=
  fun _ hs => ⟨(h.seen hs).cell 0, (h.seen hs).cell 1, (h.seen hs).cell 2, (h.seen hs).cell 3, (h.seen hs).free⟩
set_option maxHeartbeats 1000000 in
theorem outer_any (h : Hts) (x : Int) (w : World) :
    Calls Tryz.prog 48 #[htv h, .int .i64 x] w fun e w' => e = .returned (.int .i64 (outN h x)) ∧ Seen w w' := by
  obtain ⟨⟨au, n⟩, lo, hi⟩ := h
  have OR := fun w => or_any ⟨au, n⟩ x w
  have CL := fun w => clamp_seen (orV ⟨au, n⟩ x) lo hi w
  have HV := Lib.hid (show outN ⟨⟨au, n⟩, lo, hi⟩ x = clampI (orV ⟨au, n⟩ x) lo hi from rfl)
  obtain ⟨o, ho⟩ : ∃ o, orV ⟨au, n⟩ x = o := ⟨_, rfl⟩
  rw [ho] at OR CL HV
  clear ho
  rw [HV.out]
  obtain ⟨W, hW⟩ : ∃ W, W = w.alloc (.cells #[.bool au, .int .i64 n, .int .i64 lo, .int .i64 hi] 127) := ⟨_, rfl⟩
  have k : Blk W w.heap.size [.bool au, .int .i64 n, .int .i64 lo, .int .i64 hi] 127 := by rw [hW]; exact Blk.new w _ _
  have SW : Hid (Seen w W) := by rw [hW]; exact (Seen.refl w).alloc _
  have r0 := k.rules4
  go_enter Tryz.func48, Tryz.ntmps48
  go_upto_region 1 with fail
  rw [← hW]
  clear hW k
  refine wp_region_quiet (C := Seen W) (by kernel_rfl) (by kernel_rfl) (Seen.drew (Seen.refl W)) ?_
  simp only []
  repeat (first
    | go_big_quiet_skip
    | (go_big_quiet_want
       apply Exists.intro
       refine ⟨fun w1 h1 => ?_, ?_⟩
       focus
         go_simp
         first | done | rfl | (go_at_call 40; with_reducible exact quiet_call h1 (OR _)) | (go_at_call 74; with_reducible exact quiet_call h1 (CL _))
       (try simp only [Act.put, List.setIfInBounds_toArray, List.set_cons_zero, List.set_cons_succ])
       go_big_quiet_on))
  refine wpQuiet_nil ?_
  intro w2 h2
  have H2 := Lib.hid h2
  clear h2
  go_wp2
  go_ret
  exact ⟨rfl, SW.out.trans H2.out⟩
set_option maxHeartbeats 1000000 in
theorem inner_any (h : Hts) (w : World) :
    Calls Tryz.prog 47 #[htv h] w fun e w' => e = .returned (szv (innS h)) ∧ Seen w w' := by
  have OU := fun w => outer_any h 0 w
  obtain ⟨⟨au, n⟩, lo, hi⟩ := h
  obtain ⟨W, hW⟩ : ∃ W, W = (w.alloc (.cells #[.bool au, .int .i64 n, .int .i64 lo, .int .i64 hi] 127)).alloc (.cells #[.bool false, .int .i64 0] 24) := ⟨_, rfl⟩
  have k : Blk W w.heap.size [.bool au, .int .i64 n, .int .i64 lo, .int .i64 hi] 127 := by rw [hW]; exact (Blk.new w _ _).alloc _
  have k1 : Blk W (w.heap.size + 1) [.bool false, .int .i64 0] 24 := by rw [hW]; simpa using Blk.new (w.alloc (.cells #[.bool au, .int .i64 n, .int .i64 lo, .int .i64 hi] 127)) [.bool false, .int .i64 0] 24
  have SW : Hid (Seen w W) := by rw [hW]; exact ((Seen.refl w).alloc _).alloc _
  have r0 := k.rules4
  have r1 := k1.rules2
  have r0' := r0 W (Seen.refl W)
  have r1' := r1 W (Seen.refl W)
  have K1 := Lib.hid k1
  clear k k1
  cases au
  · have HV := Lib.hid (show innS ⟨⟨false, n⟩, lo, hi⟩ = ⟨false, outN ⟨⟨false, n⟩, lo, hi⟩ 0⟩ from rfl)
    rw [HV.out]
    obtain ⟨o, ho⟩ : ∃ o, outN ⟨⟨false, n⟩, lo, hi⟩ 0 = o := ⟨_, rfl⟩
    rw [ho] at OU ⊢
    clear ho HV
    go_enter Tryz.func47, Tryz.ntmps47
    go_upto_region 1 with fail
    rw [← hW]
    clear hW
    go_wp2_with (go_at_call 48; refine (OU _).mono ?_; clear OU; rintro e w2 ⟨rfl, h2⟩; have H2 := Lib.hid h2; have r2' := r1 w2 h2; clear h2)
    have z := ((K1.out.seen H2.out).set 0 (.bool false)).set 1 (.int .i64 o)
    have z0 := z.cell 0
    have z1 := z.cell 1
    refine bodyPost_ret (by simp [results, Tryz.results47, go_sem, z0, z1]; try rfl) rfl ?_
    exact ⟨rfl, Below.setCell (Below.setCell (SW.out.trans H2.out) (by simp) _) (by simp) _⟩
  · have HV := Lib.hid (show innS ⟨⟨true, n⟩, lo, hi⟩ = ⟨true, n⟩ from rfl)
    rw [HV.out]
    clear HV OU
    go_enter Tryz.func47, Tryz.ntmps47
    go_upto_region 1 with fail
    rw [← hW]
    clear hW
    go_wp2_with fail
    have z := (K1.out.set 0 (.bool true)).set 1 (.int .i64 n)
    have z0 := z.cell 0
    have z1 := z.cell 1
    refine bodyPost_ret (by simp [results, Tryz.results47, go_sem, z0, z1]; try rfl) rfl ?_
    exact ⟨rfl, Below.setCell (Below.setCell SW.out (by simp) _) (by simp) _⟩
end Go.Proofs.YtngeaigkafamiaaGreat
namespace Go.Proofs.YtngeaigkafamiaaGreat
open Go.ChangeShapes Go.WideShapes Go.ChangeAt Go.RowKit
set_option maxRecDepth 100000
theorem fr_i (f : Fr) : (frl f)[8]? = some (.int .i64 f.pd.a) ∧ (frl f)[9]? = some (.int .i64 f.pd.b) ∧ (frl f)[10]? = some (.int .i64 f.pd.c) ∧ (frl f)[11]? = some (.int .i64 f.pd.d) ∧ (frl f)[12]? = some (.int .i64 f.bd.a) ∧ (frl f)[13]? = some (.int .i64 f.bd.b) ∧ (frl f)[14]? = some (.int .i64 f.bd.c) ∧ (frl f)[15]? = some (.int .i64 f.bd.d) :=
  ⟨rfl, rfl, rfl, rfl, rfl, rfl, rfl, rfl⟩
set_option maxHeartbeats 1000000 in
theorem endsOf_any (f : Fr) (h : Hts) (ind : Bool) (w : World) :
    Calls Tryz.prog 44 #[frv f, htv h, .bool ind] w fun r w' => r = .returned (env (endE f h ind)) ∧ Seen w w' := by
  obtain ⟨⟨au, n⟩, lo, hi⟩ := h
  obtain ⟨p0, p1, p2, p3, b0, b1, b2, b3⟩ := fr_i f
  unfold frv
  cases ind
  · have HV := Lib.hid (show endE f ⟨⟨au, n⟩, lo, hi⟩ false = ⟨decide (f.bd.a = 0) && decide (f.pd.a = 0), (decide (f.bd.c = 0) && (decide (f.pd.c = 0) && decide (lo = 0))) && au, decide (f.bd.c = 0) && (decide (f.pd.c = 0) && decide (lo = 0))⟩ from rfl)
    rw [HV.out]
    clear HV
    obtain ⟨ba, hba⟩ : ∃ x, f.bd.a = x := ⟨_, rfl⟩
    obtain ⟨bc, hbc⟩ : ∃ x, f.bd.c = x := ⟨_, rfl⟩
    obtain ⟨pa, hpa⟩ : ∃ x, f.pd.a = x := ⟨_, rfl⟩
    obtain ⟨pc, hpc⟩ : ∃ x, f.pd.c = x := ⟨_, rfl⟩
    rw [hba, hbc, hpa, hpc]
    rw [hba] at b0
    rw [hbc] at b2
    rw [hpa] at p0
    rw [hpc] at p2
    clear hba hbc hpa hpc p1 p3 b1 b3
    by_cases h1 : bc = 0
    · by_cases h2 : pc = 0
      · by_cases h3 : lo = 0
        · by_cases h4 : ba = 0
          · by_cases h5 : pa = 0
            all_goals
              go_enter Tryz.func44, Tryz.ntmps44
              go_wp2_with fail
              go_returns
              exact ⟨by simp [h1, h2, h3, h4, h5], by unfold Seen; go_grown⟩
          · go_enter Tryz.func44, Tryz.ntmps44
            go_wp2_with fail
            go_returns
            exact ⟨by simp [h1, h2, h3, h4], by unfold Seen; go_grown⟩
        · by_cases h4 : ba = 0
          · by_cases h5 : pa = 0
            all_goals
              go_enter Tryz.func44, Tryz.ntmps44
              go_wp2_with fail
              go_returns
              exact ⟨by simp [h3, h4, h5], by unfold Seen; go_grown⟩
          · go_enter Tryz.func44, Tryz.ntmps44
            go_wp2_with fail
            go_returns
            exact ⟨by simp [h3, h4], by unfold Seen; go_grown⟩
      · by_cases h4 : ba = 0
        · by_cases h5 : pa = 0
          all_goals
            go_enter Tryz.func44, Tryz.ntmps44
            go_wp2_with fail
            go_returns
            exact ⟨by simp [h2, h4, h5], by unfold Seen; go_grown⟩
        · go_enter Tryz.func44, Tryz.ntmps44
          go_wp2_with fail
          go_returns
          exact ⟨by simp [h2, h4], by unfold Seen; go_grown⟩
    · by_cases h4 : ba = 0
      · by_cases h5 : pa = 0
        all_goals
          go_enter Tryz.func44, Tryz.ntmps44
          go_wp2_with fail
          go_returns
          exact ⟨by simp [h1, h4, h5], by unfold Seen; go_grown⟩
      · go_enter Tryz.func44, Tryz.ntmps44
        go_wp2_with fail
        go_returns
        exact ⟨by simp [h1, h4], by unfold Seen; go_grown⟩
  · have HV := Lib.hid (show endE f ⟨⟨au, n⟩, lo, hi⟩ true = zEn from rfl)
    rw [HV.out]
    clear HV
    go_enter Tryz.func44, Tryz.ntmps44
    go_wp2_with fail
    go_returns
    exact ⟨rfl, by unfold Seen; go_grown⟩
end Go.Proofs.YtngeaigkafamiaaGreat
namespace Go.Proofs.YtngeaigkafamiaaGreat
open Go.ChangeShapes Go.WideShapes Go.ChangeAt Go.RowKit
set_option maxRecDepth 100000
theorem zs_five (w : World) (a b c d e : Int) (t : TypeId) : ZI (w.alloc (.cells #[.int .i64 a, .int .i64 b, .int .i64 c, .int .i64 d, .int .i64 e] t)) (some ⟨w.heap.size, 0, none⟩) 5 [a, b, c, d, e] := by
  have k : Blk (w.alloc (.cells #[.int .i64 a, .int .i64 b, .int .i64 c, .int .i64 d, .int .i64 e] t)) w.heap.size [.int .i64 a, .int .i64 b, .int .i64 c, .int .i64 d, .int .i64 e] t := Blk.new w _ _
  refine ⟨rfl, fun _ => ⟨_, _, rfl, fun i hi => ?_⟩⟩
  rcases (show i = 0 ∨ i = 1 ∨ i = 2 ∨ i = 3 ∨ i = 4 by omega) with rfl | rfl | rfl | rfl | rfl
  · exact k.cell 0
  · exact k.cell 1
  · exact k.cell 2
  · exact k.cell 3
  · exact k.cell 4
set_option maxHeartbeats 1000000 in
theorem aroundL_any (f : Fr) (w : World) :
    Calls Tryz.prog 75 #[frv f, .int .i64 3, .int .i64 0, .int .i64 1] w fun r w' => r = .returned (.tuple #[.int .i64 (sumN (arL f)), .bool (sumB (arL f))]) ∧ Seen w w' := by
  obtain ⟨x0, x1, x2, x3, y0, y1, y2, y3⟩ := fr_i f
  obtain ⟨W, hW⟩ : ∃ W, W = w.alloc (.cells (frl f).toArray 37) := ⟨_, rfl⟩
  have k : Blk W w.heap.size (frl f) 37 := by rw [hW]; exact Blk.new w _ _
  have SW : Hid (Seen w W) := by rw [hW]; exact (Seen.refl w).alloc _
  have r0 := fun w' (h : Seen W w') => ((k.seen h).cell 15).trans y3
  have r1 := fun w' (h : Seen W w') => ((k.seen h).cell 11).trans x3
  have r2 := fun w' (h : Seen W w') => ((k.seen h).cell 9).trans x1
  have r3 := fun w' (h : Seen W w') => ((k.seen h).cell 13).trans y1
  clear x0 x1 x2 x3 y0 y1 y2 y3 k
  have HV := Lib.hid (show arL f = [f.bd.d, f.pd.d, 0, f.pd.b, f.bd.b] from rfl)
  rw [HV.out]
  clear HV
  generalize f.bd.d = g0 at r0 ⊢
  generalize f.pd.d = g1 at r1 ⊢
  generalize f.pd.b = g2 at r2 ⊢
  generalize f.bd.b = g3 at r3 ⊢
  have sr := Seen.refl W
  unfold frv
  go_enter Tryz.func75, Tryz.ntmps75
  go_upto_region 1 with fail
  rw [← hW]
  clear hW
  go_region_held3 (fun w' => Seen W w')
    (first | exact sr.drew | exact (sr.drew).alloc _ | exact s1)
    (first | (go_at_call 98; refine (sum_any _ _ _ [g0, g1, 0, g2, g3] _ (zs_five W.drew g0 g1 0 g2 g3 2) (by decide)).mono ?_; rintro r w' ⟨rfl, rfl⟩; have s1 : Seen W (W.drew.alloc (.cells #[.int .i64 g0, .int .i64 g1, .int .i64 0, .int .i64 g2, .int .i64 g3] 2)) := sr.drew.alloc _))
  go_wp2_with fail
  go_ret2
  exact ⟨rfl, SW.out.trans s1⟩
set_option maxHeartbeats 1000000 in
theorem aroundT_any (f : Fr) (n : Int) (w : World) :
    Calls Tryz.prog 75 #[frv f, .int .i64 0, .int .i64 n, .int .i64 2] w fun r w' => r = .returned (.tuple #[.int .i64 (sumN (arT f n)), .bool (sumB (arT f n))]) ∧ Seen w w' := by
  obtain ⟨x0, x1, x2, x3, y0, y1, y2, y3⟩ := fr_i f
  obtain ⟨W, hW⟩ : ∃ W, W = w.alloc (.cells (frl f).toArray 37) := ⟨_, rfl⟩
  have k : Blk W w.heap.size (frl f) 37 := by rw [hW]; exact Blk.new w _ _
  have SW : Hid (Seen w W) := by rw [hW]; exact (Seen.refl w).alloc _
  have r0 := fun w' (h : Seen W w') => ((k.seen h).cell 12).trans y0
  have r1 := fun w' (h : Seen W w') => ((k.seen h).cell 8).trans x0
  have r2 := fun w' (h : Seen W w') => ((k.seen h).cell 10).trans x2
  have r3 := fun w' (h : Seen W w') => ((k.seen h).cell 14).trans y2
  clear x0 x1 x2 x3 y0 y1 y2 y3 k
  have HV := Lib.hid (show arT f n = [f.bd.a, f.pd.a, n, f.pd.c, f.bd.c] from rfl)
  rw [HV.out]
  clear HV
  generalize f.bd.a = g0 at r0 ⊢
  generalize f.pd.a = g1 at r1 ⊢
  generalize f.pd.c = g2 at r2 ⊢
  generalize f.bd.c = g3 at r3 ⊢
  have sr := Seen.refl W
  unfold frv
  go_enter Tryz.func75, Tryz.ntmps75
  go_upto_region 1 with fail
  rw [← hW]
  clear hW
  go_region_held3 (fun w' => Seen W w')
    (first | exact sr.drew | exact (sr.drew).alloc _ | exact s1)
    (first | (go_at_call 98; refine (sum_any _ _ _ [g0, g1, n, g2, g3] _ (zs_five W.drew g0 g1 n g2 g3 2) (by decide)).mono ?_; rintro r w' ⟨rfl, rfl⟩; have s1 : Seen W (W.drew.alloc (.cells #[.int .i64 g0, .int .i64 g1, .int .i64 n, .int .i64 g2, .int .i64 g3] 2)) := sr.drew.alloc _))
  go_wp2_with fail
  go_ret2
  exact ⟨rfl, SW.out.trans s1⟩
end Go.Proofs.YtngeaigkafamiaaGreat

