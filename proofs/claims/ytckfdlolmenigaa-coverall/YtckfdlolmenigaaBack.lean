/- Contract of slices.Backward over a slice of rectangles: it hands on the elements from the last to the first. -/
import Derived.Test.YtckfdlolmenigaaSep
import Derived.Test.YtckfdlolmenigaaFM
import Derived.RangeFuncCalls
import Derived.Shelf.Abstract
import Derived.Shelf.RegionOpen
import Derived.WalkKit
import Derived.OwnWalkIn
import Derived.TacticsInMore
import Derived.LoopNIn
import Derived.LoopIn
import Derived.Sort.LoopGhostIn
namespace Go.Proofs.Ytckfdlolmenigaa
open Go.ChangeShapes Go.WideShapes Go.ChangeAt Go.RowKit Go.Shelf
attribute [local go_sem] Oper.semAt_some
/-- The last k, from the last to the first, each with its index. -/
def down (rs : List R4) : Nat → List (R4 × Nat)
  | 0 => []
  | k + 1 => (rat rs k, k) :: down rs k
theorem down_fst (rs : List R4) : ∀ k, k ≤ rs.length → (down rs k).map Prod.fst = (rs.take k).reverse
  | 0, _ => rfl
  | k + 1, h => by
    unfold down
    rw [List.map_cons, down_fst rs k (by omega), List.take_succ_eq_append_getElem h, List.reverse_append, rat_eq h]; rfl
/-- Blocks that the iterator reads: its box, the slice's row. -/
def rdK (ad : Option Addr) (n B : Nat) (k : Nat) : Prop := k = B ∨ (0 < n ∧ ∃ a, ad = some a ∧ k = a.block)
theorem RS.keeps {W W' : World} {ad : Option Addr} {n : Nat} {rs : List R4} {K : Nat → Prop} (h : RS W ad n rs) (hk : Keeps K W W') (hK : ∀ a, ad = some a → K a.block) : RS W' ad n rs := by
  refine ⟨h.1, fun h0 => ?_⟩
  obtain ⟨b, off, rfl, hc⟩ := h.2 h0
  refine ⟨b, off, rfl, fun i hi => ?_⟩
  obtain ⟨c0, c1, c2, c3⟩ := hc i hi
  have hb := hK _ rfl
  exact ⟨(hk.cell (p := ⟨b, off + i * 4, none⟩) hb).trans c0, (hk.cell (p := ⟨b, off + i * 4 + 1, none⟩) hb).trans c1, (hk.cell (p := ⟨b, off + i * 4 + 2, none⟩) hb).trans c2, (hk.cell (p := ⟨b, off + i * 4 + 3, none⟩) hb).trans c3⟩
theorem lt_of_cell {W : World} {a : Addr} {v : Value} (h : W.cell? a = some v) : a.block < W.heap.size := World.block_lt_of_cell? W a h
theorem RS.lt {W : World} {ad : Option Addr} {n : Nat} {rs : List R4} (h : RS W ad n rs) (h0 : 0 < n) : ∀ a, ad = some a → a.block < W.heap.size := by
  obtain ⟨b, off, rfl, hc⟩ := h.2 h0
  intro a ha
  cases ha
  exact lt_of_cell (hc 0 h0).1
theorem roundIn_any {m m' : Nat} {P : Program} {l : Nat} {f : FuncId} {tmps : Array Value} {assign body : Code} {w : World} {R : Ending → World → Prop} (h : RoundIn Fence.wide m P l f tmps assign body w R) : RoundIn Fence.wide m' P l f tmps assign body w R :=
  ⟨trivial, fun c cs _ => h.2 c cs (room_wide _)⟩
def encB (x : R4 × Nat) : Array Value := #[.int .i64 (x.2 : Int), .agg #[.int .i64 x.1.x0, .int .i64 x.1.y0, .int .i64 x.1.x1, .int .i64 x.1.y1]]
set_option maxRecDepth 100000 in
set_option maxHeartbeats 2000000 in
theorem back_sep (B : Nat) (ad : Option Addr) (n c : Nat) (rs : List R4) (W : World) (hB : W.cell? ⟨B, 0, none⟩ = some (.slice ad n c)) (hR : RS W ad n rs) (hn : n ≤ 4000000) :
    SeqSep Try.prog 33 #[.pointer (some ⟨B, 0, none⟩)] encB (down rs n) (fun k => k < W.heap.size ∧ rdK ad n B k) W := by
  intro l J Jx T hJ hJx low hY h0 hT
  refine (callsIn_wide (n := 0)).1 (callsIn_of_wp Try.func33 rfl trivial ?_ rfl)
  have HB := Lib.hid hB
  have HR := Lib.hid hR
  have hBlt : B < W.heap.size := lt_of_cell hB
  have keep : ∀ T1 wr, Moves T T1 W wr → wr.cell? ⟨B, 0, none⟩ = some (.slice ad n c) ∧ RS wr ad n rs := fun T1 wr mv => by
    have hk : Keeps (fun k => k < W.heap.size ∧ rdK ad n B k) W wr := mv.keeps (fun k hk => ⟨hk.1, fun ht => hT k ht hk⟩)
    refine ⟨(hk.cell ⟨hBlt, .inl rfl⟩).trans HB.out, ?_⟩
    rcases Nat.eq_zero_or_pos n with rfl | hp
    · exact ⟨HR.out.1, fun h => absurd h (Nat.lt_irrefl _)⟩
    · exact HR.out.keeps hk (fun a ha => ⟨HR.out.lt hp a ha, .inr ⟨hp, a, ha, rfl⟩⟩)
  have HT := Lib.hid hT
  have HY := Lib.hid hY
  have HK := Lib.hid keep
  clear hY hR hT keep
  simp only [Try.ntmps33, List.size_toArray, List.length_cons, List.length_nil, Nat.reduceAdd, Nat.reduceSub, Array.replicate_succ, Array.replicate_zero, List.push_toArray, List.append_toArray, List.nil_append, List.cons_append]
  gi_wp2
  clear hB
  gi_loopg [3] n (fun k i wr => ∃ (j : Int) (pre : List (R4 × Nat)) (T1 : Nat → Prop), i = .int .i64 j ∧ j = (k : Int) - 1 ∧ k ≤ n ∧ pre ++ down rs k = down rs n ∧ J pre T1 wr ∧ Moves T T1 W wr)
  case atStart => exact ⟨_, [], T, rfl, rfl, Nat.le_refl _, rfl, h0, Moves.refl _ _⟩
  case round =>
    obtain ⟨j, pre, T1, rfl, hj, hk, hpre, hJ1, hmv⟩ := hrel
    obtain ⟨hc, hrs⟩ := HK.out T1 wr hmv
    have HP := Lib.hid hpre
    have HJ1 := Lib.hid hJ1
    have HM := Lib.hid hmv
    clear hpre hJ1 hmv
    cases gk with
    | zero =>
      have hneg : j = -1 := by omega
      subst hneg
      clear hrs hj hk
      gi_wp2
      go_end0
      refine ⟨⟨_, rfl⟩, T1, HM.out, .inl ?_⟩
      have := HP.out
      rw [show down rs 0 = [] from rfl, List.append_nil] at this
      rw [← this]; exact HJ1.out
    | succ k =>
      obtain rfl : j = (k : Int) := by omega
      have hkn : k < n := by omega
      obtain ⟨b1, o1, rfl, hc1⟩ := hrs.2 (by omega)
      obtain ⟨p0, p1, p2, p3⟩ := hc1 k hkn
      clear hc1 hrs hj
      have HP2 : Hid ((pre ++ [(rat rs k, k)]) ++ down rs k = down rs n) := by unfold Hid; rw [← HP.out]; simp [down]
      obtain ⟨fn, tmps, assign, body, hy, hRd⟩ := HY.out 0 pre (rat rs k, k) T1 wr HJ1.out ⟨_, HP2.out⟩
      dsimp only [encB] at hy
      have HRd := Lib.hid hRd
      clear hRd
      gi_wp2
      refine ⟨rfl, RoundIn.mono (roundIn_any HRd.out) ?_⟩
      rintro e W3 ⟨T3, mv3, (⟨rfl, hJ3⟩ | ⟨rfl, hJ3⟩)⟩
      · clear hc p0 p1 p2 p3 hy
        have HJ3 := Lib.hid hJ3
        have HM3 := Lib.hid mv3
        clear hJ3 mv3
        gi_wp2
        gi_roundg k
        case rel => exact ⟨_, pre ++ [(rat rs k, k)], T3, rfl, by omega, by omega, HP2.out, HJ3.out, HM.out.trans HM3.out⟩
        case measure => omega
      · clear hc p0 p1 p2 p3 hy
        have HJ3 := Lib.hid hJ3
        have HM3 := Lib.hid mv3
        clear hJ3 mv3
        gi_wp2
        refine bodyPost_ret (results_none rfl _ _ _) rfl ?_
        exact ⟨⟨_, rfl⟩, T3, HM.out.trans HM3.out, .inr ⟨pre ++ [(rat rs k, k)], ⟨_, HP2.out⟩, HJ3.out⟩⟩
theorem backward_any (ad : Option Addr) (n c : Nat) (w : World) : Calls Try.prog 32 #[.slice ad n c] w fun e w' => e = .returned (.func (.func 33) #[] #[.pointer (some ⟨w.heap.size, 0, none⟩)]) ∧ w' = w.alloc (.cells #[.slice ad n c] 24) := by
  go_enter Try.func32, Try.ntmps32
  go_wp2
  go_ret
  exact ⟨rfl, rfl⟩
end Go.Proofs.Ytckfdlolmenigaa
