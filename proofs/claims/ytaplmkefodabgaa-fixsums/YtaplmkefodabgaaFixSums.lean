/- Proved: for every slice of int64 the law FixSums returns true, and its argument reads afterwards as before; no conditions. -/
import Derived.Test.YtaplmkefodabgaaRows
import Derived.WalkKit
import Derived.Test.YtaplmkefodabgaaSums
import Derived.ProofKit
import Derived.OpenShut
import Derived.ShutString
import Derived.ChangeOld
import Derived.Below
namespace Go.Proofs.Ytaplmkefodabgaa.fixSums
open Go.ChangeShapes Go.WideShapes Go.ChangeAt Go.RowKit
open Go.ChangeMaps (open_string shut_string)
set_option linter.unusedVariables false

theorem own : ownKnob Try.prog.godebug = none := by kernel_rfl
theorem laidOut : laidOutB Try.prog = true := by kernel_rfl

/-- WHAT THE WALK IS TOLD OF A SLICE OF INTEGERS THAT CAME IN: it is nil; or it leads to a row of 'cap' cells, the numbers 'zs' (the first 'len' are its elements, the rest its spare room), each fitting its kind. -/
def IsRow (k : IntKind) (w : World) (a : Option Addr) (len cap : Nat) (zs : List Int) : Prop :=
  (a = none ∧ len = 0 ∧ cap = 0 ∧ zs = []) ∨
  ∃ x, a = some x ∧ len ≤ cap ∧ cap ≤ maxLen ∧ zs.length = cap ∧ (∀ i, i < zs.length → w.cell? (x.add i) = some (.int k (zs.getD i 0))) ∧ ∀ n ∈ zs, (Lit.int k n).wf = true

theorem info2 : (Try.prog.info? 2).map (fun i => (i.zero, i.size, i.bytes)) = some (some (.int .i64 0), 1, 8) := by kernel_rfl
/-- The one cell of a new block of one cell. -/
theorem one_cell (w : World) (u : Value) (t : TypeId) : ∀ j v, [u][j]? = some v → (w.alloc (.cells #[u] t)).cell? ((⟨w.heap.size, 0, none⟩ : Addr).add j) = some v := by
  intro j v hj
  match j, hj with
  | 0, hj => simp at hj; subst hj; simp [Addr.add]
theorem one_one (k : IntKind) (n : Int) : ∀ u ∈ [Value.int k n], u.oneCell' = true := by
  intro u hu; simp at hu; subst hu; rfl

theorem rev_take_succ {zs : List Int} {k : Nat} (h : k < zs.length) : zs.reverse.take (k + 1) = zs.reverse.take k ++ [zat zs (zs.length - 1 - k)] := by
  rw [List.take_succ_eq_append_getElem (by simpa using h), zat_eq (by omega)]
  congr 2
  rw [List.getElem_reverse]

theorem cell_lt {w : World} {a : Addr} {v : Value} (h : w.cell? a = some v) : a.block < w.heap.size := by
  rcases Nat.lt_or_ge a.block w.heap.size with h1 | h1
  · exact h1
  · simp [World.cell?, Array.getElem?_eq_none h1] at h

/-- What the walk is told of the argument, as a list of its elements alone. -/
theorem zs_of_row {w : World} {a : Option Addr} {len cap : Nat} {z : List Int} (h : IsRow .i64 w a len cap z) :
    ∃ zs, ZS w a len zs ∧ ∀ b off, a = some ⟨b, off, none⟩ → 0 < len → b < w.heap.size := by
  rcases h with ⟨rfl, rfl, rfl, rfl⟩ | ⟨x, rfl, hl, hm, hz, hcell, hwz⟩
  · exact ⟨[], ⟨rfl, fun h => absurd h (by omega)⟩, fun b off h => by cases h⟩
  · refine ⟨z.take len, ⟨by rw [List.length_take]; omega, fun h0 => ?_⟩, fun b off he h0 => ?_⟩
    · obtain ⟨b, off, spot⟩ := x
      have hc := hcell 0 (by omega)
      have hspot : spot = none := by simpa [Addr.add] using World.cell?_spot hc
      subst hspot
      refine ⟨b, off, rfl, fun i hi => ?_⟩
      have h1 := hcell i (by omega)
      have e1 : zat (z.take len) i = z.getD i 0 := by
        unfold zat
        simp [hi]
      rw [e1, ← h1]
      congr 1
      unfold Addr.add
      split <;> simp_all
    · cases he
      have hc := hcell 0 (by omega)
      have hc' : w.cell? ⟨b, off, none⟩ = some (.int .i64 (z.getD 0 0)) := by simpa [Addr.add] using hc
      exact cell_lt hc' 

/-- A row of the call's own, as a slice that reads as a list. -/
theorem zs_of_own {w : World} {base n : Nat} {v : Value} {zs : List Int} (h : w.ownsRow base 2 1 v n (zs.map (Value.int .i64))) (hl : zs.length = n) :
    ∃ a c, v = .slice a n c ∧ ZS w a n zs := by
  rcases h.2 with ⟨rfl, rfl⟩ | ⟨g, cap, cur, rfl, hb, hh, h1, h2, h3, h4⟩
  · exact ⟨none, 0, rfl, hl, fun h => absurd h (by omega)⟩
  · refine ⟨_, cap, rfl, hl, fun _ => ⟨g, 0, rfl, fun i hi => ?_⟩⟩
    have hc := h.cellAt i (by omega)
    rw [Nat.zero_add, hc, List.getElem?_map, List.getElem?_eq_getElem (by omega), zat_eq (by omega)]
    rfl

/-! ### STEP 1: THE WALK: the Go text returns true, AND WRITES NOTHING THAT WAS THERE: 'Below w.heap.size w w'' (Derived/Below.lean: '.refl', '.alloc', '.drew', '.setCell' at a new block, '.trans'). Open each 'IsRow' by 'rcases' AHEAD of 'go_enter'; part every test ahead of the walk. -/
theorem walk (a0 : Option Addr) (len0 cap0 : Nat) (z0 : List Int) (w : World) (w0 : IsRow .i64 w a0 len0 cap0 z0) :
    Calls Try.prog 4 #[.slice a0 len0 cap0] w fun e w' => e = .returned (.bool true) ∧ Below w.heap.size w w' := by
  obtain ⟨zs, hZ, hreach⟩ : ∃ zs, ZS w a0 len0 zs ∧ ∀ b off, a0 = some ⟨b, off, none⟩ → 0 < len0 → b < w.heap.size := zs_of_row w0
  by_cases hn : 4000 < len0
  · have hn' : (4000 : Int) < (len0 : Int) := by omega
    clear hZ hreach w0
    go_enter Try.func4, Try.ntmps4
    go_wp2_with (go_at_call 8; refine (awake_any _).mono ?_; rintro e w' ⟨rfl, rfl⟩)
    go_ret
    exact ⟨rfl, Below.refl _ _⟩
  · have hn' : ¬ (4000 : Int) < (len0 : Int) := by omega
    have hn4 : len0 ≤ 4000 := by omega
    have HZ := Lib.hid hZ
    have HR := Lib.hid hreach
    clear hZ hreach w0
    obtain ⟨i0, hi0, hz0, hz1, hz2⟩ := info_parts info2
    go_enter Try.func4, Try.ntmps4
    go_wp2_with (first | (go_at_call 8; refine (awake_any _).mono ?_; rintro e w' ⟨rfl, rfl⟩) | (go_at_call 11; refine (sum_any _ _ _ zs _ HZ.out hn4).mono ?_; rintro e w' ⟨rfl, rfl⟩) | (go_at_call 12; refine (refSum_any _ _ _ zs _ HZ.out hn4).mono ?_; rintro e w' ⟨rfl, rfl⟩))
    go_loopw [7, 31] (fun v i wr => ∃ k : Nat, k ≤ len0 ∧ i = .int .i64 k ∧ wr.ownsRow w.heap.size 2 1 v k ((zs.reverse.take k).map (Value.int .i64)) ∧ Below w.heap.size w wr) (fun _ i _ => len0 - (intOf i).toNat)
    case atStart => exact ⟨0, Nat.zero_le _, rfl, World.ownsRow_nil _ _ _ _, Below.refl _ _⟩
    case round =>
      obtain ⟨k, hk, rfl, hown, hbel⟩ := hrel
      by_cases hlt : k < len0
      · obtain ⟨b, off, rfl, hc⟩ := HZ.out.2 (by omega)
        have hb := HR.out b off rfl (by omega)
        have hck : wr.cell? ⟨b, off + (len0 - 1 - k), none⟩ = some (.int .i64 (zat zs (len0 - 1 - k))) := (hbel.cell hb).trans (hc (len0 - 1 - k) (by omega))
        clear hc
        have HO := Lib.hid hown
        have HB := Lib.hid hbel
        have hsz := hbel.size
        clear hown hbel
        go_wp2_with (at_builtin; refine wpList_append_own _ rfl (.tmp 34) (.tmp 43) 24 rfl w.heap.size 2 i0 (.int .i64 0) 1 8 Try.underlying24 hi0 hz0 hz1 hz2 rfl (by decide) u7 _ _ rfl (HO.out.alloc _) ⟨wr.heap.size, 0, none⟩ 1 1 [.int .i64 (zat zs (len0 - 1 - k))] rfl rfl (one_cell _ _ _) (one_one _ _) (by unfold maxLen; omega) (by omega) (by simp; omega) ?_; intro v1 w1 hown1 hgrow1 hni; clear hni; have HO1 := Lib.hid hown1; have HG1 := Lib.hid hgrow1; clear hown1 hgrow1)
        go_roundw
        case rel =>
          refine ⟨k + 1, by omega, by go_num, ?_, ?_⟩
          · rw [rev_take_succ (by rw [HZ.out.1]; exact hlt), HZ.out.1, List.map_append]; exact HO1.out
          · exact (HB.out.alloc hsz _).grown HG1.out (by simp; omega) (fun g hg => (HO.out.lt g hg).1)
        case measure => simp [intOf]; omega
      · have hke : k = len0 := by omega
        have HO : Hid (wr.ownsRow w.heap.size 2 1 u7 len0 (zs.reverse.map (Value.int .i64))) := by
          rw [hke, List.take_of_length_le (by rw [List.length_reverse, HZ.out.1]; omega)] at hown
          exact Lib.hid hown
        have HB := Lib.hid hbel
        clear hown hbel hke
        obtain ⟨a1, c1, rfl, hZ1⟩ : ∃ a1 c1, u7 = .slice a1 len0 c1 ∧ ZS wr a1 len0 zs.reverse := zs_of_own HO.out (by rw [List.length_reverse]; exact HZ.out.1)
        have HZ1 := Lib.hid hZ1
        clear hZ1 HO
        go_wp2_with (go_at_call 11; refine (sum_any _ _ _ zs.reverse _ HZ1.out hn4).mono ?_; rintro e w' ⟨rfl, rfl⟩; rw [sumN_reverse, sumB_reverse])
        go_ret
        exact ⟨rfl, HB.out⟩

/-! ### THE ROW's STEP: WRITTEN OUT: LEAVE IT -/
set_option maxRecDepth 100000 in
theorem lifted (os : Os) (started : os.Started) (H : Type) (enc : TypeId × Value → H) :
    ReturnsInHanded {} Try.checked os 4 .any (Rows.fixSumsSpec.pre6 enc Try.prog Try.f4 Rows.fixSumsRow.domain false) (Rows.fixSumsSpec.post enc Try.prog Try.f4 false true false false) := by
  refine returnsInHanded_of_change (C := Try.checked) own started (by kernel_rfl) Try.func4
    (ChangeSpec.witness6 (enc := enc) (C := Try.checked) false ⟨#[], #[.slice none 0 0], []⟩ 8 (by kernel_rfl) (by kernel_rfl) (by kernel_rfl) (by kernel_rfl)) ?_
  intro W base args ds gs before hval0 hW hcnd _
  have hval : ∀ (j : Nat) t v, Try.f4.params[j]? = some t → args[j]? = some v → Value.okWide Try.prog W .any base t v := hval0
  have hW' := hW
  obtain ⟨p, q, hA0, hV, rfl, hfz, hnd⟩ := hW
  have hA : DataW.TrodAll enc Try.prog W 0 (fun _ => true) true Try.f4.params.toList args.toList ds p := hA0
  rw [Try.params4] at hA hval
  obtain ⟨v0, vs0, d0, ds0, p0, q0, hargs, rfl, rfl, h0, r0⟩ := trodAll_cons hA
  obtain ⟨rfl, rfl, rfl⟩ := trodAll_nil r0
  obtain rfl : args = #[v0] := by cases args; simp_all
  obtain ⟨rfl, rfl⟩ := trodVars_none hV
  obtain ⟨a0, len0, cap0, rfl⟩ := okWide_slice Try.underlying24 (hval 0 24 v0 rfl rfl)
  have k0 := h0
  have lt0 : ∀ x ∈ p0, x.block < W.heap.size := by obtain ⟨m, hm⟩ := k0; exact DataW.trod_lt m _ _ _ hm
  obtain ⟨z0, w0⟩ : ∃ zs, IsRow .i64 W a0 len0 cap0 zs := by
    obtain ⟨fuel, hf⟩ := h0
    rcases open_ints Try.underlying24 Try.underlying2 (by kernel_rfl) hf with ⟨hcs, _⟩ | ⟨x, l, c, zs, hcs, _, hl, hm, hz, _, hcell, hwz⟩
    · simp [Value.cells] at hcs
      obtain ⟨rfl, rfl, rfl⟩ := hcs
      exact ⟨[], .inl ⟨rfl, rfl, rfl, rfl⟩⟩
    · simp [Value.cells] at hcs
      obtain ⟨rfl, rfl, rfl⟩ := hcs
      exact ⟨zs, .inr ⟨_, rfl, hl, hm, by simpa using hz, hcell, hwz⟩⟩
  clear hA0 hval0
  refine (walk a0 len0 cap0 z0 W w0).mono fun e W' ⟨he, bel⟩ => ?_
  subst he
  exact ⟨_, rfl, _, _, _, [], _, [], hW', trodAll_mk1 (shut_bool Try.underlying4 _), (trodAll_cons_mk (Below.trod laidOut (by kernel_rfl) (of_decide_eq_true (by kernel_rfl)) k0 bel lt0) trodAll_mk0), rfl, bel.frame _, fun h => by cases h⟩

theorem over : Rows.fixSumsRow.holds Try.pinned (OpenSpec.ofChange Rows.fixSumsSpec) :=
  OpenClaim.holds_of_wide 4 Try.f4 rfl rfl rfl rfl rfl rfl rfl ⟨rfl, rfl, rfl, rfl, rfl⟩ rfl rfl rfl rfl rfl (by kernel_rfl) Try.func4 (by kernel_rfl)
    (of_decide_eq_true (by kernel_rfl)) (by unfold Func.isWrapper; first | (rw [if_pos (by decide +kernel)]; kernel_rfl) | (rw [if_neg (by decide +kernel)]; exact ⟨rfl, rfl⟩))
    (fun os started H enc _ => lifted os started H enc)

/-- ████ THE STATEMENT ████ -/
theorem proved : Rows.FixSumsSaid := over
#print axioms proved
end Go.Proofs.Ytaplmkefodabgaa.fixSums
