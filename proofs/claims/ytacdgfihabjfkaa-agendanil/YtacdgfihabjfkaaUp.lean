/- Contract of container/heap's up, over the list of entries. -/
import Derived.Test.YtacdgfihabjfkaaInv
import Derived.Deep.LoopGhost
namespace Go.Proofs.Ytacdgfihabjfkaa
open Go.ChangeShapes Go.WideShapes Go.ChangeAt Go.RowKit
/-- Between two steps of the heap: the box holds the slice as it did, its entries are those of l in another order, and nothing but the owner's blocks has turned. -/
def HI (base B g n cap : Nat) (T : Nat → Prop) (w : World) (l lk : List E3) (wr : World) : Prop :=
  lk.length = n ∧ lk.Perm l ∧ Boxed wr B 27 (.slice (some ⟨g, 0, none⟩) n cap) ∧ wr.ownsRow base 31 3 (.slice (some ⟨g, 0, none⟩) n cap) n (flatE lk) ∧ Moves T T w wr ∧ T g
section
variable {base B g n cap : Nat} {T : Nat → Prop} {w : World} {l lk : List E3} {wr : World}
theorem HI.ne (h : HI base B g n cap T w l lk wr) : B ≠ g := fun e => (h.2.2.1.not_row (by decide) h.2.2.2.1) (by rw [e]; rfl)
theorem HI.seen (h : HI base B g n cap T w l lk wr) {w' : World} (hs : Below wr.heap.size wr w') : HI base B g n cap T w l lk w' :=
  ⟨h.1, h.2.1, (hs.block _ h.2.2.1.lt).trans h.2.2.1, ownsRow_keeps h.2.2.2.1 (fun k hk => hs.block _ (h.2.2.2.1.lt k hk).2), h.2.2.2.2.1.trans (Moves.of_below hs), h.2.2.2.2.2⟩
theorem HI.swap (h : HI base B g n cap T w l lk wr) {i j : Nat} (hi : i < n) (hj : j < n) : HI base B g n cap T w l (swapE lk i j) (swapW wr g (eat lk i) (eat lk j) i j) := by
  have hm := swapW_moves (T := fun k => k = g) wr rfl (eat lk i) (eat lk j) i j
  refine ⟨by rw [swapE_length]; exact h.1, (swapE_perm (by rw [h.1]; exact hi) (by rw [h.1]; exact hj)).trans h.2.1, ?_, row_swap h.2.2.2.1 i j, h.2.2.2.2.1.trans (swapW_moves wr h.2.2.2.2.2 _ _ i j), h.2.2.2.2.2⟩
  exact (hm.block B h.2.2.1.lt h.ne).trans h.2.2.1
theorem HI.es (h : HI base B g n cap T w l lk wr) : ES wr (some ⟨g, 0, none⟩) n lk := by
  obtain ⟨a, c, e, he, _⟩ := es_of_own h.2.2.2.1 h.1
  cases e
  exact he
theorem HI.less (h : HI base B g n cap T w l lk wr) {i j : Nat} (hi : i < n) (hj : j < n) (hn : n ≤ 1000000) :
    Calls Try.prog 64 #[.slice (some ⟨g, 0, none⟩) n cap, .int .i64 i, .int .i64 j] wr fun e w' => e = .returned (.bool (ltE (eat lk i) (eat lk j))) ∧ HI base B g n cap T w l lk w' :=
  (less_any _ n cap lk i j wr h.es hi hj hn).mono fun _ _ k => ⟨k.1, h.seen k.2⟩
theorem HI.swaps (h : HI base B g n cap T w l lk wr) {i j : Nat} (hi : i < n) (hj : j < n) (hn : n ≤ 1000000) :
    Calls Try.prog 65 #[.slice (some ⟨g, 0, none⟩) n cap, .int .i64 i, .int .i64 j] wr fun e w' => e = .returned (.tuple #[]) ∧ HI base B g n cap T w l (swapE lk i j) w' := by
  obtain ⟨b, off, e, hc⟩ := h.es.2 (by omega)
  cases e
  have c1 := hc i hi
  have c2 := hc j hj
  rw [Nat.zero_add] at c1 c2
  exact (swap_cells g n cap _ _ i j wr hi hj c1 c2 (row_frozen h.2.2.2.1) hn).mono fun _ _ k => ⟨k.1, k.2 ▸ h.swap hi hj⟩
end
theorem par_tdiv {k : Nat} (h : 0 < k) : ((k : Int) - 1).tdiv 2 = (par k : Nat) := by
  unfold par
  rw [Int.tdiv_eq_ediv_of_nonneg (by omega)]
  omega
set_option maxHeartbeats 4000000 in
theorem up_any (base B : Nat) (T : Nat → Prop) (l : List E3) (g n cap j : Nat) (W0 : World) (l0 : List E3) (w : World) (h : HI base B g n cap T W0 l0 l w) (hn : n ≤ 1000000) (hu : UpInv l j) :
    Calls Try.prog 25 #[.iface 50 (.pointer (some ⟨B, 0, none⟩)), .int .i64 j] w fun e w' => e = .returned (.tuple #[]) ∧ ∃ l', HI base B g n cap T W0 l0 l' w' ∧ HeapP l' n := by
  have HH := Lib.hid h
  have HU := Lib.hid hu
  have hjn : j < n := by rw [← h.1]; exact hu.1
  clear h hu
  go_enter Try.func25, Try.ntmps25
  go_wp2_with fail
  go_loopg [1] n (fun gh vj wr => ∃ (k : Nat) (lk : List E3), vj = .int .i64 k ∧ k < gh ∧ k < n ∧ HI base B g n cap T W0 l0 lk wr ∧ UpInv lk k)
  case atStart => exact ⟨j, l, rfl, hjn, hjn, HH.out, HU.out⟩
  case round =>
    obtain ⟨k, lk, rfl, hg, hkn, hI, hu⟩ := hrel
    have H2 := Lib.hid hI
    have HU2 := Lib.hid hu
    have hm := method_less ⟨B, 0, none⟩ wr _ _ _ hI.2.2.1.cell
    have HL : Hid (lk.length = n) := hI.1
    clear hu hI
    by_cases h0 : k = 0
    · subst h0
      have hd : ((0 : Int) - 1).tdiv 2 = 0 := by decide
      go_wp2_with fail
      go_end0
      exact ⟨rfl, lk, H2.out, HL.out ▸ up_end HU2.out (.inl rfl)⟩
    · have hk0 : 0 < k := by omega
      have hpk : par k < k := by unfold par; omega
      have hd := par_tdiv hk0
      obtain ⟨p, hp⟩ : ∃ p, par k = p := ⟨_, rfl⟩
      rw [hp] at hpk hd
      have HP := Lib.hid hp
      clear hp h0
      have hf : ((p : Int) == (k : Int)) = false := by rw [beq_eq_false_iff_ne]; omega
      obtain ⟨q, hq⟩ : ∃ q, ltE (eat lk k) (eat lk p) = q := ⟨_, rfl⟩
      have HQ := Lib.hid hq
      have hcl := fun (_ : True) => HI.less H2.out (i := k) (j := p) hkn (by omega) hn
      rw [hq] at hcl
      have HCL := Lib.hid hcl
      clear hq hcl
      cases q with
      | false =>
        go_wp2_with (go_at_call 64; refine (HCL.out trivial).mono ?_; rintro e w' ⟨rfl, hI3⟩; have H3 := Lib.hid hI3; clear hI3 hm)
        go_end0
        exact ⟨rfl, lk, H3.out, HL.out ▸ up_end HU2.out (.inr (by rw [HP.out]; exact HQ.out))⟩
      | true =>
        go_wp2_with (first | (go_at_call 64; refine (HCL.out trivial).mono ?_; rintro e w' ⟨rfl, hI3⟩; have H3 := Lib.hid hI3; clear hm; have hm := method_swap ⟨B, 0, none⟩ w' _ _ _ hI3.2.2.1.cell; clear hI3) | (go_at_call 65; refine (HI.swaps H3.out (i := p) (j := k) (by omega) hkn hn).mono ?_; rintro e w2 ⟨rfl, hI4⟩; have H4 := Lib.hid hI4; clear hI4 hm))
        go_roundg (gk - 1)
        case rel => exact ⟨p, swapE lk p k, rfl, by omega, by omega, H4.out, by have h := up_step HU2.out hk0 (by rw [HP.out]; exact HQ.out); rwa [HP.out] at h⟩
        case measure => omega
end Go.Proofs.Ytacdgfihabjfkaa
