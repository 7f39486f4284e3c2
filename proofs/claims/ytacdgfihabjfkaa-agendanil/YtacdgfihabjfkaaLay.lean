/- slices.SortFunc over entries, with Entry.Compare: the library's contract laid at this program; what it leaves, as a row of entries. -/
import Derived.Test.YtacdgfihabjfkaaIsSorted
import Derived.Shelf.SlSortCmp.NoneTotal
import Derived.Shelf.Lay
import Derived.Ground.SlsfProg
namespace Go.Proofs
open Go.Shelf Go.RowKit Go.Lib Go.Sort
shelf_lay_g SlLaysF0.n6 Slsf 6 at Try 21 as Try.sortE
namespace Ytacdgfihabjfkaa
/-- An entry's three cells. -/
def encE (x : E3) : List Value := [.int .i64 x.k, .int .i64 x.t, .int .i64 x.n]
theorem ltOf_eq (x y : E3) : ltOf cmpE x y = ltE x y := by unfold ltOf; exact lt_decide x y
theorem swoE : SWO (ltOf cmpE) where
  irrefl x := by rw [ltOf_eq]; exact leE_refl x
  trans x y z h1 h2 := by rw [ltOf_eq, ltE_iff] at *; omega
  ntrans x y z h1 h2 := by rw [ltOf_eq] at *; exact leE_trans (a := z) (b := y) (c := x) h2 h1
theorem sortFunc_any (blk cap : Nat) (d : Array E3) (w : World) (hH : HoldsK encE 3 w blk 0 d) (hblk : blk < w.heap.size) (hsz : d.size < 4611686018427387904) :
    Calls Try.prog 21 #[.slice (some ⟨blk, 0, none⟩) d.size cap, .func (.func 16) #[] #[]] w fun e w' => e = .returned (.tuple #[]) ∧ ∃ n os, w' = sortWorldK encE 3 w blk 0 n (d.toList.mergeSort fun x y => !(ltOf cmpE) y x).toArray os := by
  have eg : ∀ args w, (callFunc 16 args).run Try.prog w = .ok (.enter 16 args) w := enters_of Try.func16 (by kernel_rfl) rfl
  have hcon := AnyQ.slices_SortFunc_total Try.sortE 3 Try.isAgg31 Try.sizeOf31 encE (fun _ => rfl) (fun x v hv => by simp [encE] at hv; rcases hv with rfl | rfl | rfl <;> rfl) cmpE swoE 16 #[] blk 0 cap d w eg (fun _ _ _ _ x y => compare_laid x y _) hH hblk hsz (fun x y h1 h2 => by rw [ltOf_eq] at h1 h2; exact leE_antisymm h2 h1)
  exact hcon
end Ytacdgfihabjfkaa
end Go.Proofs
