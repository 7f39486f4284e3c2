/- Contracts of the functions of package fix, of their reference twins and of the law package's own check, over the translation of this seat; no conditions beyond those written in each theorem. -/
import Derived.Test.YtlnnaegmcopiiaaGen
import Derived.WalkKit
import Derived.ProofKit
import Derived.OpenShut
import Derived.Lib.Hide
namespace Go.Proofs.Ytlnnaegmcopiiaa
open Go.ChangeShapes Go.WideShapes Go.ChangeAt Go.RowKit
set_option maxRecDepth 100000

def fitsB (n : Int) : Bool := decide (-1125899906842624 ≤ n ∧ n ≤ 1125899906842624)

theorem fitsB_t {n : Int} (h1 : -1125899906842624 ≤ n) (h2 : n ≤ 1125899906842624) : fitsB n = true := by
  unfold fitsB; simp; omega
theorem fitsB_f {n : Int} (h : ¬ (-1125899906842624 ≤ n ∧ n ≤ 1125899906842624)) : fitsB n = false := by
  unfold fitsB; simpa using h

theorem fits_any (n : Int) (w : World) :
    Calls Try.prog 53 #[.int .i64 n] w fun e w' => e = .returned (.bool (fitsB n)) ∧ w = w' := by
  by_cases h1 : -1125899906842624 ≤ n
  · by_cases h2 : n ≤ 1125899906842624
    · have H := Lib.hid (fitsB_t h1 h2)
      go_enter Try.func53, Try.ntmps53
      go_wp2
      go_ret
      exact ⟨ret_bool H.out.symm, rfl⟩
    · have H := Lib.hid (fitsB_f (n := n) (by omega))
      go_enter Try.func53, Try.ntmps53
      go_wp2
      go_ret
      exact ⟨ret_bool H.out.symm, rfl⟩
  · have H := Lib.hid (fitsB_f (n := n) (by omega))
    go_enter Try.func53, Try.ntmps53
    go_wp2
    go_ret
    exact ⟨ret_bool H.out.symm, rfl⟩

theorem refFits_any (n : Int) (w : World) :
    Calls Try.prog 39 #[.int .i64 n] w fun e w' => e = .returned (.bool (fitsB n)) ∧ w = w' := by
  by_cases h1 : -1125899906842624 ≤ n
  · by_cases h2 : n ≤ 1125899906842624
    · have H := Lib.hid (fitsB_t h1 h2)
      go_enter Try.func39, Try.ntmps39
      go_wp2
      go_ret
      exact ⟨ret_bool H.out.symm, rfl⟩
    · have H := Lib.hid (fitsB_f (n := n) (by omega))
      go_enter Try.func39, Try.ntmps39
      go_wp2
      go_ret
      exact ⟨ret_bool H.out.symm, rfl⟩
  · have H := Lib.hid (fitsB_f (n := n) (by omega))
    go_enter Try.func39, Try.ntmps39
    go_wp2
    go_ret
    exact ⟨ret_bool H.out.symm, rfl⟩

/-- 'the lesser of n and m, or l if that is greater', as a number. -/
def clampI (n l m : Int) : Int := max (min n m) l

def halfI (n : Int) : Int := n / 2

theorem tdiv2 (n : Int) (h : n < 0) : n.tdiv 2 = -((-n) / 2) := by
  have h2 : n = -(-n) := by omega
  rw [h2, Int.neg_tdiv, Int.tdiv_eq_ediv_of_nonneg (by omega)]; omega
theorem tmod2 (n : Int) (h : n < 0) : n.tmod 2 = -((-n) % 2) := by
  have h2 : n = -(-n) := by omega
  rw [h2, Int.neg_tmod, Int.tmod_eq_emod_of_nonneg (by omega)]; omega

end Go.Proofs.Ytlnnaegmcopiiaa
