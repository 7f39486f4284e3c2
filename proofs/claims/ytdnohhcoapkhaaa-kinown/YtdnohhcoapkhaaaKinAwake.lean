/- Contract of the law's own awake; an argument that is a number, opened; no conditions beyond those written in each theorem. -/
import Derived.Test.YtdnohhcoapkhaaaKinOf
import Derived.Test.YtdnohhcoapkhaaaKinAt
import Derived.Test.YtdnohhcoapkhaaaBuild
import Derived.Test.YtdnohhcoapkhaaaArgs
namespace Go.Proofs.Ytdnohhcoapkhaaa
open Go.ChangeShapes Go.WideShapes Go.ChangeAt Go.RowKit Go.Joins Go.Deep
set_option maxRecDepth 100000
section
variable {H : Type} {enc : TypeId × Value → H} {w : World} {base : Nat} {spare : Nat → Bool} {held : Bool} {r : Reach} {b0 : Nat} {v : Value} {d : DataW H} {p : List MemPlace}
theorem open_int3 (hv : Value.okWide Try.prog w r b0 3 v) (h : DataW.Trod enc Try.prog w base spare held 3 v d p) : ∃ n : Int, v = .int .i64 n ∧ -9223372036854775808 ≤ n ∧ n < 9223372036854775808 := by
  obtain ⟨n, rfl, rfl, rfl, wn⟩ := open_int Try.underlying3 hv h
  exact ⟨n, rfl, wf_i64 wn⟩
end
/-- The node that the law's awake makes. -/
def plainN (p : Int) : Nd := ⟨plainK 4, p, plain_full (Nat.le_refl 4)⟩
theorem plain_tree : FormedT [plainN (-1)] := by
  refine ⟨by decide, fun i hi => ?_⟩
  obtain rfl : i = 0 := by simpa using hi
  exact ⟨(okAt0 _).2 rfl, plain_formed⟩
theorem plain_check : checkT [plainN (-1)] = 0 := by
  refine check0 (decide_eq_true plain_tree) (decide_eq_true ⟨by decide, fun i hi => ?_⟩)
  obtain rfl : i = 0 := by simpa using hi
  rw [deep_root plain_tree]
  exact ⟨by decide, plain_within⟩
theorem check_formed {l : List Nd} (h : checkT l = 0) : FormedT l := by
  unfold checkT at h
  cases hf : formedT l
  · rw [hf] at h; simp at h
  · exact of_decide_eq_true hf
theorem KK.kv {w : World} {B G H : Nat} {l : List Nd} (h : KK w B G H l (endN l)) (hf : FormedT l) (hl : l.length ≤ 65535) : KV w (.pointer (some ⟨B, 0, none⟩)) l := .inr ⟨hf, hl, B, G, H, rfl, h⟩
set_option maxHeartbeats 4000000 in
theorem awakeK_any (w : World) : Calls Try.prog 7 #[] w fun e w' => e = .returned (.bool true) ∧ Below w.heap.size w w' := by
  have hp0 : plAt [plainN (-1)] (0 : Nat) = plE [plainN (-1)] (endN [plainN (-1)]) 0 := plAt_nat (by decide)
  have he : Hid ((plAt [plainN (-1)] (0 : Int)).stop = 1) := by
    have h1 := end_low (l := [plainN (-1)]) (a := 0) (by decide)
    have h2 := end_le (l := [plainN (-1)]) (a := 0) (by decide)
    have h3 : ([plainN (-1)] : List Nd).length = 1 := rfl
    have e : (plAt [plainN (-1)] (0 : Int)).stop = (endN [plainN (-1)] 0 : Nat) := by
      show (plAt [plainN (-1)] ((0 : Nat) : Int)).stop = _
      rw [hp0]; rfl
    unfold Hid
    rw [e]; omega
  have hm : Hid ((plAt [plainN (-1)] (0 : Int)).made = true) := by
    show (plAt [plainN (-1)] ((0 : Nat) : Int)).made = true
    rw [hp0]
    exact made_root plain_tree
  clear hp0
  go_enter Try.func7, Try.ntmps7
  go_wp2_with (first
    | (go_at_call 23; refine (plain_any w).mono ?_; rintro _ w1 ⟨rfl, hs1⟩; have S1 : Hid (Seen w w1) := hs1; clear hs1)
    | (refine wpList_buildN rfl (.tmp 4) (.const (.int .i64 (-1))) rfl (plainK 4) (plain_full (Nat.le_refl 4)) (-1) rfl rfl ?_)
    | (refine wpList_buildS1 rfl (.tmp 5) rfl (plainN (-1)) rfl ?_
       obtain ⟨W, hW⟩ : ∃ W, W = w1.alloc (.cells (ndl (plainN (-1))).toArray 42) := ⟨_, rfl⟩
       rw [← hW]
       have S2 : Hid (Seen w W) := by rw [hW]; exact S1.out.alloc _
       have N2 : Hid (NS W (some ⟨w1.heap.size, 0, none⟩) 1 [plainN (-1)]) := by
         obtain ⟨a, c, e, h, _, _⟩ := ns_of_own (new_rowN w1 (plainN (-1)) 0 (Nat.zero_le _)) rfl
         cases e
         rw [hW]; exact h
       clear hW)
    | (go_at_call 8; refine (of_yes _ 1 1 _ W N2.out plain_check plain_tree (by omega)).mono ?_; rintro _ w3 ⟨B, G, H, rfl, _, hk3, hs3⟩; have S3 : Hid (Seen w w3) := S2.out.trans hs3; have K3 := Lib.hid (hk3.kv plain_tree (by decide)); clear hs3 hk3)
    | (go_at_call 11; refine (len_any _ _ w3 K3.out).mono ?_; rintro _ w4 ⟨rfl, hw⟩; rw [hw]; clear hw)
    | (go_at_call 12; refine (end_kin _ _ 0 w3 K3.out).mono ?_; rintro _ w5 ⟨rfl, hs5⟩; rw [he.out]; have S5 := Lib.hid hs5; clear hs5)
    | (go_at_call 21; refine (made_kin _ _ 0 w5 (K3.out.seen S5.out)).mono ?_; rintro _ w6 ⟨rfl, hs6⟩; rw [hm.out]; have S6 := Lib.hid hs6; clear hs6))
  go_ret
  exact ⟨rfl, (S3.out.trans S5.out).trans S6.out⟩
end Go.Proofs.Ytdnohhcoapkhaaa
