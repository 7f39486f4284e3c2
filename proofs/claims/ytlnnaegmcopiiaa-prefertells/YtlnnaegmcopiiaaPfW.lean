/- Contract of widest of layer 15; no conditions beyond those written in each theorem. -/
import Derived.Test.YtlnnaegmcopiiaaPfO
import Derived.Test.YtlnnaegmcopiiaaKinRows
namespace Go.Proofs.Ytlnnaegmcopiiaa
open Go.ChangeShapes Go.WideShapes Go.ChangeAt Go.RowKit
set_option maxRecDepth 100000
theorem prW_cons {O : Int → Option Int} {K : List Int} {k : Nat} (h : k < K.length) (m : Int) : prW O (K.drop k) m = match O (bat K k) with | none => none | some x => prW O (K.drop (k + 1)) (max m x) := by
  rw [List.drop_eq_getElem_cons h]
  have e : K[k] = bat K k := by unfold bat; simp [h]
  rw [e]
  rfl
set_option maxHeartbeats 2000000 in
theorem widest_any {kv : Value} (O : Int → Option Int) (K : List Int) (a : Option Addr) (c : Nat) (w : World) (hl : K.length ≤ 1000000) (hz : ZS w a K.length K)
    (HO : ∀ w', Seen w w' → ∀ x ∈ K, Calls Try.prog 35 #[kv, .int .i64 x] w' fun e w'' => e = .returned (prA (O x)) ∧ Seen w' w'') :
    Calls Try.prog 19 #[kv, .slice a K.length c] w fun e w' => e = .returned (prA (prW O K 0)) ∧ Seen w w' := by
  have HZ := Lib.hid hz
  have HOO := Lib.hid HO
  clear hz HO
  obtain ⟨N, hN⟩ : ∃ N, K.length = N := ⟨_, rfl⟩
  rw [hN] at HZ hl ⊢
  have HN := Lib.hid hN
  clear hN
  obtain ⟨R, hR⟩ : ∃ R, prW O K 0 = R := ⟨_, rfl⟩
  rw [hR]
  have HR := Lib.hid hR
  clear hR
  go_enter Try.func19, Try.ntmps19
  go_wp2_with fail
  go_loopw [6, 13] (fun m i wr => ∃ (k : Nat) (q : Int), i = .int .i64 k ∧ k ≤ N ∧ m = .int .i64 q ∧ Hid (prW O (K.drop k) q = R ∧ True) ∧ Seen w wr) (fun _ i _ => N - (intOf i).toNat)
  case atStart => exact ⟨0, 0, rfl, by omega, rfl, ⟨HR.out, trivial⟩, Seen.refl _⟩
  case round =>
    obtain ⟨k, q, rfl, hk, rfl, hrel, hs⟩ := hrel
    have S2 := Lib.hid hs
    clear hs HR
    by_cases hlt : k < N
    · have hi' : (k : Int) < (N : Int) := by omega
      have hlK : k < K.length := by have := HN.out; omega
      obtain ⟨b, off, rfl, hc⟩ := HZ.out.cells (by omega)
      have c1 := S2.out.cell (hc k hlt)
      have HO1 := Lib.hid (HOO.out wr S2.out (bat K k) (bat_mem hlK))
      have HP := Lib.hid (prW_cons (O := O) hlK q)
      have hrel' := hrel.out.1
      rw [HP.out] at hrel'
      obtain ⟨X, hX⟩ : ∃ X, bat K k = X := ⟨_, rfl⟩
      rw [hX] at c1 HO1 hrel'
      clear hX hc hlK HP hrel
      cases hO : O X with
      | none =>
        rw [hO] at hrel' HO1
        obtain rfl : none = R := hrel'
        have HO2 : Hid (Calls Try.prog 35 #[kv, .int .i64 X] wr fun e w'' => e = .returned (.tuple #[.int .i64 0, .bool false]) ∧ Seen wr w'') := HO1.out
        clear HO1 hO HOO
        go_wp2_with (go_at_call 35; refine HO2.out.mono ?_; clear HO2; rintro e w3 ⟨rfl, hb⟩; have S3 := Lib.hid (S2.out.trans hb); clear hb)
        go_ret2
        exact ⟨rfl, S3.out⟩
      | some x =>
        rw [hO] at hrel' HO1
        have HO2 : Hid (Calls Try.prog 35 #[kv, .int .i64 X] wr fun e w'' => e = .returned (.tuple #[.int .i64 x, .bool true]) ∧ Seen wr w'') := HO1.out
        have HREL := Lib.hid (And.intro hrel' trivial)
        clear hrel' HO1 hO
        go_wp2_with (go_at_call 35; refine HO2.out.mono ?_; clear HO2; rintro e w3 ⟨rfl, hb⟩; have S3 := Lib.hid (S2.out.trans hb); clear hb)
        all_goals go_roundw
        all_goals first
          | (case rel =>
              refine ⟨k + 1, max q x, by go_num, by omega, ?_, HREL.out, S3.out⟩
              first | rfl | (congr 1; omega))
          | (case measure => simp [intOf]; omega)
    · have hi' : ¬ (k : Int) < (N : Int) := by omega
      obtain rfl : k = N := by omega
      have hR := hrel.out.1
      rw [← HN.out, List.drop_length] at hR
      obtain rfl : some q = R := hR
      clear hrel
      go_wp2_with fail
      go_ret2
      exact ⟨rfl, S2.out⟩
end Go.Proofs.Ytlnnaegmcopiiaa
