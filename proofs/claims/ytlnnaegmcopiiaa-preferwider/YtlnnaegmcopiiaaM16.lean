/- Texts of the proof, merged: KinRows, PfW. -/
import Derived.Test.YtlnnaegmcopiiaaM12
import Derived.Test.YtlnnaegmcopiiaaM15
/- Contracts of Kids, Flow and Up of a Kin; no conditions beyond those written in each theorem. -/
namespace Go.Proofs.Ytlnnaegmcopiiaa
open Go.ChangeShapes Go.WideShapes Go.ChangeAt Go.RowKit
set_option maxRecDepth 100000
set_option maxHeartbeats 4000000 in
theorem kids_kin (v : Value) (l : List Nd) (n : Int) (w : World) (h : KV w v l) : Calls Try.prog 36 #[v, .int .i64 n] w (RowI w (kidsV l n)) := by
  have HB : Hid (∀ w', Seen w w' → ∀ m, Calls Try.prog 46 #[v, .int .i64 n, .int .i64 m] w' fun e w'' => e = .returned (.bool (belV l n m)) ∧ Seen w' w'') := fun w' h' m => below_kin v l n m w' (h.seen h')
  have HE : Hid (∀ w', Seen w w' → ∀ m, Calls Try.prog 47 #[v, .int .i64 m] w' fun e w'' => e = .returned (.int .i64 (plAt l m).stop) ∧ Seen w' w'') := fun w' h' m => end_kin v l m w' (h.seen h')
  cases hb : inB l n
  · have e1 : Hid (kidsV l n = []) := by unfold Hid kidsV; rw [hb]; rfl
    have e2 : Hid (∀ m, belV l n m = false) := fun m => by unfold belV; rw [hb]; rfl
    clear h hb HE
    go_enter Try.func36, Try.ntmps36
    go_wp2_with fail
    go_loopw [5, 6] (fun s x wr => s = .slice none 0 0 ∧ (∃ m, x = .int .i64 m) ∧ wr = w) (fun _ _ _ => 0)
    case atStart => exact ⟨rfl, ⟨_, rfl⟩, rfl⟩
    case round =>
      obtain ⟨rfl, ⟨m, rfl⟩, rfl⟩ := hrel
      go_wp2_with (go_at_call 46; refine (HB.out _ (Seen.refl _) m).mono ?_; clear HB; rintro e w1 ⟨rfl, hs⟩; rw [e2.out]; have S1 := Lib.hid hs; clear hs)
      go_ret
      rw [e1.out]
      exact ⟨_, rfl, RI.nil _ _, S1.out⟩
  · obtain ⟨hf, h65, k, hk, rfl, _⟩ := h.node hb
    have e1 : Hid (kidsV l (k : Int) = kidsTo l k (endN l k)) := by unfold Hid kidsV; rw [hb, if_pos rfl, kids_end hf hk]
    have e2 : Hid (∀ m : Nat, belV l (k : Int) m = (decide (k ≤ m) && decide (m < endN l k))) := fun m => by
      unfold belV endV; rw [hb]; simp
    have hel := end_low hk
    have hee := end_le hk
    have HF := Lib.hid hf
    clear h hb hf
    have hk63 : (k : Int) + 1 < 9223372036854775808 := by omega
    go_enter Try.func36, Try.ntmps36
    go_wp2_with fail
    go_loopw [5, 6] (fun s x wr => ∃ m : Nat, x = .int .i64 m ∧ k < m ∧ m ≤ endN l k ∧ (m < endN l k → (nd l m).p = k) ∧ RI wr w.heap.size s (kidsTo l k m) ∧ Seen w wr) (fun _ x _ => endN l k - (intOf x).toNat)
    case atStart => exact ⟨k + 1, by go_num, by omega, by omega, fun hlt => kid_first HF.out hk hlt, by rw [kids_begin HF.out hk]; exact RI.nil _ _, Seen.refl _⟩
    case round =>
      obtain ⟨m, rfl, hkm, hme, hpar, hrow, hs⟩ := hrel
      have S1 := Lib.hid hs
      have HR := Lib.hid hrow
      have HP := Lib.hid hpar
      clear hs hrow hpar
      have HB1 := Lib.hid (HB.out _ S1.out m)
      rw [e2.out m] at HB1
      by_cases hlt : m < endN l k
      · have eb : (decide (k ≤ m) && decide (m < endN l k)) = true := by simp; omega
        rw [eb] at HB1
        have hml : m < l.length := by omega
        have es : Hid ((plAt l (m : Int)).stop = endN l m) := by unfold Hid; rw [plAt_nat hml]; rfl
        have hnl := end_low hml
        have hlen := kids_length l k m
        have hsz : Hid (w.heap.size ≤ wr.heap.size) := S1.out.size
        clear eb
        go_wp2_with (first
          | (go_at_call 46; refine HB1.out.mono ?_; clear HB1; rintro e w1 ⟨rfl, hs⟩; have S2 := Lib.hid (S1.out.trans hs); have HR2 := Lib.hid (HR.out.seen hs); clear hs)
          | (at_builtin; refine wpList_pushI rfl (.tmp 16) (.tmp 18) rfl w.heap.size u5 (kidsTo l k m) m rfl rfl HR2.out (by omega) S2.out.size ?_; intro v3 w3 hr3 hb3; have R3 := Lib.hid (And.intro hr3 (Below.trans S2.out hb3 : Seen w w3)); clear hr3 hb3)
          | (go_at_call 47; refine (HE.out w3 R3.out.2 m).mono ?_; rintro e w4 ⟨rfl, hs⟩; rw [es.out]; have S4 := Lib.hid hs; clear hs))
        go_roundw
        case rel =>
          refine ⟨endN l m, rfl, by omega, end_kid_le HF.out hml hk (HP.out hlt), fun h => kid_next HF.out hml hk (HP.out hlt) h, ?_, Seen.trans R3.out.2 S4.out⟩
          rw [kids_on HF.out hml (HP.out hlt)]
          exact R3.out.1.seen S4.out
        case measure => simp [intOf]; omega
      · have eb : (decide (k ≤ m) && decide (m < endN l k)) = false := by simp; omega
        rw [eb] at HB1
        clear eb
        obtain rfl : m = endN l k := by omega
        go_wp2_with (go_at_call 46; refine HB1.out.mono ?_; clear HB1; rintro e w1 ⟨rfl, hs⟩; have S2 := Lib.hid hs; clear hs)
        go_ret
        rw [e1.out]
        exact ⟨_, rfl, HR.out.seen S2.out, S1.out.trans S2.out⟩
theorem plAt_made {l : List Nd} {n : Int} (h : inB l n = true) : (plAt l n).made = madeB l n ∧ (plAt l n).out = outB l n ∧ (plAt l n).deep = deep l n ∧ (plAt l n).par = par l n := by
  obtain ⟨k, hk, rfl⟩ := inB_iff.1 h
  rw [plAt_nat hk, par_nat]
  exact ⟨rfl, rfl, rfl, rfl⟩
theorem kidsV_mem {l : List Nd} {n x : Int} (h : x ∈ kidsV l n) : inB l x = true := by
  unfold kidsV at h
  split at h
  · obtain ⟨k, hk, rfl⟩ := kids_mem h
    exact inB_nat hk
  · cases h
theorem kidsV_length (l : List Nd) (n : Int) : (kidsV l n).length ≤ l.length := by
  unfold kidsV
  split
  · exact kids_length _ _ _
  · simp
theorem bat_mem {l : List Int} {i : Nat} (h : i < l.length) : bat l i ∈ l := by
  have := bat_get h
  exact List.mem_of_getElem? this
theorem filter_take (p : Int → Bool) (l : List Int) {i : Nat} (h : i < l.length) : (l.take (i + 1)).filter p = (l.take i).filter p ++ (if p (bat l i) then [bat l i] else []) := by
  rw [List.take_add_one, bat_get h, List.filter_append]
  cases hp : p (bat l i) <;> simp [hp]
set_option maxHeartbeats 4000000 in
theorem flow_kin (v : Value) (l : List Nd) (n : Int) (w : World) (h : KV w v l) : Calls Try.prog 20 #[v, .int .i64 n] w (RowI w (flowV l n)) := by
  have HK := Lib.hid (kids_kin v l n w h)
  have HM : Hid (∀ w', Seen w w' → ∀ m, inB l m = true → Calls Try.prog 17 #[v, .int .i64 m] w' fun e w'' => e = .returned (.bool (madeB l m)) ∧ Seen w' w'') := fun w' h' m hm => by
    have := made_kin v l m w' (h.seen h')
    rw [(plAt_made hm).1] at this
    exact this
  have HO : Hid (∀ w', Seen w w' → ∀ m, inB l m = true → Calls Try.prog 37 #[v, .int .i64 m] w' fun e w'' => e = .returned (.bool (outB l m)) ∧ Seen w' w'') := fun w' h' m hm => by
    have := out_kin v l m w' (h.seen h')
    rw [(plAt_made hm).2.1] at this
    exact this
  have h65 := h.len
  have hkl := kidsV_length l n
  rw [flowV_kids]
  have HI : Hid (∀ x, x ∈ kidsV l n → inB l x = true) := fun x hx => kidsV_mem hx
  obtain ⟨L, hL⟩ : ∃ L, kidsV l n = L := ⟨_, rfl⟩
  rw [hL] at HK HI hkl ⊢
  clear h hL
  go_enter Try.func20, Try.ntmps20
  go_wp2_with (go_at_call 36; refine HK.out.mono ?_; clear HK; rintro e w1 ⟨u, rfl, hr, hs⟩; have S1 := Lib.hid hs; obtain ⟨ad, c, rfl, hz, _⟩ := hr.slice; have HZ := Lib.hid hz; clear hr hs hz)
  obtain ⟨N, hN⟩ : ∃ N, L.length = N := ⟨_, rfl⟩
  rw [hN] at hkl HZ ⊢
  have HN := Lib.hid hN
  clear hN
  go_loopw [5, 12] (fun s x wr => ∃ i : Nat, x = .int .i64 i ∧ i ≤ N ∧ RI wr w1.heap.size s ((L.take i).filter (flowF l)) ∧ Seen w1 wr) (fun _ x _ => N - (intOf x).toNat)
  case atStart => exact ⟨0, rfl, by omega, by rw [List.take_zero]; exact RI.nil _ _, Seen.refl _⟩
  case round =>
    obtain ⟨i, rfl, hi, hrow, hs⟩ := hrel
    have S2 := Lib.hid hs
    have HR := Lib.hid hrow
    clear hs hrow
    by_cases hlt : i < N
    · have hi' : (i : Int) < (N : Int) := by omega
      have hlL : i < L.length := by have := HN.out; omega
      obtain ⟨b, off, rfl, hc⟩ := HZ.out.cells (by omega)
      have c1 := S2.out.cell (hc i hlt)
      have hin := HI.out _ (bat_mem hlL)
      have hft : Hid ((L.take (i + 1)).filter (flowF l) = (L.take i).filter (flowF l) ++ (if flowF l (bat L i) then [bat L i] else [])) := filter_take _ L hlL
      have hlen : ((L.take i).filter (flowF l)).length ≤ i := Nat.le_trans (List.length_filter_le _ _) (by rw [List.length_take]; omega)
      obtain ⟨X, hX⟩ : ∃ X, bat L i = X := ⟨_, rfl⟩
      rw [hX] at c1 hin hft
      clear hX hc hlL
      have HM1 : Hid (∀ w', Seen w1 w' → Calls Try.prog 17 #[v, .int .i64 X] w' fun e w'' => e = .returned (.bool (madeB l X)) ∧ Seen w' w'') := fun w' h' => HM.out w' (S1.out.trans h') X hin
      have HO1 : Hid (∀ w', Seen w1 w' → Calls Try.prog 37 #[v, .int .i64 X] w' fun e w'' => e = .returned (.bool (outB l X)) ∧ Seen w' w'') := fun w' h' => HO.out w' (S1.out.trans h') X hin
      unfold flowF at hft
      obtain ⟨F, hF⟩ : ∃ F, (L.take i).filter (flowF l) = F := ⟨_, rfl⟩
      have hft2 : Hid ((L.take (i + 1)).filter (flowF l) = F ++ (if madeB l X && !outB l X then [X] else [])) := by
        have := hft.out
        unfold Hid
        rw [← hF]
        exact this
      rw [hF] at HR hlen
      clear hF hft hin
      obtain ⟨A, hA⟩ : ∃ A, madeB l X = A := ⟨_, rfl⟩
      obtain ⟨O, hO⟩ : ∃ O, outB l X = O := ⟨_, rfl⟩
      rw [hA] at HM1 hft2
      rw [hO] at HO1 hft2
      clear hA hO
      cases A
      · go_wp2_with (go_at_call 17; refine (HM1.out _ S2.out).mono ?_; clear HM1; rintro e w3 ⟨rfl, hs⟩; have S3 := Lib.hid hs; clear hs)
        go_roundw
        case rel =>
          refine ⟨i + 1, by go_num, by omega, ?_, S2.out.trans S3.out⟩
          rw [hft2.out]
          simpa using HR.out.seen S3.out
        case measure => simp [intOf]; omega
      · cases O
        · go_wp2_with (first
            | (go_at_call 17; refine (HM1.out _ S2.out).mono ?_; clear HM1; rintro e w3 ⟨rfl, hs⟩; have S3 := Lib.hid (S2.out.trans hs); have R3 := Lib.hid (HR.out.seen hs); clear hs)
            | (go_at_call 37; refine (HO1.out _ S3.out).mono ?_; clear HO1; rintro e w4 ⟨rfl, hs⟩; have S4 := Lib.hid (S3.out.trans hs); have R4 := Lib.hid (R3.out.seen hs); clear hs)
            | (at_builtin; refine wpList_pushI rfl (.tmp 25) (.tmp 27) rfl w1.heap.size u5 F X rfl rfl R4.out (by omega) S4.out.size ?_; intro v5 w5 hr5 hb5; have R5 := Lib.hid hr5; have B5 := Lib.hid hb5; clear hr5 hb5))
          go_roundw
          case rel =>
            refine ⟨i + 1, by go_num, by omega, ?_, ?_⟩
            · rw [hft2.out]
              simpa using R5.out
            · exact Below.trans S4.out B5.out
          case measure => simp [intOf]; omega
        · go_wp2_with (first
            | (go_at_call 17; refine (HM1.out _ S2.out).mono ?_; clear HM1; rintro e w3 ⟨rfl, hs⟩; have S3 := Lib.hid (S2.out.trans hs); have R3 := Lib.hid (HR.out.seen hs); clear hs)
            | (go_at_call 37; refine (HO1.out _ S3.out).mono ?_; clear HO1; rintro e w4 ⟨rfl, hs⟩; have S4 := Lib.hid (S3.out.trans hs); have R4 := Lib.hid (R3.out.seen hs); clear hs))
          go_roundw
          case rel =>
            refine ⟨i + 1, by go_num, by omega, ?_, S4.out⟩
            rw [hft2.out]
            simpa using R4.out
          case measure => simp [intOf]; omega
    · have hi' : ¬ (i : Int) < (N : Int) := by omega
      obtain rfl : i = N := by omega
      go_wp2_with fail
      go_ret
      refine ⟨_, rfl, ?_, S1.out.trans S2.out⟩
      have := HR.out
      rw [← HN.out, List.take_length] at this
      exact row_more this S1.out.size
theorem up_bounds {l : List Nd} (h : FormedT l) {k : Nat} (hk : k < l.length) (j : Nat) : -1 ≤ upN l j k ∧ upN l j k < l.length := by
  have := h.low.up (m := (k : Int)) (by omega) (by omega) j
  omega
theorem upV_in {l : List Nd} {n : Int} (h : inB l n = true) : upV l n = upTo l n (deep l n - 1) := by unfold upV; rw [h]; rfl
end Go.Proofs.Ytlnnaegmcopiiaa

/- Contract of widest of layer 15; no conditions beyond those written in each theorem. -/
namespace Go.Proofs.Ytlnnaegmcopiiaa
open Go.ChangeShapes Go.WideShapes Go.ChangeAt Go.RowKit
set_option maxRecDepth 100000
theorem prW_cons {O : Int → Option Int} {K : List Int} {k : Nat} (h : k < K.length) (m : Int) : prW O (K.drop k) m = match O (bat K k) with | none => none | some x => prW O (K.drop (k + 1)) (max m x) := by
  rw [List.drop_eq_getElem_cons h]
  have e : K[k] = bat K k := by unfold bat; simp [h]
  rw [e]
  rfl
set_option maxHeartbeats 2000000 in
theorem widest_any {kv : Value} (O : Int → Option Int) (K : List Int) (a : Option Addr) (c : Nat) (w : World) (hl : K.length ≤ 1000000) (hz : ZS w a K.length K)
    (HO : ∀ w', Seen w w' → ∀ x ∈ K, Calls Try.prog 35 #[kv, .int .i64 x] w' fun e w'' => e = .returned (prA (O x)) ∧ Seen w' w'') :
    Calls Try.prog 19 #[kv, .slice a K.length c] w fun e w' => e = .returned (prA (prW O K 0)) ∧ Seen w w' := by
  have HZ := Lib.hid hz
  have HOO := Lib.hid HO
  clear hz HO
  obtain ⟨N, hN⟩ : ∃ N, K.length = N := ⟨_, rfl⟩
  rw [hN] at HZ hl ⊢
  have HN := Lib.hid hN
  clear hN
  obtain ⟨R, hR⟩ : ∃ R, prW O K 0 = R := ⟨_, rfl⟩
  rw [hR]
  have HR := Lib.hid hR
  clear hR
  go_enter Try.func19, Try.ntmps19
  go_wp2_with fail
  go_loopw [6, 13] (fun m i wr => ∃ (k : Nat) (q : Int), i = .int .i64 k ∧ k ≤ N ∧ m = .int .i64 q ∧ Hid (prW O (K.drop k) q = R ∧ True) ∧ Seen w wr) (fun _ i _ => N - (intOf i).toNat)
  case atStart => exact ⟨0, 0, rfl, by omega, rfl, ⟨HR.out, trivial⟩, Seen.refl _⟩
  case round =>
    obtain ⟨k, q, rfl, hk, rfl, hrel, hs⟩ := hrel
    have S2 := Lib.hid hs
    clear hs HR
    by_cases hlt : k < N
    · have hi' : (k : Int) < (N : Int) := by omega
      have hlK : k < K.length := by have := HN.out; omega
      obtain ⟨b, off, rfl, hc⟩ := HZ.out.cells (by omega)
      have c1 := S2.out.cell (hc k hlt)
      have HO1 := Lib.hid (HOO.out wr S2.out (bat K k) (bat_mem hlK))
      have HP := Lib.hid (prW_cons (O := O) hlK q)
      have hrel' := hrel.out.1
      rw [HP.out] at hrel'
      obtain ⟨X, hX⟩ : ∃ X, bat K k = X := ⟨_, rfl⟩
      rw [hX] at c1 HO1 hrel'
      clear hX hc hlK HP hrel
      cases hO : O X with
      | none =>
        rw [hO] at hrel' HO1
        obtain rfl : none = R := hrel'
        have HO2 : Hid (Calls Try.prog 35 #[kv, .int .i64 X] wr fun e w'' => e = .returned (.tuple #[.int .i64 0, .bool false]) ∧ Seen wr w'') := HO1.out
        clear HO1 hO HOO
        go_wp2_with (go_at_call 35; refine HO2.out.mono ?_; clear HO2; rintro e w3 ⟨rfl, hb⟩; have S3 := Lib.hid (S2.out.trans hb); clear hb)
        go_ret2
        exact ⟨rfl, S3.out⟩
      | some x =>
        rw [hO] at hrel' HO1
        have HO2 : Hid (Calls Try.prog 35 #[kv, .int .i64 X] wr fun e w'' => e = .returned (.tuple #[.int .i64 x, .bool true]) ∧ Seen wr w'') := HO1.out
        have HREL := Lib.hid (And.intro hrel' trivial)
        clear hrel' HO1 hO
        go_wp2_with (go_at_call 35; refine HO2.out.mono ?_; clear HO2; rintro e w3 ⟨rfl, hb⟩; have S3 := Lib.hid (S2.out.trans hb); clear hb)
        all_goals go_roundw
        all_goals first
          | (case rel =>
              refine ⟨k + 1, max q x, by go_num, by omega, ?_, HREL.out, S3.out⟩
              first | rfl | (congr 1; omega))
          | (case measure => simp [intOf]; omega)
    · have hi' : ¬ (k : Int) < (N : Int) := by omega
      obtain rfl : k = N := by omega
      have hR := hrel.out.1
      rw [← HN.out, List.drop_length] at hR
      obtain rfl : some q = R := hR
      clear hrel
      go_wp2_with fail
      go_ret2
      exact ⟨rfl, S2.out⟩
end Go.Proofs.Ytlnnaegmcopiiaa
