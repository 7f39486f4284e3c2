/- Texts of the proof, merged: KinRows, FLs. -/
import Derived.Test.YteplmjgohnbpbaaM26
import Derived.Test.YteplmjgohnbpbaaM25
/- Contracts of Kids, Flow and Up of a Kin; no conditions beyond those written in each theorem. -/
namespace Go.Proofs.Yteplmjgohnbpbaa
open Go.ChangeShapes Go.WideShapes Go.ChangeAt Go.RowKit
set_option maxRecDepth 100000
set_option maxHeartbeats 4000000 in
theorem kids_kin (v : Value) (l : List Nd) (n : Int) (w : World) (h : KV w v l) : Calls Try.prog 46 #[v, .int .i64 n] w (RowI w (kidsV l n)) := by
  have HB : Hid (∀ w', Seen w w' → ∀ m, Calls Try.prog 71 #[v, .int .i64 n, .int .i64 m] w' fun e w'' => e = .returned (.bool (belV l n m)) ∧ Seen w' w'') := fun w' h' m => below_kin v l n m w' (h.seen h')
  have HE : Hid (∀ w', Seen w w' → ∀ m, Calls Try.prog 72 #[v, .int .i64 m] w' fun e w'' => e = .returned (.int .i64 (plAt l m).stop) ∧ Seen w' w'') := fun w' h' m => end_kin v l m w' (h.seen h')
  cases hb : inB l n
  · have e1 : Hid (kidsV l n = []) := by unfold Hid kidsV; rw [hb]; rfl
    have e2 : Hid (∀ m, belV l n m = false) := fun m => by unfold belV; rw [hb]; rfl
    clear h hb HE
    go_enter Try.func46, Try.ntmps46
    go_wp2_with fail
    go_loopw [5, 6] (fun s x wr => s = .slice none 0 0 ∧ (∃ m, x = .int .i64 m) ∧ wr = w) (fun _ _ _ => 0)
    case atStart => exact ⟨rfl, ⟨_, rfl⟩, rfl⟩
    case round =>
      obtain ⟨rfl, ⟨m, rfl⟩, rfl⟩ := hrel
      go_wp2_with (go_at_call 71; refine (HB.out _ (Seen.refl _) m).mono ?_; clear HB; rintro e w1 ⟨rfl, hs⟩; rw [e2.out]; have S1 := Lib.hid hs; clear hs)
      go_ret
      rw [e1.out]
      exact ⟨_, rfl, RI.nil _ _, S1.out⟩
  · obtain ⟨hf, h65, k, hk, rfl, _⟩ := h.node hb
    have e1 : Hid (kidsV l (k : Int) = kidsTo l k (endN l k)) := by unfold Hid kidsV; rw [hb, if_pos rfl, kids_end hf hk]
    have e2 : Hid (∀ m : Nat, belV l (k : Int) m = (decide (k ≤ m) && decide (m < endN l k))) := fun m => by
      unfold belV endV; rw [hb]; simp
    have hel := end_low hk
    have hee := end_le hk
    have HF := Lib.hid hf
    clear h hb hf
    have hk63 : (k : Int) + 1 < 9223372036854775808 := by omega
    go_enter Try.func46, Try.ntmps46
    go_wp2_with fail
    go_loopw [5, 6] (fun s x wr => ∃ m : Nat, x = .int .i64 m ∧ k < m ∧ m ≤ endN l k ∧ (m < endN l k → (nd l m).p = k) ∧ RI wr w.heap.size s (kidsTo l k m) ∧ Seen w wr) (fun _ x _ => endN l k - (intOf x).toNat)
    case atStart => exact ⟨k + 1, by go_num, by omega, by omega, fun hlt => kid_first HF.out hk hlt, by rw [kids_begin HF.out hk]; exact RI.nil _ _, Seen.refl _⟩
    case round =>
      obtain ⟨m, rfl, hkm, hme, hpar, hrow, hs⟩ := hrel
      have S1 := Lib.hid hs
      have HR := Lib.hid hrow
      have HP := Lib.hid hpar
      clear hs hrow hpar
      have HB1 := Lib.hid (HB.out _ S1.out m)
      rw [e2.out m] at HB1
      by_cases hlt : m < endN l k
      · have eb : (decide (k ≤ m) && decide (m < endN l k)) = true := by simp; omega
        rw [eb] at HB1
        have hml : m < l.length := by omega
        have es : Hid ((plAt l (m : Int)).stop = endN l m) := by unfold Hid; rw [plAt_nat hml]; rfl
        have hnl := end_low hml
        have hlen := kids_length l k m
        have hsz : Hid (w.heap.size ≤ wr.heap.size) := S1.out.size
        clear eb
        go_wp2_with (first
          | (go_at_call 71; refine HB1.out.mono ?_; clear HB1; rintro e w1 ⟨rfl, hs⟩; have S2 := Lib.hid (S1.out.trans hs); have HR2 := Lib.hid (HR.out.seen hs); clear hs)
          | (at_builtin; refine wpList_pushI rfl (.tmp 16) (.tmp 18) rfl w.heap.size u5 (kidsTo l k m) m rfl rfl HR2.out (by omega) S2.out.size ?_; intro v3 w3 hr3 hb3; have R3 := Lib.hid (And.intro hr3 (Below.trans S2.out hb3 : Seen w w3)); clear hr3 hb3)
          | (go_at_call 72; refine (HE.out w3 R3.out.2 m).mono ?_; rintro e w4 ⟨rfl, hs⟩; rw [es.out]; have S4 := Lib.hid hs; clear hs))
        go_roundw
        case rel =>
          refine ⟨endN l m, rfl, by omega, end_kid_le HF.out hml hk (HP.out hlt), fun h => kid_next HF.out hml hk (HP.out hlt) h, ?_, Seen.trans R3.out.2 S4.out⟩
          rw [kids_on HF.out hml (HP.out hlt)]
          exact R3.out.1.seen S4.out
        case measure => simp [intOf]; omega
      · have eb : (decide (k ≤ m) && decide (m < endN l k)) = false := by simp; omega
        rw [eb] at HB1
        clear eb
        obtain rfl : m = endN l k := by omega
        go_wp2_with (go_at_call 71; refine HB1.out.mono ?_; clear HB1; rintro e w1 ⟨rfl, hs⟩; have S2 := Lib.hid hs; clear hs)
        go_ret
        rw [e1.out]
        exact ⟨_, rfl, HR.out.seen S2.out, S1.out.trans S2.out⟩
theorem plAt_made {l : List Nd} {n : Int} (h : inB l n = true) : (plAt l n).made = madeB l n ∧ (plAt l n).out = outB l n ∧ (plAt l n).deep = deep l n ∧ (plAt l n).par = par l n := by
  obtain ⟨k, hk, rfl⟩ := inB_iff.1 h
  rw [plAt_nat hk, par_nat]
  exact ⟨rfl, rfl, rfl, rfl⟩
theorem kidsV_mem {l : List Nd} {n x : Int} (h : x ∈ kidsV l n) : inB l x = true := by
  unfold kidsV at h
  split at h
  · obtain ⟨k, hk, rfl⟩ := kids_mem h
    exact inB_nat hk
  · cases h
theorem kidsV_length (l : List Nd) (n : Int) : (kidsV l n).length ≤ l.length := by
  unfold kidsV
  split
  · exact kids_length _ _ _
  · simp
theorem bat_mem {l : List Int} {i : Nat} (h : i < l.length) : bat l i ∈ l := by
  have := bat_get h
  exact List.mem_of_getElem? this
theorem filter_take (p : Int → Bool) (l : List Int) {i : Nat} (h : i < l.length) : (l.take (i + 1)).filter p = (l.take i).filter p ++ (if p (bat l i) then [bat l i] else []) := by
  rw [List.take_add_one, bat_get h, List.filter_append]
  cases hp : p (bat l i) <;> simp [hp]
set_option maxHeartbeats 4000000 in
theorem flow_kin (v : Value) (l : List Nd) (n : Int) (w : World) (h : KV w v l) : Calls Try.prog 28 #[v, .int .i64 n] w (RowI w (flowV l n)) := by
  have HK := Lib.hid (kids_kin v l n w h)
  have HM : Hid (∀ w', Seen w w' → ∀ m, inB l m = true → Calls Try.prog 9 #[v, .int .i64 m] w' fun e w'' => e = .returned (.bool (madeB l m)) ∧ Seen w' w'') := fun w' h' m hm => by
    have := made_kin v l m w' (h.seen h')
    rw [(plAt_made hm).1] at this
    exact this
  have HO : Hid (∀ w', Seen w w' → ∀ m, inB l m = true → Calls Try.prog 27 #[v, .int .i64 m] w' fun e w'' => e = .returned (.bool (outB l m)) ∧ Seen w' w'') := fun w' h' m hm => by
    have := out_kin v l m w' (h.seen h')
    rw [(plAt_made hm).2.1] at this
    exact this
  have h65 := h.len
  have hkl := kidsV_length l n
  rw [flowV_kids]
  have HI : Hid (∀ x, x ∈ kidsV l n → inB l x = true) := fun x hx => kidsV_mem hx
  obtain ⟨L, hL⟩ : ∃ L, kidsV l n = L := ⟨_, rfl⟩
  rw [hL] at HK HI hkl ⊢
  clear h hL
  go_enter Try.func28, Try.ntmps28
  go_wp2_with (go_at_call 46; refine HK.out.mono ?_; clear HK; rintro e w1 ⟨u, rfl, hr, hs⟩; have S1 := Lib.hid hs; obtain ⟨ad, c, rfl, hz, _⟩ := hr.slice; have HZ := Lib.hid hz; clear hr hs hz)
  obtain ⟨N, hN⟩ : ∃ N, L.length = N := ⟨_, rfl⟩
  rw [hN] at hkl HZ ⊢
  have HN := Lib.hid hN
  clear hN
  go_loopw [5, 12] (fun s x wr => ∃ i : Nat, x = .int .i64 i ∧ i ≤ N ∧ RI wr w1.heap.size s ((L.take i).filter (flowF l)) ∧ Seen w1 wr) (fun _ x _ => N - (intOf x).toNat)
  case atStart => exact ⟨0, rfl, by omega, by rw [List.take_zero]; exact RI.nil _ _, Seen.refl _⟩
  case round =>
    obtain ⟨i, rfl, hi, hrow, hs⟩ := hrel
    have S2 := Lib.hid hs
    have HR := Lib.hid hrow
    clear hs hrow
    by_cases hlt : i < N
    · have hi' : (i : Int) < (N : Int) := by omega
      have hlL : i < L.length := by have := HN.out; omega
      obtain ⟨b, off, rfl, hc⟩ := HZ.out.cells (by omega)
      have c1 := S2.out.cell (hc i hlt)
      have hin := HI.out _ (bat_mem hlL)
      have hft : Hid ((L.take (i + 1)).filter (flowF l) = (L.take i).filter (flowF l) ++ (if flowF l (bat L i) then [bat L i] else [])) := filter_take _ L hlL
      have hlen : ((L.take i).filter (flowF l)).length ≤ i := Nat.le_trans (List.length_filter_le _ _) (by rw [List.length_take]; omega)
      obtain ⟨X, hX⟩ : ∃ X, bat L i = X := ⟨_, rfl⟩
      rw [hX] at c1 hin hft
      clear hX hc hlL
      have HM1 : Hid (∀ w', Seen w1 w' → Calls Try.prog 9 #[v, .int .i64 X] w' fun e w'' => e = .returned (.bool (madeB l X)) ∧ Seen w' w'') := fun w' h' => HM.out w' (S1.out.trans h') X hin
      have HO1 : Hid (∀ w', Seen w1 w' → Calls Try.prog 27 #[v, .int .i64 X] w' fun e w'' => e = .returned (.bool (outB l X)) ∧ Seen w' w'') := fun w' h' => HO.out w' (S1.out.trans h') X hin
      unfold flowF at hft
      obtain ⟨F, hF⟩ : ∃ F, (L.take i).filter (flowF l) = F := ⟨_, rfl⟩
      have hft2 : Hid ((L.take (i + 1)).filter (flowF l) = F ++ (if madeB l X && !outB l X then [X] else [])) := by
        have := hft.out
        unfold Hid
        rw [← hF]
        exact this
      rw [hF] at HR hlen
      clear hF hft hin
      obtain ⟨A, hA⟩ : ∃ A, madeB l X = A := ⟨_, rfl⟩
      obtain ⟨O, hO⟩ : ∃ O, outB l X = O := ⟨_, rfl⟩
      rw [hA] at HM1 hft2
      rw [hO] at HO1 hft2
      clear hA hO
      cases A
      · go_wp2_with (go_at_call 9; refine (HM1.out _ S2.out).mono ?_; clear HM1; rintro e w3 ⟨rfl, hs⟩; have S3 := Lib.hid hs; clear hs)
        go_roundw
        case rel =>
          refine ⟨i + 1, by go_num, by omega, ?_, S2.out.trans S3.out⟩
          rw [hft2.out]
          simpa using HR.out.seen S3.out
        case measure => simp [intOf]; omega
      · cases O
        · go_wp2_with (first
            | (go_at_call 9; refine (HM1.out _ S2.out).mono ?_; clear HM1; rintro e w3 ⟨rfl, hs⟩; have S3 := Lib.hid (S2.out.trans hs); have R3 := Lib.hid (HR.out.seen hs); clear hs)
            | (go_at_call 27; refine (HO1.out _ S3.out).mono ?_; clear HO1; rintro e w4 ⟨rfl, hs⟩; have S4 := Lib.hid (S3.out.trans hs); have R4 := Lib.hid (R3.out.seen hs); clear hs)
            | (at_builtin; refine wpList_pushI rfl (.tmp 25) (.tmp 27) rfl w1.heap.size u5 F X rfl rfl R4.out (by omega) S4.out.size ?_; intro v5 w5 hr5 hb5; have R5 := Lib.hid hr5; have B5 := Lib.hid hb5; clear hr5 hb5))
          go_roundw
          case rel =>
            refine ⟨i + 1, by go_num, by omega, ?_, ?_⟩
            · rw [hft2.out]
              simpa using R5.out
            · exact Below.trans S4.out B5.out
          case measure => simp [intOf]; omega
        · go_wp2_with (first
            | (go_at_call 9; refine (HM1.out _ S2.out).mono ?_; clear HM1; rintro e w3 ⟨rfl, hs⟩; have S3 := Lib.hid (S2.out.trans hs); have R3 := Lib.hid (HR.out.seen hs); clear hs)
            | (go_at_call 27; refine (HO1.out _ S3.out).mono ?_; clear HO1; rintro e w4 ⟨rfl, hs⟩; have S4 := Lib.hid (S3.out.trans hs); have R4 := Lib.hid (R3.out.seen hs); clear hs))
          go_roundw
          case rel =>
            refine ⟨i + 1, by go_num, by omega, ?_, S4.out⟩
            rw [hft2.out]
            simpa using R4.out
          case measure => simp [intOf]; omega
    · have hi' : ¬ (i : Int) < (N : Int) := by omega
      obtain rfl : i = N := by omega
      go_wp2_with fail
      go_ret
      refine ⟨_, rfl, ?_, S1.out.trans S2.out⟩
      have := HR.out
      rw [← HN.out, List.take_length] at this
      exact row_more this S1.out.size
theorem up_bounds {l : List Nd} (h : FormedT l) {k : Nat} (hk : k < l.length) (j : Nat) : -1 ≤ upN l j k ∧ upN l j k < l.length := by
  have := h.low.up (m := (k : Int)) (by omega) (by omega) j
  omega
theorem upV_in {l : List Nd} {n : Int} (h : inB l n = true) : upV l n = upTo l n (deep l n - 1) := by unfold upV; rw [h]; rfl
end Go.Proofs.Yteplmjgohnbpbaa

/- The layout in memory: its row of boxes pushed to and stored into; no conditions beyond those written in each theorem. -/
namespace Go.Proofs.Yteplmjgohnbpbaa
open Go.ChangeShapes Go.WideShapes Go.ChangeAt Go.RowKit
set_option maxRecDepth 100000
/-- x = append(x, y), y in a new block: where the row lies then. -/
theorem wpList_pushM {P : Program} {α : Type} {enc : α → List Value} {size bytes : Nat} {z : Value} {t e : TypeId} (ht : P.underlying t = some (.slice e))
    (hinfo : (P.info? e).map (fun i => (i.zero, i.size, i.bytes)) = some (some z, size, bytes)) (hz : z.cells.size = size) (hpos : 0 < size) (hf : ∀ q, (enc q).length = size) (h1 : ∀ q, ∀ u ∈ enc q, u.oneCell' = true) (hby : bytes ≤ 10000)
    {ops : Array Oper} {rest : List Oper} {op : Oper} {a : Act} {w : World} {Q : Exit → Act → World → Prop} (hgd : op.guard = none) (s x : Operand) (ho : op.op = .call { callee := .builtin .append, args := #[s, x], argTypes := #[t, t] })
    (base : Nat) (v : Value) (l : List α) (y : α) (hs : a.eval s = v) (hx : a.eval x = .slice (some ⟨w.heap.size, 0, none⟩) 1 1) (hown : GR enc e size w base v l) (hl : l.length ≤ 1000000) (hb : base ≤ w.heap.size)
    (h : ∀ g cap w', GR enc e size w' base (.slice (some ⟨g, 0, none⟩) (l.length + 1) cap) (l ++ [y]) → (w.alloc (.cells (enc y).toArray e)).grownBy w' v.ownBlock → (v.ownBlock = some g ∨ w.heap.size ≤ g) → wpList P ops Q rest (a.put op.dst (.slice (some ⟨g, 0, none⟩) (l.length + 1) cap)) w') :
    wpList P ops Q (op :: rest) a (w.alloc (.cells (enc y).toArray e)) := by
  obtain ⟨i0, hi, hz0, hz1, hz2⟩ := info_parts hinfo
  have hm : (l.length + 1) * bytes ≤ 1000001 * 10000 := Nat.mul_le_mul (by omega) hby
  refine wpList_append_src (P := P) _ hgd s x t ho e i0 z size bytes ht hi hz0 hz1 hz2 hz hpos base v l.length (l.flatMap enc) hs (World.ownsRow.alloc hown _) (.slice (some ⟨w.heap.size, 0, none⟩) 1 1) 1 (enc y) hx (.inr ⟨⟨w.heap.size, 0, none⟩, 1, rfl, by rw [hf]; omega, cells_at _ _ _⟩) (h1 y) (by unfold maxLen; omega) (by omega) (by simp; omega) ?_
  intro v' w' h1' h2 h3
  obtain ⟨g, cap, rfl⟩ := ownsRow_succ h1'
  refine h g cap w' ?_ h2 ?_
  · unfold GR
    rw [List.flatMap_append, List.length_append, List.flatMap_cons, List.flatMap_nil, List.append_nil]
    exact h1'
  · rcases h3 with h3 | h3
    · exact .inl h3.symm
    · have h4 : g = (w.alloc (.cells (enc y).toArray e)).heap.size := by simpa [Value.ownBlock] using h3
      refine .inr ?_
      rw [h4]; simp
/-! The layout at a block, its row of boxes. -/
/-- The blocks that it turns. -/
def own (D : Nat) (v : Value) (k : Nat) : Prop := k = D ∨ v.ownBlock = some k
structure LS (w0 : World) (D : Nat) (kv : Value) (W : World) (v : Value) (ps : List Pd) : Prop where
  seen : Seen w0 W
  blk : Blk W D [kv, v] 83
  row : GR pdl 61 26 W (D + 1) v ps
theorem row_block {w : World} {base : Nat} {e : TypeId} {size n : Nat} {v : Value} {xs : List Value} (h : w.ownsRow base e size v n xs) {g : Nat} (hg : v.ownBlock = some g) : ∃ cur : Array Value, w.heap[g]? = some (.cells cur e) := by
  rcases h.2 with ⟨rfl, _⟩ | ⟨g', cap, cur, rfl, _, hh, _⟩
  · cases hg
  · obtain rfl : g' = g := by simpa [Value.ownBlock] using hg
    exact ⟨cur, hh⟩
section
variable {w0 : World} {D : Nat} {kv : Value} {W W' : World} {v : Value} {ps : List Pd}
theorem LS.apart (h : LS w0 D kv W v ps) {B : Nat} {cur : Array Value} {t : TypeId} (hb : W.heap[B]? = some (.cells cur t)) (h1 : t ≠ 83) (h2 : t ≠ 61) : ¬ own D v B := by
  rintro (e | e)
  · subst e
    have := h.blk
    unfold Blk at this
    rw [hb] at this
    simp at this
    exact h1 this.2
  · obtain ⟨c, hc⟩ := row_block h.row e
    rw [hb] at hc
    simp at hc
    exact h2 hc.2
theorem LS.lt (h : LS w0 D kv W v ps) {k : Nat} (hk : own D v k) : D ≤ k ∧ k < W.heap.size := by
  rcases hk with rfl | hk
  · exact ⟨Nat.le_refl _, h.blk.lt⟩
  · have := h.row.lt k hk
    exact ⟨by omega, this.2⟩
theorem LS.seen' (h : LS w0 D kv W v ps) (hs : Seen W W') : LS w0 D kv W' v ps := ⟨h.seen.trans hs, h.blk.seen hs, h.row.seen hs⟩
theorem Blk.moves {B : Nat} {l : List Value} {t : TypeId} {T' : Nat → Prop} (hb : Blk W B l t) (h : LS w0 D kv W v ps) (h1 : t ≠ 83) (h2 : t ≠ 61) (m : Moves (own D v) T' W W') : Blk W' B l t :=
  (m.block B hb.lt (h.apart hb h1 h2)).trans hb
theorem row_moves {base : Nat} {e : TypeId} {size n : Nat} {u : Value} {xs : List Value} {T' : Nat → Prop} (hr : W.ownsRow base e size u n xs) (h : LS w0 D kv W v ps) (h1 : e ≠ 83) (h2 : e ≠ 61) (m : Moves (own D v) T' W W') : W'.ownsRow base e size u n xs :=
  ownsRow_keeps hr fun g hg => by
    obtain ⟨c, hc⟩ := row_block hr hg
    exact m.block g (hr.lt g hg).2 (h.apart hc h1 h2)
/-- Blocks ahead of the layout are as they were. -/
theorem LS.below (h : LS w0 D kv W v ps) {T' : Nat → Prop} (m : Moves (own D v) T' W W') (hD : w0.heap.size ≤ D) : Seen w0 W' :=
  Below.trans h.seen (m.below (Nat.le_trans hD (Nat.le_of_lt h.blk.lt)) fun _ hk => Nat.le_trans hD (h.lt hk).1)
theorem own_refl (D : Nat) (v : Value) (W : World) : Moves (own D v) (own D v) W W := Moves.refl _ W
theorem own_seen {D : Nat} {v : Value} {W W' : World} (h : Seen W W') : Moves (own D v) (own D v) W W' := Moves.of_below h
/-- Behind 'd.placed = append(d.placed, p)'. -/
theorem LS.push (h : LS w0 D kv W v ps) (hD : w0.heap.size ≤ D) {p : Pd} {tmp : Obj} {w1 : World} {g n cap : Nat} (hown : GR pdl 61 26 w1 (D + 1) (.slice (some ⟨g, 0, none⟩) n cap) (ps ++ [p])) (hgrow : (W.alloc tmp).grownBy w1 v.ownBlock) (hat : v.ownBlock = some g ∨ W.heap.size ≤ g) :
    Blk w1 D [kv, v] 83 ∧ LS w0 D kv (w1.setCell ⟨D, 1, none⟩ (.slice (some ⟨g, 0, none⟩) n cap)) (.slice (some ⟨g, 0, none⟩) n cap) (ps ++ [p]) ∧ Moves (own D v) (own D (.slice (some ⟨g, 0, none⟩) n cap)) W (w1.setCell ⟨D, 1, none⟩ (.slice (some ⟨g, 0, none⟩) n cap)) := by
  have hlt := h.blk.lt
  have hnv : v.ownBlock ≠ some D := fun e => by have := (h.row.lt D e).1; omega
  have hb : Blk w1 D [kv, v] 83 := (hgrow.block D (by simp; omega) (fun e => hnv e.symm)).trans (h.blk.alloc tmp)
  have m : Moves (own D v) (own D (.slice (some ⟨g, 0, none⟩) n cap)) W (w1.setCell ⟨D, 1, none⟩ (.slice (some ⟨g, 0, none⟩) n cap)) := by
    refine ⟨hgrow.os, hgrow.tape, hgrow.output, ?_, fun k hk ht => ?_, fun k hk => ?_⟩
    · have := hgrow.size
      simp [World.setCell] at this ⊢; omega
    · have h1 : k ≠ D := fun e => ht (.inl e)
      have h2 : v.ownBlock ≠ some k := fun e => ht (.inr e)
      exact (Below.heap_setCell w1 _ _ k h1).trans ((hgrow.block k (by simp; omega) (fun e => h2 e.symm)).trans (Below.heap_alloc W tmp k hk))
    · rcases hk with rfl | hk
      · exact .inl (.inl rfl)
      · obtain rfl : g = k := by simpa [Value.ownBlock] using hk
        rcases hat with h1 | h1
        · exact .inl (.inr h1)
        · exact .inr h1
  refine ⟨hb, ⟨h.below m hD, hb.set 1 _, ?_⟩, m⟩
  exact hown.far (by omega) 1 _
theorem setsL_take (l : List Value) (o m : Nat) (vs : List Value) : (setsL l o vs).take m = setsL (l.take m) o vs := by
  induction vs generalizing l o with
  | nil => rfl
  | cons v r ih => rw [setsL, setsL, ih, List.take_set]
theorem setsL_length (l : List Value) (o : Nat) (vs : List Value) : (setsL l o vs).length = l.length := by
  induction vs generalizing l o with
  | nil => rfl
  | cons v r ih => rw [setsL, ih, List.length_set]
theorem set_same {l : List Value} {i : Nat} {v : Value} (h : l[i]? = some v) : l.set i v = l := by
  apply List.ext_getElem?
  intro j
  rw [List.getElem?_set]
  by_cases e : i = j
  · subst e
    rw [if_pos rfl, h]
    have : i < l.length := by
      rcases Nat.lt_or_ge i l.length with h1 | h1
      · exact h1
      · rw [List.getElem?_eq_none h1] at h; cases h
    rw [if_pos this]
  · rw [if_neg e]
/-- A frame laid into the row at place i. -/
theorem flat_frame (ps : List Pd) {i : Nat} (hi : i < ps.length) (f : Fr) : setsL (ps.flatMap pdl) (i * 26 + 1) (frl f) = (ps.set i ⟨(ps.getD i zPd).n, f⟩).flatMap pdl := by
  have h1 := fl_sets pdl_length ps hi ⟨(ps.getD i zPd).n, f⟩
  have h2 := fl_at pdl_length ps zPd hi (j := 0) (by omega)
  rw [Nat.add_zero] at h2
  rw [← h1]
  generalize ps.flatMap pdl = F at h2 ⊢
  have e : pdl ⟨(ps.getD i zPd).n, f⟩ = .int .i64 (ps.getD i zPd).n :: frl f := rfl
  have h3 : F[i * 26]? = some (.int .i64 (ps.getD i zPd).n) := h2
  rw [e, setsL, set_same h3]
/-- Cells stored inside the row. -/
theorem LS.stores (h : LS w0 D kv W v ps) (hD : w0.heap.size ≤ D) {g n cap : Nat} (hv : v = .slice (some ⟨g, 0, none⟩) n cap) {o : Nat} {vs : List Value} {ps' : List Pd} (hl : ps'.length = ps.length) (ho : o + vs.length ≤ ps.length * 26) (e : setsL (ps.flatMap pdl) o vs = ps'.flatMap pdl) :
    (∃ cs : List Value, Blk W g cs 61 ∧ o + vs.length ≤ cs.length) ∧ LS w0 D kv (W.setCells g o vs) v ps' ∧ Moves (own D v) (own D v) W (W.setCells g o vs) := by
  subst hv
  have hr := h.row
  rcases hr.2 with ⟨h1, _⟩ | ⟨g', cap', cur, h1, hb, hh, h2, h3, h4, h5⟩
  · cases h1
  · simp at h1
    obtain ⟨rfl, hn, rfl⟩ := h1
    have hB : Blk W g cur.toList 61 := by unfold Blk; simpa using hh
    have hgD : g ≠ D := by omega
    have t := turns_sets W g o vs
    have m : Moves (own D (.slice (some ⟨g, 0, none⟩) n cap)) (own D (.slice (some ⟨g, 0, none⟩) n cap)) W (W.setCells g o vs) :=
      ⟨t.os, t.tape, t.output, t.size, fun k hk ht => t.block k hk fun e => ht (.inr (by subst e; rfl)), fun _ hk => .inl hk⟩
    refine ⟨⟨cur.toList, hB, ?_⟩, ⟨h.below m hD, h.blk.turns t (Ne.symm hgD), ?_⟩, m⟩
    · have : cur.toList.length = cap * 26 := by simpa using h4
      rw [this]
      have : ps.length * 26 ≤ cap * 26 := Nat.mul_le_mul_right 26 h2
      omega
    · have hbs := block_sets hB o vs rfl
      refine ⟨by rw [fl_len pdl_length], .inr ⟨g, cap, (setsL cur.toList o vs).toArray, by rw [hl, hn], hb, hbs, by rw [hl]; exact h2, h3, ?_, ?_⟩⟩
      · simp [setsL_length]
        simpa using h4
      · show (setsL cur.toList o vs).take (ps'.length * 26) = _
        rw [hl, setsL_take, h5, e]
end
end Go.Proofs.Yteplmjgohnbpbaa
