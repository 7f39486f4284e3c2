/- Contracts of container/heap's Push and Pop, over the Agenda's list. -/
import Derived.Test.YtacdgfihabjfkaaPP
import Derived.Test.YtacdgfihabjfkaaDown
namespace Go.Proofs.Ytacdgfihabjfkaa
open Go.ChangeShapes Go.WideShapes Go.ChangeAt Go.RowKit
theorem hs_of_hi {base B g n cap : Nat} {T : Nat → Prop} {w wr : World} {l lk : List E3} (h : HI base B g n cap T w l lk wr) (hT : ∀ k, T k ↔ k = B ∨ (Value.slice (some ⟨g, 0, none⟩) n cap).ownBlock = some k) : HS base B T lk wr :=
  ⟨_, h.2.2.1, by rw [h.1]; exact h.2.2.2.1, hT⟩
theorem hs_succ {base B : Nat} {T : Nat → Prop} {l : List E3} {n : Nat} {W : World} (h : HS base B T l W) (hl : l.length = n + 1) :
    ∃ g cap, Boxed W B 27 (.slice (some ⟨g, 0, none⟩) (n + 1) cap) ∧ W.ownsRow base 31 3 (.slice (some ⟨g, 0, none⟩) (n + 1) cap) (n + 1) (flatE l) ∧ (∀ k, T k ↔ k = B ∨ g = k) := by
  obtain ⟨v, hv, hr, hT⟩ := h
  rw [hl] at hr
  obtain ⟨g, cap, rfl⟩ := ownsRow_succ hr
  exact ⟨g, cap, hv, hr, fun k => by rw [hT k]; simp [Value.ownBlock]⟩
set_option maxHeartbeats 2000000 in
theorem hpush_any (base B : Nat) (T : Nat → Prop) (l : List E3) (x : E3) (w : World) (h : HS base B T l w) (hb : base ≤ w.heap.size) (hn : l.length + 1 ≤ 1000000) (hp : HeapP l l.length) :
    Calls Try.prog 18 #[.iface 50 (.pointer (some ⟨B, 0, none⟩)), .iface 31 (.agg #[.int .i64 x.k, .int .i64 x.t, .int .i64 x.n])] w fun e w' => e = .returned (.tuple #[]) ∧ ∃ T' l', Moves T T' w w' ∧ HS base B T' l' w' ∧ HeapP l' l'.length ∧ l'.Perm (x :: l) := by
  have HH := Lib.hid h
  have HP := Lib.hid hp
  clear h hp
  have hmp := method_push ⟨B, 0, none⟩
  go_enter Try.func18, Try.ntmps18
  go_wp2_with (first
    | (go_at_call 67; refine (push_any base B T l x _ HH.out hb (by omega)).mono ?_; rintro e w1 ⟨rfl, T1, mv, hs⟩; obtain ⟨g, cap, hv, hr, hT⟩ := hs_succ (n := l.length) hs (by simp); have hm := method_len ⟨B, 0, none⟩ w1 _ _ _ hv.cell; have HI1 : Hid (HI base B g (l.length + 1) cap T1 w1 (l ++ [x]) (l ++ [x]) w1) := ⟨by simp, List.Perm.refl _, hv, hr, Moves.refl _ _, (hT g).2 (.inr rfl)⟩; have HT := Lib.hid hT; have HM := Lib.hid mv; clear hs hv hr hT mv HH)
    | (go_at_call 63; refine (len_any _ _ _ _).mono ?_; rintro e w2 ⟨rfl, rfl⟩; have hlen : ((l.length + 1 : Nat) : Int) - 1 = (l.length : Int) := by omega)
    | (go_at_call 25; refine (up_any base B _ (l ++ [x]) _ (l.length + 1) _ l.length _ _ _ HI1.out hn (up_start HP.out x)).mono ?_; rintro e w3 ⟨rfl, l', hI3, hp3⟩; have H3 := Lib.hid hI3; have HP3 := Lib.hid hp3; clear hI3 hp3 HI1))
  go_end0
  have h3 := H3.out
  refine ⟨rfl, _, l', HM.out.trans h3.2.2.2.2.1, hs_of_hi h3 (fun k => by rw [HT.out k]; simp [Value.ownBlock]), by rw [h3.1]; exact HP3.out, h3.2.1.trans List.perm_append_comm⟩
set_option maxHeartbeats 2000000 in
theorem hpop_any (base B : Nat) (T : Nat → Prop) (l : List E3) (n : Nat) (w : World) (h : HS base B T l w) (hl : l.length = n + 1) (hn : n + 1 ≤ 1000000) (hp : HeapP l l.length) :
    Calls Try.prog 19 #[.iface 50 (.pointer (some ⟨B, 0, none⟩))] w fun e w' => e = .returned (.iface 31 (.agg #[.int .i64 (eat l 0).k, .int .i64 (eat l 0).t, .int .i64 (eat l 0).n])) ∧ ∃ l', Moves T T w w' ∧ HS base B T l' w' ∧ HeapP l' l'.length ∧ l.Perm (eat l 0 :: l') := by
  obtain ⟨g, cap, hv, hr, hT⟩ := hs_succ h hl
  have hm := method_len ⟨B, 0, none⟩ w _ _ _ hv.cell
  have HI0 : Hid (HI base B g (n + 1) cap T w l l w) := ⟨hl, List.Perm.refl _, hv, hr, Moves.refl _ _, (hT g).2 (.inr rfl)⟩
  have HP := Lib.hid hp
  have HT := Lib.hid hT
  have HL := Lib.hid hl
  have hlen : ((n + 1 : Nat) : Int) - 1 = (n : Int) := by omega
  have hmpop := method_pop ⟨B, 0, none⟩
  have ez : Value.int .i64 0 = Value.int .i64 ((0 : Nat) : Int) := rfl
  have hswp : Hid (Calls Try.prog 65 #[.slice (some ⟨g, 0, none⟩) (n + 1) cap, .int .i64 0, .int .i64 n] w fun e w' => e = .returned (.tuple #[]) ∧ HI base B g (n + 1) cap T w l (swapE l 0 n) w') := by
    have h := HI.swaps HI0.out (i := 0) (j := n) (by omega) (by omega) hn
    rw [← ez] at h
    exact h
  have HXS : Hid (∀ m, n ≤ m → m < n + 1 → eat (swapE l 0 n) m = eat l 0) := fun m h1 h2 => by
    have e : m = n := by omega
    rw [e]; exact pop_last hl
  clear h hv hr hT hl hp ez
  go_enter Try.func19, Try.ntmps19
  go_wp2_with (first
    | (go_at_call 63; refine (len_any _ _ _ _).mono ?_; rintro e w2 ⟨rfl, rfl⟩; have hm2 := method_swap ⟨B, 0, none⟩ w2 _ _ _ HI0.out.2.2.1.cell; clear hm)
    | (go_at_call 65; refine hswp.out.mono ?_; rintro e w3 ⟨rfl, hI3⟩; have H3 := Lib.hid hI3; clear hI3 hm2)
    | (go_at_call 26; refine (down_any base B T (swapE l 0 n) g (n + 1) n cap _ _ _ H3.out hn (by omega) (pop_start HL.out HP.out) (eat l 0) HXS.out).mono ?_; rintro e w4 ⟨⟨v4, rfl⟩, l4, hI4, hp4, hx4⟩; have H4 := Lib.hid hI4; have HP4 := Lib.hid hp4; have HX4 := Lib.hid (hx4 n (Nat.le_refl _) (by omega)); clear hI4 hp4 hx4)
    | (go_at_call 66; refine (pop_any base B T l4 g n cap w4 H4.out.2.2.1 H4.out.2.2.2.1 H4.out.1 HT.out (by omega)).mono ?_; rintro e w5 ⟨rfl, mv5, hs5⟩; have HM5 := Lib.hid mv5; have HS5 := Lib.hid hs5; clear mv5 hs5))
  go_ret
  have h4 := H4.out
  have hxe := HX4.out
  rw [hxe]
  exact ⟨rfl, l4.take n, h4.2.2.2.2.1.trans HM5.out, HS5.out, heap_take (by rw [h4.1]; omega) HP4.out, pop_perm HL.out (h4.2.1.trans (swapE_perm (by rw [HL.out]; omega) (by rw [HL.out]; omega)).symm) hxe⟩
end Go.Proofs.Ytacdgfihabjfkaa
