/- Contract of awake: it answers true and turns nothing that was there. -/
import Derived.Test.YtacdgfihabjfkaaAg
namespace Go.Proofs.Ytacdgfihabjfkaa
open Go.ChangeShapes Go.WideShapes Go.ChangeAt Go.RowKit
theorem HS.high {base B : Nat} {T : Nat → Prop} {l : List E3} {w : World} (h : HS base B T l w) (hB : base ≤ B) : ∀ k, T k → base ≤ k := by
  obtain ⟨v, hv, hr, hT⟩ := h
  intro k hk
  rcases (hT k).1 hk with rfl | h
  · exact hB
  · exact (hr.lt k h).1
theorem hs_new (w : World) (base : Nat) : HS base w.heap.size (fun k => k = w.heap.size) [] (w.alloc (.cells #[.slice none 0 0] 27)) :=
  ⟨.slice none 0 0, Boxed.new w 27 _, World.ownsRow_nil _ _ _ _, fun k => by simp [Value.ownBlock]⟩
theorem heap_nil : HeapP [] ([] : List E3).length := fun i _ hi => absurd hi (by simp)
theorem awake_math {l1 l2 l3 : List E3} (h1 : l1.Perm [⟨3, 0, 0⟩]) (h2 : l2.Perm (⟨1, 0, 0⟩ :: l1)) (hp : HeapP l2 l2.length) (h3 : l2.Perm (eat l2 0 :: l3)) : (eat l2 0).k = 1 ∧ l3.length = 1 := by
  have hl2 : l2.length = 2 := by rw [h2.length_eq, List.length_cons, h1.length_eq]; rfl
  have hl3 : l3.length = 1 := by have := h3.length_eq; rw [hl2, List.length_cons] at this; omega
  refine ⟨?_, hl3⟩
  have hm : eat l2 0 ∈ l2 := eat_mem (by omega)
  have hle := heap_least_mem hp _ (h2.mem_iff.2 (List.mem_cons_self ..))
  rcases List.mem_cons.1 (h2.mem_iff.1 hm) with e | e
  · rw [e]
  · have e3 := h1.mem_iff.1 e
    rw [List.mem_singleton] at e3
    rw [e3, leE_iff] at hle
    simp at hle
theorem agLen_hs {base B : Nat} {T : Nat → Prop} {l : List E3} {n : Nat} {w : World} (h : HS base B T l w) (hl : l.length = n) (o : Obj) : Calls Try.prog 13 #[.pointer (some ⟨B, 0, none⟩)] (w.alloc o) fun e w' => e = .returned (.int .i64 n) ∧ w' = w.alloc o := by
  obtain ⟨a4, c4, hc4, _⟩ := (h.seen ((Seen.refl w).alloc o)).cell
  rw [hl] at hc4
  exact agLen_any _ _ _ _ _ hc4
set_option maxHeartbeats 4000000 in
theorem awake_any (w : World) : Calls Try.prog 7 #[] w fun e w' => e = .returned (.bool true) ∧ Below w.heap.size w w' := by
  obtain ⟨W, hW⟩ : ∃ W, W = w.alloc (.cells #[.slice none 0 0] 27) := ⟨_, rfl⟩
  have H0 : Hid (HS w.heap.size w.heap.size (fun k => k = w.heap.size) [] W) := by rw [hW]; exact hs_new w _
  have HB : Hid (Below w.heap.size w W) := by rw [hW]; exact (Seen.refl w).alloc _
  have HWS : Hid (w.heap.size ≤ W.heap.size) := HB.out.size
  go_enter Try.func7, Try.ntmps7
  go_wp2_with (first
    | (go_at_call 9; first
        | (rw [← hW]; clear hW; refine (add_any w.heap.size w.heap.size (fun k => k = w.heap.size) [] ⟨3, 0, 0⟩ W H0.out HWS.out (by simp) heap_nil).mono ?_; rintro e w1 ⟨rfl, T1, l1, mv1, hs1, hp1, pm1⟩; have H1 := Lib.hid hs1; have HP1 := Lib.hid hp1; have M1 := Lib.hid mv1; have PM1 := Lib.hid pm1; clear mv1 hs1 hp1 pm1)
        | (refine (add_any w.heap.size w.heap.size T1 l1 ⟨1, 0, 0⟩ w1 H1.out (Nat.le_trans HWS.out M1.out.size) (by rw [PM1.out.length_eq]; simp) HP1.out).mono ?_; rintro e w2 ⟨rfl, T2, l2, mv2, hs2, hp2, pm2⟩; have H2 := Lib.hid hs2; have HP2 := Lib.hid hp2; have M2 := Lib.hid mv2; have PM2 := Lib.hid pm2; have HL2 : Hid (l2.length = 1 + 1) := by unfold Hid; rw [pm2.length_eq, List.length_cons, PM1.out.length_eq]; rfl
           clear mv2 hs2 hp2 pm2))
    | (go_at_call 10; refine (next_some w.heap.size w.heap.size T2 l2 1 w2 H2.out HL2.out (by omega) HP2.out).mono ?_; rintro e w3 ⟨rfl, l3, mv3, hs3, hp3, pm3⟩; obtain ⟨hk, hl3⟩ := awake_math PM1.out PM2.out HP2.out pm3; have H3 := Lib.hid hs3; have M3 := Lib.hid mv3; have HL3 := Lib.hid hl3; clear mv3 hs3 hp3 pm3 hl3)
    | (go_at_call 13; refine (agLen_hs H3.out HL3.out _).mono ?_; rintro e w4 ⟨rfl, rfl⟩))
  go_ret
  refine ⟨rfl, (HB.out.trans (M1.out.below HWS.out (fun k hk => Nat.le_of_eq hk.symm))).trans ?_⟩
  have b1 : w.heap.size ≤ w1.heap.size := Nat.le_trans HWS.out M1.out.size
  have b2 : w.heap.size ≤ w2.heap.size := Nat.le_trans b1 M2.out.size
  exact ((M2.out.below b1 (H1.out.high (Nat.le_refl _))).trans (M3.out.below b2 (H2.out.high (Nat.le_refl _)))).trans ((Below.refl _ w3).alloc (Nat.le_trans b2 M3.out.size) _)
end Go.Proofs.Ytacdgfihabjfkaa
