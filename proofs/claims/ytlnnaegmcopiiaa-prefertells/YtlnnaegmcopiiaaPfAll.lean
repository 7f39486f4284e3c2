/- Contracts of Content, of the reference, of the law's own awake; no conditions beyond those written in each theorem. -/
import Derived.Test.YtlnnaegmcopiiaaPfC
import Derived.Test.YtlnnaegmcopiiaaPfR
import Derived.Test.YtlnnaegmcopiiaaPfB
import Derived.Test.YtlnnaegmcopiiaaKinAwake
import Derived.Test.YtlnnaegmcopiiaaRefKin
namespace Go.Proofs.Ytlnnaegmcopiiaa
open Go.ChangeShapes Go.WideShapes Go.ChangeAt Go.RowKit
set_option maxRecDepth 100000
theorem made_nat {l : List Nd} {n : Int} (h : (plAt l n).made = true) : ∃ m : Nat, m < l.length ∧ n = (m : Int) ∧ madeB l m = true := by
  cases hb : inB l n
  · rw [plAt_no hb] at h; cases h
  · obtain ⟨k, hk, rfl⟩ := inB_iff.1 hb
    rw [plAt_nat hk] at h
    exact ⟨k, hk, rfl, h⟩
theorem made_same (l : List Nd) (n : Int) : (inB l n && madeB l n) = (plAt l n).made := by
  cases hb : inB l n
  · rw [plAt_no hb]; rfl
  · rw [(plAt_made hb).1]; rfl
theorem content_ok {l : List Nd} {w0 : World} {kv : Value} (hf : FormedT l) (hl : l.length ≤ 65535) (hKV : KV w0 kv l) : ∀ k, PrOK l w0 kv k := by
  intro k
  induction k with
  | zero => intro n hn hk; omega
  | succ k ih => exact content_step hf hl hKV ih
theorem refContent_ok {l : List Nd} {w0 : World} {ad : Option Addr} {N cp : Nat} (hf : FormedT l) (hl : N ≤ 65535) (hNS : NS w0 ad N l) : ∀ k, RfOK l w0 ad N cp k := by
  intro k
  induction k with
  | zero => intro n hn hk; omega
  | succ k ih => exact refContent_step hf hl hNS ih
set_option maxHeartbeats 1000000 in
theorem content_any {l : List Nd} {kv : Value} (n : Int) (W : World) (hKV : KV W kv l) : Calls Try.prog 8 #[kv, .int .i64 n] W fun e w' => e = .returned (prA (prefO l n)) ∧ Seen W w' := by
  cases hm : (plAt l n).made with
  | true =>
    obtain ⟨m, h1, rfl, h2⟩ := made_nat hm
    obtain ⟨hf, hl, _⟩ := hKV.node (inB_nat h1)
    have := content_ok hf hl hKV l.length m h1 (by omega) h2 W (Seen.refl W)
    rwa [show prO l l.length m = prefO l m by unfold prefO; rw [hm]; rfl] at this
  | false =>
    have HM := Lib.hid (made_kin kv l n W hKV)
    rw [hm] at HM
    rw [show prA (prefO l n) = .tuple #[.int .i64 0, .bool false] by unfold prefO; rw [hm]; rfl]
    clear hm hKV
    go_enter Try.func8, Try.ntmps8
    go_wp2_with (go_at_call 17; refine HM.out.mono ?_; clear HM; rintro e w1 ⟨rfl, hb⟩; have S1 := Lib.hid hb; clear hb)
    go_ret2
    exact ⟨rfl, S1.out⟩
set_option maxHeartbeats 1000000 in
theorem refContent_any {l : List Nd} (ad : Option Addr) (N cp : Nat) (n : Int) (W : World) (hNS : NS W ad N l) (hf : FormedT l) (hl : N ≤ 65535) : Calls Try.prog 9 #[.slice ad N cp, .int .i64 n] W fun e w' => e = .returned (prA (prefO l n)) ∧ Seen W w' := by
  have hN := hNS.1
  cases hm : (plAt l n).made with
  | true =>
    obtain ⟨m, h1, rfl, h2⟩ := made_nat hm
    have := refContent_ok (cp := cp) hf hl hNS l.length m (by omega) (by omega) h2 W (Seen.refl W)
    rwa [show prO l l.length m = prefO l m by unfold prefO; rw [hm]; rfl] at this
  | false =>
    have HM := Lib.hid (refMade_any ad N cp l n W hNS hf (by omega))
    rw [made_same, hm] at HM
    rw [show prA (prefO l n) = .tuple #[.int .i64 0, .bool false] by unfold prefO; rw [hm]; rfl]
    clear hm hNS hN hf
    go_enter Try.func9, Try.ntmps9
    go_wp2_with (go_at_call 23; refine HM.out.mono ?_; clear HM; rintro e w1 ⟨rfl, hb⟩; rw [hb]; clear hb)
    go_ret2
    exact ⟨rfl, Seen.refl _⟩
theorem wide_pref : prefO [wideN 10 (-1)] 0 = some 10 := by kernel_rfl
/-- A width stored into the plain style. -/
theorem wpList_storeW {ops : Array Oper} {rest : List Oper} {op : Oper} {a : Act} {w : World} {Q : Exit → Act → World → Prop} (hgd : op.guard = none) (x y : Operand) (ho : op.op = .store 35 x y) (X : Nat) (n : Int)
    (hx : a.eval x = .pointer (some ⟨X, 10, none⟩)) (hy : a.eval y = .agg #[.int .i64 1, .int .i64 n]) (hs : Hs w X (plainK 4))
    (h : ∀ w', Hs w' X (wideS n) → Turns X w w' → wpList Try.prog ops Q rest (a.put op.dst undef) w') : wpList Try.prog ops Q (op :: rest) a w :=
  wpList_storeC hgd 35 x y ho X 10 [.int .i64 1, .int .i64 n] hx hy sz35 (by intro u hu; simp at hu; rcases hu with rfl | rfl <;> rfl) hs (by rw [(plain_full (Nat.le_refl 4)).len]; show 10 + 2 ≤ 48; decide) (wide_sets n) h
set_option maxHeartbeats 4000000 in
theorem awake_any15 (w : World) : Calls Try.prog 5 #[] w fun e w' => e = .returned (.bool true) ∧ Seen w w' := by
  have HP : Hid (prA (prefO [wideN 10 (-1)] 0) = .tuple #[.int .i64 10, .bool true]) := by unfold Hid; rw [wide_pref]; rfl
  go_enter Try.func5, Try.ntmps5
  go_upto_region 5 with (first
    | (go_at_call 10; refine (plain_any w).mono ?_; rintro _ w1 ⟨rfl, hs1⟩; have S1 : Hid (Seen w w1) := hs1; clear hs1)
    | (rw [zero_lit]; refine wpList_storeS rfl (.tmp 1) (.tmp 6) rfl w1.heap.size zeroS (plainK 4) rfl rfl (plain_full (Nat.le_refl 4)) zero_full (hs_new w1 zeroS) ?_
       intro w2 b2 t2
       have S2 := Lib.hid (S1.out.trans (Seen.fresh (Seen.refl w1) t2))
       have K2 := Lib.hid b2
       clear b2 t2)
    | (refine wpList_storeW rfl (.tmp 8) (.tmp 7) rfl w1.heap.size 10 rfl rfl K2.out ?_
       intro w3 b3 t3
       have S3 := Lib.hid (Seen.turns S2.out t3 S1.out.size)
       have K3 := Lib.hid b3
       clear b3 t3)
    | (refine wpList_loadS rfl (.tmp 1) rfl w1.heap.size (wideS 10) rfl (wide_full 10) K3.out ?_)
    | (refine wpList_buildN rfl (.tmp 10) (.const (.int .i64 (-1))) rfl (wideS 10) (wide_full 10) (-1) rfl rfl ?_)
    | (refine wpList_buildS1 rfl (.tmp 11) rfl (wideN 10 (-1)) rfl ?_
       obtain ⟨W, hW⟩ : ∃ W, W = w3.alloc (.cells (ndl (wideN 10 (-1))).toArray 42) := ⟨_, rfl⟩
       rw [← hW]
       have S4 : Hid (Seen w W) := by rw [hW]; exact S3.out.alloc _
       have N4 : Hid (NS W (some ⟨w3.heap.size, 0, none⟩) 1 [wideN 10 (-1)]) := by
         obtain ⟨a, c, e, h, _, _⟩ := ns_of_own (new_rowN w3 (wideN 10 (-1)) 0 (Nat.zero_le _)) rfl
         cases e
         rw [hW]; exact h
       clear hW)
    | (go_at_call 7; refine (of_yes _ 1 1 _ W N4.out (wide_check (by decide) (by decide)) (wide_tree (by decide)) (by omega)).mono ?_; rintro _ w5 ⟨B, G, H, rfl, _, hk5, hs5⟩; have S5 : Hid (Seen w w5) := S4.out.trans hs5; have K5 := Lib.hid (hk5.kv (wide_tree (by decide)) (by decide)); clear hs5 hk5)
    | (go_at_call 8; refine (content_any 0 w5 K5.out).mono ?_; rw [HP.out]; rintro _ w6 ⟨rfl, hs6⟩; have S6 : Hid (Seen w w6) := S5.out.trans hs6; clear hs6))
  go_wp2_with fail
  go_ret
  exact ⟨rfl, S6.out⟩
end Go.Proofs.Ytlnnaegmcopiiaa
