/- Texts of the proof, merged: FCont. -/
import Derived.Test.YtngeaigkafamiaaGreatM16
import Derived.Test.YtngeaigkafamiaaGreatM15
namespace Go.Proofs.YtngeaigkafamiaaGreat
open Go.ChangeShapes Go.WideShapes Go.ChangeAt Go.RowKit
set_option maxRecDepth 100000
theorem LS.turns {w0 : World} {D : Nat} {kv : Value} {w w' : World} {v : Value} {ps : List Pd} {X : Nat} {cs : List Value} {t : TypeId} (h : LS w0 D kv w v ps) (hX : Blk w X cs t) (h1 : t ≠ 85) (h2 : t ≠ 114) (hw : w0.heap.size ≤ X) (k : Turns X w w') : LS w0 D kv w' v ps :=
  ⟨h.seen.turns k hw, h.blk.turns k (fun e => h.apart hX h1 h2 (.inl e.symm)), ownsRow_keeps h.row fun g hg => k.block g (h.row.lt g hg).2 (fun e => h.apart hX h1 h2 (.inr (e ▸ hg)))⟩
theorem blk_ne {w : World} {A B : Nat} {l m : List Value} {t u : TypeId} (h : Blk w A l t) (k : Blk w B m u) (hne : t ≠ u) : A ≠ B := fun e => by
  subst e
  have h' : w.heap[A]? = some (.cells l.toArray t) := h
  rw [show w.heap[A]? = some (.cells m.toArray u) from k] at h'
  simp at h'
  exact hne h'.2.symm
theorem flat_set1 (l : List Pd) {i j : Nat} (hi : i < l.length) (hj : j < 26) (x : Pd) (u : Value) (e : (pdl (l.getD i zPd)).set j u = pdl x) : (l.flatMap pdl).set (i * 26 + j) u = (l.set i x).flatMap pdl := by
  induction l generalizing i with
  | nil => simp at hi
  | cons a l ih =>
    cases i with
    | zero =>
      rw [List.flatMap_cons, Nat.zero_mul, Nat.zero_add, List.set_append_left _ _ (by rw [pdl_length]; exact hj), List.set_cons_zero, List.flatMap_cons]
      have e' : (pdl a).set j u = pdl x := e
      rw [e']
    | succ i =>
      rw [List.flatMap_cons, List.set_append_right _ _ (by rw [pdl_length, Nat.add_mul]; omega), List.set_cons_succ, List.flatMap_cons, pdl_length, show (i + 1) * 26 + j - 26 = i * 26 + j by rw [Nat.add_mul]; omega]
      rw [ih (by simpa using hi) (by simpa using e)]
theorem flat_y (l : List Pd) {i : Nat} (hi : i < l.length) {n : Int} {f : Fr} (h : l.getD i zPd = ⟨n, f⟩) (y : Int) : setsL (l.flatMap pdl) (i * 26 + 1 + 1) [.int .i64 y] = (l.set i ⟨n, { f with y := y }⟩).flatMap pdl :=
  flat_set1 l hi (j := 2) (by omega) _ _ (by rw [h]; rfl)
theorem drop_bat {K : List Int} {i : Nat} (h : i < K.length) : K = K.take i ++ bat K i :: K.drop (i + 1) := by
  have h1 := bat_get h
  rw [List.getElem?_eq_getElem h] at h1
  have h2 : K[i] = bat K i := by simpa using h1
  rw [← h2, ← List.drop_eq_getElem_cons h, List.take_append_drop]
theorem take_bat {K : List Int} {i : Nat} (h : i < K.length) : K.take (i + 1) = K.take i ++ [bat K i] := by
  rw [List.take_add_one, bat_get h]; rfl
theorem results_lay {fn : Func} {tmps : Array Value} {k j : Nat} {w : World} {X : Nat} {lv yv u : Value} {p : Pi} {hi : Int} (hr : fn.results = #[.cell k 43, .tmp j]) (hp : tmps.getD k undef = .pointer (some ⟨X, 0, none⟩)) (hu : tmps.getD j undef = u) (hb : Blk w X (layl lv yv p hi) 43) :
    (results fn tmps).run Tryz.prog w = .ok (.tuple #[layv lv yv p hi, u]) w := results_two hr hp hu (run_loadLay hb)
set_option maxHeartbeats 8000000 in
theorem cont_any {l : List Nd} {w0 : World} {D : Nat} {kv : Value} {k : Nat} (hf : FormedT l) (hB : BoxOK l w0 D kv k) (hD : w0.heap.size ≤ D) (K : List Int) (a e : Nat) (hK : chainK l a K e) (hN : K.length ≤ 1000) (hka : l.length - a ≤ k) (c : Ct) (en : En) (W : World) (v : Value) (ps : List Pd)
    (hls : LS w0 D kv W v ps) (hps : ps.length + (e - a) ≤ 70000) (kb : Nat) (ka : Option Addr) (kc : Nat) (hkd : RI W kb (.slice ka K.length kc) K) :
    Calls Tryz.prog 45 #[.pointer (some ⟨D, 0, none⟩), .slice ka K.length kc, ctv c, env en] W (ContAns l w0 D kv k K c en W v ps) := by
  have HS := Lib.hid (small_box hf k)
  have HB := Lib.hid hB
  have HK := Lib.hid hK
  have hDW := hls.blk.lt
  have hsl : ∀ g, (Value.slice ka K.length kc).ownBlock = some g → g < W.heap.size := fun g hg => (hkd.lt g hg).2
  have HSL := Lib.hid hsl
  have HPS := Lib.hid hps
  have HKA := Lib.hid hka
  clear hf hB hK hsl hps hka
  obtain ⟨N, hNN⟩ : ∃ N, K.length = N := ⟨_, rfl⟩
  rw [hNN] at hN HSL hkd ⊢
  have HNN := Lib.hid hNN
  clear hNN
  obtain ⟨cw, ⟨cau, cn⟩, crtl⟩ := c
  obtain ⟨top, bot, flat⟩ := en
  obtain ⟨cur45, sz45, run45⟩ := mk113 N hN
  obtain ⟨cur3, sz3, run3⟩ := mk32 N hN
  obtain ⟨W3, hW3⟩ : ∃ W3, W3 = ((W.alloc (.cells #[.int .i64 cw, .bool cau, .int .i64 cn, .bool crtl] 82)).alloc (.cells #[.bool top, .bool bot, .bool flat] 131)).alloc (.cells #[.slice none 0 0, .slice none 0 0, .int .i64 0, .int .i64 0, .int .i64 0, .int .i64 0, .int .i64 0, .bool false, .int .i64 0] 43) := ⟨_, rfl⟩
  have k0 : Blk W3 W.heap.size [.int .i64 cw, .bool cau, .int .i64 cn, .bool crtl] 82 := by rw [hW3]; exact ((Blk.new W _ _).alloc _).alloc _
  have k1 : Blk W3 (W.heap.size + 1) [.bool top, .bool bot, .bool flat] 131 := by rw [hW3]; simpa using (Blk.new (W.alloc (.cells #[.int .i64 cw, .bool cau, .int .i64 cn, .bool crtl] 82)) [.bool top, .bool bot, .bool flat] 131).alloc (.cells #[.slice none 0 0, .slice none 0 0, .int .i64 0, .int .i64 0, .int .i64 0, .int .i64 0, .int .i64 0, .bool false, .int .i64 0] 43)
  have k2 : Blk W3 (W.heap.size + 1 + 1) zlay 43 := by rw [hW3]; simpa using Blk.new ((W.alloc (.cells #[.int .i64 cw, .bool cau, .int .i64 cn, .bool crtl] 82)).alloc (.cells #[.bool top, .bool bot, .bool flat] 131)) zlay 43
  have s3 : Seen W W3 := by rw [hW3]; exact (((Seen.refl W).alloc _).alloc _).alloc _
  have hs3 : Hid (W3.heap.size = W.heap.size + 1 + 1 + 1) := by rw [hW3]; simp [Hid]
  have ci0 : ∀ (wx : World) (u q : Value), Seen W3 wx → GR chl 35 8 wx (W.heap.size + 1 + 1 + 1) u [] → GR encI 3 1 wx (W.heap.size + 1 + 1 + 1) q [] → CI w0 D kv W v ⟨cw, ⟨cau, cn⟩, crtl⟩ ⟨top, bot, flat⟩ kb (.slice ka N kc) K wx v ps [] [] u q := fun wx u q hs h1 h2 =>
    ⟨hls.seen' (s3.trans hs), own_seen (s3.trans hs), h1, h2, k0.seen hs, k1.seen hs, k2.seen hs, RI.seen hkd (s3.trans hs)⟩
  clear k0 k1 k2 s3 hls hkd
  go_enter Tryz.func45, Tryz.ntmps45
  go_upto_region 1 with fail
  rw [← hW3]
  clear hW3
  go_cut [10, 11] (fun u q wx => (CI w0 D kv W v ⟨cw, ⟨cau, cn⟩, crtl⟩ ⟨top, bot, flat⟩ kb (.slice ka N kc) K wx v ps [] [] u q) : Value → Value → World → Prop)
  case first =>
    have acc := (Seen.refl W3).drew
    refine wp_region_held_drew (S := fun w' => Seen W3 w') (by kernel_rfl) acc (fun _ => ?_)
    refine ZT 0 (some 23) (.slice ka N kc) acc ?_
    simp only [Z1,Z2,Z3,Z4]
    refine ZT 1 (some 24) (.int .i64 (N : Int)) acc ?_
    simp only [Z1,Z2,Z3,Z4]
    refine ZT 3 (some 26) (.slice ka N kc) acc ?_
    simp only [Z1,Z2,Z3,Z4]
    refine ZT 4 (some 27) (.int .i64 (N : Int)) acc ?_
    simp only [Z1,Z2,Z3,Z4]
    refine wpAnyH_ready (rs := [2, 5]) (by kernel_rfl) (by simp) ?_
    refine aRun 2 (some 25) (.slice (some ⟨W3.drew.heap.size, 0, none⟩) 0 N) (by kernel_rfl) (by kernel_rfl) (by kernel_rfl) (run_by (Instr.makeSlice 165 (.int .i64 0) (.int .i64 (N : Int))) (by kernel_rfl) (run45 _)) (show Seen W3 (W3.drew.alloc (.cells cur45 35)) from Seen.alloc acc _) ?_ ?_
    · obtain ⟨wm1, hm1⟩ : ∃ x, x = W3.drew.alloc (.cells cur45 35) := ⟨_, rfl⟩
      rw [← hm1]
      have acc1 : Seen W3 wm1 := by rw [hm1]; exact Seen.alloc acc _
      have g45 : GR chl 35 8 wm1 (W.heap.size + 1 + 1 + 1) (.slice (some ⟨W3.drew.heap.size, 0, none⟩) 0 N) [] := by rw [hm1]; exact World.ownsRow_made _ _ _ (by have := Below.size acc; have := hs3.out; omega) (by unfold maxLen; omega) sz45
      clear hm1
      simp only [Z1,Z2,Z3,Z4]
      refine ZT 6 (some 10) (.slice (some ⟨W3.drew.heap.size, 0, none⟩) 0 N) acc1 ?_
      simp only [Z1,Z2,Z3,Z4]
      refine hRun 5 (some 28) (.slice (some ⟨wm1.heap.size, 0, none⟩) 0 N) (by kernel_rfl) (by kernel_rfl) (by kernel_rfl) (by kernel_rfl) (run_by (Instr.makeSlice 135 (.int .i64 0) (.int .i64 (N : Int))) (by kernel_rfl) (run3 _)) (show Seen W3 (wm1.alloc (.cells cur3 3)) from Seen.alloc acc1 _) ?_
      obtain ⟨wm2, hm2⟩ : ∃ x, x = wm1.alloc (.cells cur3 3) := ⟨_, rfl⟩
      rw [← hm2]
      have acc2 : Seen W3 wm2 := by rw [hm2]; exact Seen.alloc acc1 _
      have g3 : GR encI 3 1 wm2 (W.heap.size + 1 + 1 + 1) (.slice (some ⟨wm1.heap.size, 0, none⟩) 0 N) [] := by rw [hm2]; exact World.ownsRow_made _ _ _ (by have := Below.size acc1; have := hs3.out; omega) (by unfold maxLen; omega) sz3
      replace g45 := GR.seen g45 (show Seen wm1 wm2 by rw [hm2]; exact (Seen.refl _).alloc _)
      clear hm2
      simp only [Z1,Z2,Z3,Z4]
      refine ZT 7 (some 11) (.slice (some ⟨wm1.heap.size, 0, none⟩) 0 N) acc2 ?_
      simp only [Z1,Z2,Z3,Z4]
      refine wpAnyH_done (by kernel_rfl) ?_ _
      have hci := ci0 _ _ _ acc2 g45 g3
      go_wp2_with fail
      go_meet
      exact hci
    refine aRun 5 (some 28) (.slice (some ⟨W3.drew.heap.size, 0, none⟩) 0 N) (by kernel_rfl) (by kernel_rfl) (by kernel_rfl) (run_by (Instr.makeSlice 135 (.int .i64 0) (.int .i64 (N : Int))) (by kernel_rfl) (run3 _)) (show Seen W3 (W3.drew.alloc (.cells cur3 3)) from Seen.alloc acc _) ?_ ?_
    · obtain ⟨wm1, hm1⟩ : ∃ x, x = W3.drew.alloc (.cells cur3 3) := ⟨_, rfl⟩
      rw [← hm1]
      have acc1 : Seen W3 wm1 := by rw [hm1]; exact Seen.alloc acc _
      have g3 : GR encI 3 1 wm1 (W.heap.size + 1 + 1 + 1) (.slice (some ⟨W3.drew.heap.size, 0, none⟩) 0 N) [] := by rw [hm1]; exact World.ownsRow_made _ _ _ (by have := Below.size acc; have := hs3.out; omega) (by unfold maxLen; omega) sz3
      clear hm1
      simp only [Z1,Z2,Z3,Z4]
      refine hRun 2 (some 25) (.slice (some ⟨wm1.heap.size, 0, none⟩) 0 N) (by kernel_rfl) (by kernel_rfl) (by kernel_rfl) (by kernel_rfl) (run_by (Instr.makeSlice 165 (.int .i64 0) (.int .i64 (N : Int))) (by kernel_rfl) (run45 _)) (show Seen W3 (wm1.alloc (.cells cur45 35)) from Seen.alloc acc1 _) ?_
      obtain ⟨wm2, hm2⟩ : ∃ x, x = wm1.alloc (.cells cur45 35) := ⟨_, rfl⟩
      rw [← hm2]
      have acc2 : Seen W3 wm2 := by rw [hm2]; exact Seen.alloc acc1 _
      have g45 : GR chl 35 8 wm2 (W.heap.size + 1 + 1 + 1) (.slice (some ⟨wm1.heap.size, 0, none⟩) 0 N) [] := by rw [hm2]; exact World.ownsRow_made _ _ _ (by have := Below.size acc1; have := hs3.out; omega) (by unfold maxLen; omega) sz45
      replace g3 := GR.seen g3 (show Seen wm1 wm2 by rw [hm2]; exact (Seen.refl _).alloc _)
      clear hm2
      simp only [Z1,Z2,Z3,Z4]
      refine ZT 6 (some 10) (.slice (some ⟨wm1.heap.size, 0, none⟩) 0 N) acc2 ?_
      simp only [Z1,Z2,Z3,Z4]
      refine ZT 7 (some 11) (.slice (some ⟨W3.drew.heap.size, 0, none⟩) 0 N) acc2 ?_
      simp only [Z1,Z2,Z3,Z4]
      refine wpAnyH_done (by kernel_rfl) ?_ _
      have hci := ci0 _ _ _ acc2 g45 g3
      go_wp2_with fail
      go_meet
      exact hci
    exact AllReadyH.nil
  have hci0 := hcut
  clear hcut
  clear ci0 run45 run3 sz45 sz3
  have HC0 := Lib.hid hci0
  clear hci0 hs3
  go_wp2_with fail
  go_loopw [31, 10, 11] (fun x u q wr => ∃ (i : Nat) (bs : List Bo) (vi : Value), x = .int .i64 (i : Int) ∧ i ≤ N ∧ bs.length = i ∧ boxesO (boxO l k) ⟨cw, ⟨cau, cn⟩, crtl⟩ (K.take i) = some bs ∧ CI w0 D kv W v ⟨cw, ⟨cau, cn⟩, crtl⟩ ⟨top, bot, flat⟩ kb (.slice ka N kc) K wr vi (ps ++ layB (K.take i) bs) (bs.map fun b => b.f.ch) (plc ps.length bs) u q) (fun x _ _ _ => N - (intOf x).toNat)
  case atStart => exact ⟨0, [], v, rfl, Nat.zero_le _, rfl, rfl, by rw [List.take_zero]; show CI w0 D kv W v ⟨cw, ⟨cau, cn⟩, crtl⟩ ⟨top, bot, flat⟩ kb (.slice ka N kc) K _ v (ps ++ []) [] [] _ _; rw [List.append_nil]; exact HC0.out⟩
  case round =>
    obtain ⟨i, bs, vi, rfl, hi, hbs, hbo, hci⟩ := hrel
    clear HC0
    have HBO := Lib.hid hbo
    have HBS := Lib.hid hbs
    have HC := Lib.hid hci
    clear hbo hbs hci
    by_cases hlt : i < N
    · have hiK : i < K.length := by have := HNN.out; omega
      obtain ⟨m, hmx, hml, hme⟩ := chain_mem (by have h := HK.out; rw [drop_bat hiK] at h; exact h)
      have hmt := chain_tot HS.out (by have h := HK.out; rw [drop_bat hiK] at h; exact h) HBO.out m hmx
      obtain ⟨L, hL⟩ : ∃ L, (ps ++ layB (K.take i) bs).length = L := ⟨_, rfl⟩
      have hLt : L = ps.length + tot bs := by rw [← hL, List.length_append, layB_length (by have := HBS.out; rw [List.length_take]; omega)]
      have hel := end_low hml
      have hL7 : L + (endN l m - m) ≤ 70000 := by have := HPS.out; omega
      have hkm : l.length - m ≤ k := by have := HKA.out; omega
      have HLT := Lib.hid (And.intro hLt hmx)
      clear hLt hme hmt hmx
      have hi' : (i : Int) < (N : Int) := by omega
      obtain ⟨qs, hqs⟩ : ∃ qs, ps ++ layB (K.take i) bs = qs := ⟨_, rfl⟩
      rw [hqs] at HC hL
      have HQ := Lib.hid hqs
      clear hqs
      obtain ⟨av, cv, rfl, -, -⟩ := HC.out.ls.row.slice pdl_length zPd
      rw [hL] at HC
      obtain ⟨ad, cc, he, hz, _⟩ := HC.out.kd.slice
      simp only [Value.slice.injEq] at he
      obtain ⟨rfl, hn', rfl⟩ := he
      rw [← hn'] at hz
      obtain ⟨kbk, koff, rfl, hkc⟩ := hz.cells (by omega)
      have c1 := hkc i hlt
      rw [show bat K i = (m : Int) from HLT.out.2] at c1
      have d1 := HC.out.ls.blk.cell 1
      simp only [List.getElem?_cons_succ, List.getElem?_cons_zero] at d1
      have hLl : Hid (qs.length = L) := hL
      clear hkc hz hn' hL
      go_upto_region 7 with (first
        | (refine wpList_buildPd rfl (.tmp 45) rfl (m : Int) rfl ?_)
        | (refine wpList_buildPs rfl (.tmp 46) rfl ⟨(m : Int), zFr⟩ rfl ?_)
        | (at_builtin; refine wpList_pushM (t := 38) (e := 114) Tryz.underlying38 info61z rfl (by decide) pdl_length pdl_one (by decide) rfl (.tmp 44) (.tmp 47) rfl (D + 1) (.slice av L cv) qs ⟨(m : Int), zFr⟩ rfl rfl HC.out.ls.row (by have := hLl.out; omega) (Nat.succ_le_of_lt HC.out.ls.blk.lt) ?_
           intro g cap w1 hg hgrow hat
           obtain ⟨kd1, hl2, hm2⟩ := HC.out.ls.push hD hg hgrow hat
           have HL2 := Lib.hid hl2
           have HM2 := Lib.hid hm2
           have x0 := kd1.cell 1
           have x1 := kd1.free
           clear hl2 hm2 hg hgrow hat d1 c1))
      obtain ⟨W2, hW2⟩ : ∃ x, x = w1.setCell ⟨D, 1, none⟩ (.slice (some ⟨g, 0, none⟩) (qs.length + 1) cap) := ⟨_, rfl⟩
      rw [← hW2] at HL2 HM2 ⊢
      have HC2 := Lib.hid (HC.out.moves HL2.out HM2.out)
      clear hW2 x0 x1 kd1 HC
      have cr := HC2.out.kc.rules4 W2 (Seen.refl W2)
      have dz := HC2.out.ls.blk.cell 0
      go_upto_region 8 with (first
        | (go_at_call 20; refine (HB.out m ⟨cw, ⟨cau, cn⟩, crtl⟩ W2 _ _ hml hkm HL2.out (by have := hLl.out; rw [List.length_append, List.length_singleton]; omega)).mono ?_
           rintro e5 W5 ⟨F, a5, m5, p5, P, hi5, ok, v5, ps5, rfl, hl5, hm5, hans⟩
           have HC5 := Lib.hid (HC2.out.moves hl5 hm5)
           have HA5 := Lib.hid hans
           clear hl5 hm5 hans HC2 HL2 HM2 HB cr dz)
        | (refine wpList_storeF rfl (.tmp 15) (.tmp 56) rfl W5.heap.size zFr F rfl rfl ((blk_zero W5).alloc _) ?_
           intro W6 b6 t6
           have S6 := Lib.hid (Seen.turns (((Seen.refl W5).alloc _).alloc _) t6 (Nat.le_refl _))
           have z6 : Hid (Blk W6 (W5.heap.size + 1) zlay 43) := Blk.turns (by simpa using Blk.new (W5.alloc _) zlay 43) t6 (by omega)
           have B6 := Lib.hid b6
           clear b6 t6)
        | (refine wpList_storeL rfl (.tmp 16) (.tmp 57) rfl (W5.heap.size + 1) zlay (.slice none 0 0) (.slice a5 m5 p5) (by cases a5 <;> rfl) (by cases a5 <;> rfl) P hi5 rfl rfl rfl z6.out ?_
           intro W7 b7 t7
           have S7 := Lib.hid (Seen.turns S6.out t7 (by omega))
           have A7 := Lib.hid (B6.out.turns t7 (by omega))
           clear b7 t7 z6 B6 S6))
      have hxk : bat K i = (m : Int) := HLT.out.2
      have HXK := Lib.hid hxk
      have hKi := drop_bat hiK
      rw [hxk] at hKi
      have HKI := Lib.hid hKi
      clear hxk hKi
      cases ok
      · have CI7 := HC5.out.seen S7.out
        have hnone : boxO l k m ⟨cw, ⟨cau, cn⟩, crtl⟩ = none := by
          rcases HA5.out with ⟨h, _⟩ | ⟨b, _, h, _⟩
          · exact h
          · cases h
        have HNo : Hid (contO (boxO l k) K ⟨cw, ⟨cau, cn⟩, crtl⟩ ⟨top, bot, flat⟩ = none) := by
          unfold Hid contO
          rw [show boxesO (boxO l k) ⟨cw, ⟨cau, cn⟩, crtl⟩ K = none by rw [HKI.out]; exact boxesO_stop HBO.out hnone]
        have KZ := Lib.hid CI7.kz
        have hDW' : W.heap.size + 1 + 1 ≥ w0.heap.size := by omega
        clear hnone
        go_wp2_with (first
          | (refine wpList_storeL rfl (.tmp 8) (.tmp 61) rfl (W.heap.size + 1 + 1) zlay (.slice none 0 0) (.slice none 0 0) rfl rfl zPi 0 rfl rfl rfl KZ.out ?_; intro W8 b8 t8))
        refine bodyPost_ret (results_lay rfl rfl rfl b8) rfl ?_
        exact ⟨none, 0, 0, zPi, 0, false, v5, ps5, rfl, CI7.ls.turns KZ.out (by decide) (by decide) hDW' t8, CI7.mv.newer (t8.below CI7.mv.size (by omega)), .inl ⟨HNo.out, rfl⟩⟩
      · have hyes : ∃ b, boxO l k m ⟨cw, ⟨cau, cn⟩, crtl⟩ = some b ∧ F = b.f ∧ ps5 = (qs ++ [⟨(m : Int), zFr⟩]) ++ b.l := by
          rcases HA5.out with ⟨_, h⟩ | ⟨b, h1, _, h2, _, _, h3, _⟩
          · cases h
          · exact ⟨b, h1, h2, h3⟩
        obtain ⟨b, hb, rfl, hps5⟩ := hyes
        have HB5 := Lib.hid hb
        have hq5 : qs.length = L := hLl.out
        have hlen5 : ps5.length = L + 1 + b.l.length := by rw [hps5]; simp; omega
        obtain ⟨g5, cap5, rfl⟩ := HC5.out.ls.row.block (by omega)
        have hnm : (ps5.getD L zPd).n = (m : Int) := by
          rw [hps5, List.append_assoc, List.getD_eq_getElem?_getD, List.getElem?_append_right (by omega), hq5]
          simp
        have hset : ps5.set L ⟨(m : Int), b.f⟩ = qs ++ (⟨(m : Int), b.f⟩ :: b.l) := by
          rw [hps5, List.append_assoc, List.set_append_right _ _ (by omega), hq5]
          simp
        obtain ⟨⟨cs, hcs, hcl⟩, hl8, hm8⟩ := (HC5.out.ls.seen' S7.out.drew).stores hD rfl (o := L * 26 + 1) (vs := frl b.f) (ps' := ps5.set L ⟨(ps5.getD L zPd).n, b.f⟩) (by simp) (by rw [frl_length]; omega) (flat_frame ps5 (by omega) b.f)
        rw [hnm, hset] at hl8
        obtain ⟨n5, hn5⟩ : ∃ n5, ps5.length = n5 := ⟨_, rfl⟩
        rw [hn5] at hl8 hm8 hlen5
        have hCI8 := (HC5.out.seen S7.out.drew)
        rw [hn5] at hCI8
        have CI8 := Lib.hid (hCI8.moves hl8 hm8)
        have hLn : L < n5 := by omega
        have hd7 := hCI8.ls.blk
        have hA7 := A7.out.drew
        have hd8 := hl8.blk
        have hA8 := hA7.turns (turns_sets W7.drew g5 (L * 26 + 1) (frl b.f)) (blk_ne hA7 hcs (by decide))
        clear HA5 HC5 hCI8 hl8 hm8 hb hps5 hnm hset
        go_upto_region 10 with fail
        refine wp_region_held_drew (S := fun w' => Blk w' D [kv, .slice (some ⟨g5, 0, none⟩) n5 cap5] 85 ∧ Blk w' W5.heap.size (frl b.f) 37) (by kernel_rfl) ⟨hd7, hA7⟩ (fun _ => ?_)
        refine ZT 0 (some 62) (.pointer (some ⟨D, 0, none⟩)) ⟨hd7, hA7⟩ ?_
        simp only [Z1,Z2,Z3,Z4]
        refine ZT 1 (some 63) (.pointer (some ⟨D, 0, none⟩)) ⟨hd7, hA7⟩ ?_
        simp only [Z1,Z2,Z3,Z4]
        refine ZT 2 (some 64) (.pointer (some ⟨D, 1, none⟩)) ⟨hd7, hA7⟩ ?_
        simp only [Z1,Z2,Z3,Z4]
        refine ZU 3 (some 65) (.slice (some ⟨g5, 0, none⟩) n5 cap5) (fun _ hS => run_by (Instr.loadAt 38 (.pointer (some ⟨D, 1, none⟩))) (by kernel_rfl) (ldc48 (hS.1.cell 1))) ⟨hd7, hA7⟩ ?_
        simp only [Z1,Z2,Z3,Z4]
        refine ZT 4 (some 66) (.int .i64 (L : Int)) ⟨hd7, hA7⟩ ?_
        simp only [Z1,Z2,Z3,Z4]
        refine ZU 5 (some 67) (frv b.f) (fun _ hS => run_by (Instr.loadAt 37 (.pointer (some ⟨W5.heap.size, 0, none⟩))) (by kernel_rfl) (lda47 (vs := frl b.f) hS.2.range rfl)) ⟨hd7, hA7⟩ ?_
        simp only [Z1,Z2,Z3,Z4]
        refine ZU 6 (some 68) (.pointer (some ⟨g5, L * 26, none⟩)) (fun _ hS => run_by (Instr.indexAt 38 (.slice (some ⟨g5, 0, none⟩) n5 cap5) (.int .i64 (L : Int))) (by kernel_rfl) (run_index48 g5 L n5 cap5 hLn _)) ⟨hd7, hA7⟩ ?_
        simp only [Z1,Z2,Z3,Z4]
        refine ZT 7 (some 69) (.pointer (some ⟨g5, L * 26 + 1, none⟩)) ⟨hd7, hA7⟩ ?_
        simp only [Z1,Z2,Z3,Z4]
        refine ZK 8 none (run_skip_by (Instr.storeAt 37 (.pointer (some ⟨g5, L * 26 + 1, none⟩)) (frv b.f)) (by kernel_rfl) (stC (vs := frl b.f) hcs hcl infoF (frl_one b.f))) (⟨hd8, hA8⟩) ?_
        simp only [Act.put]
        refine wpAnyH_done (by kernel_rfl) ?_ _
        obtain ⟨W8, hW8⟩ : ∃ x, x = W7.drew.setCells g5 (L * 26 + 1) (frl b.f) := ⟨_, rfl⟩
        rw [← hW8] at CI8 hA8 ⊢
        have A8 := Lib.hid hA8
        have hb8 : Hid (W.heap.size + 1 + 1 + 1 ≤ W8.heap.size) := by have := CI8.out.kz.lt; unfold Hid; omega
        have hlp : Hid ((plc ps.length bs).length = i) := (plc_length _ _).trans HBS.out
        have hlc : Hid ((bs.map fun b => b.f.ch).length = i) := (List.length_map _).trans HBS.out
        clear hW8 hA8 hA7 hd7 hd8 hcs hcl A7 S7
        go_wp2_with (first
          | (at_builtin; refine wpList_pushM (t := 135) (e := 3) Tryz.underlying135 info3z rfl (by decide) (fun _ => rfl) encI_one (by decide) rfl (.tmp 70) (.tmp 72) rfl (W.heap.size + 1 + 1 + 1) u11 (plc ps.length bs) (L : Int) rfl rfl CI8.out.pl (by have := hlp.out; omega) hb8.out ?_
             intro g9 cap9 w9 hg9 hgr9 _
             have CI9 := Lib.hid (CI8.out.pushP hD hDW hgr9 hg9 HSL.out)
             have A9 := blk_grown CI8.out.pl hgr9 A8.out (by decide)
             have hb9 : Hid (W.heap.size + 1 + 1 + 1 ≤ w9.heap.size) := by have := CI9.out.kz.lt; unfold Hid; omega
             have c17 : w9.cell? ⟨W5.heap.size, 17, none⟩ = some (.int .i64 b.f.ch.top.p) := A9.cell 17
             have c18 : w9.cell? ⟨W5.heap.size, 18, none⟩ = some (.int .i64 b.f.ch.top.n) := A9.cell 18
             have c19 : w9.cell? ⟨W5.heap.size, 19, none⟩ = some (.int .i64 b.f.ch.bot.p) := A9.cell 19
             have c20 : w9.cell? ⟨W5.heap.size, 20, none⟩ = some (.int .i64 b.f.ch.bot.n) := A9.cell 20
             have c21 : w9.cell? ⟨W5.heap.size, 21, none⟩ = some (.int .i64 b.f.ch.inn.p) := A9.cell 21
             have c22 : w9.cell? ⟨W5.heap.size, 22, none⟩ = some (.int .i64 b.f.ch.inn.n) := A9.cell 22
             have c23 : w9.cell? ⟨W5.heap.size, 23, none⟩ = some (.bool b.f.ch.thr) := A9.cell 23
             have c24 : w9.cell? ⟨W5.heap.size, 24, none⟩ = some (.int .i64 b.f.ch.high) := A9.cell 24
             clear A9 CI8 hg9 hgr9)
          | (at_builtin; refine wpList_pushM (t := 165) (e := 35) Tryz.underlying165 info45z rfl (by decide) chl_length chl_one (by decide) rfl (.tmp 74) (.tmp 77) rfl (W.heap.size + 1 + 1 + 1) u10 (bs.map fun b => b.f.ch) b.f.ch rfl rfl CI9.out.ch (by have := hlc.out; omega) hb9.out ?_
             intro g10 cap10 w10 hg10 hgr10 _
             have CI10 := Lib.hid (CI9.out.pushC hD hDW hgr10 hg10)
             clear CI9 hg10 hgr10 c17 c18 c19 c20 c21 c22 c23 c24))
        go_roundw
        case rel =>
          refine ⟨i + 1, bs ++ [b], .slice (some ⟨g5, 0, none⟩) n5 cap5, by go_num, by omega, by rw [List.length_append, HBS.out]; rfl, ?_, ?_⟩
          · rw [take_bat hiK, HXK.out]
            exact boxesO_snoc HBO.out HB5.out
          · have e1 : ps ++ layB (K.take (i + 1)) (bs ++ [b]) = qs ++ (⟨(m : Int), b.f⟩ :: b.l) := by
              rw [take_bat hiK, HXK.out, layB_snoc (by rw [List.length_take, HBS.out]; omega), ← List.append_assoc, HQ.out]
            have e2 : plc ps.length (bs ++ [b]) = plc ps.length bs ++ [(L : Int)] := by rw [plc_snoc, HLT.out.1]
            rw [e1, e2, List.map_append]
            have h := CI10.out
            rw [List.length_map] at h
            exact h
        case measure => simp [intOf]; omega
    · obtain rfl : i = N := by omega
      have hKt : K.take i = K := List.take_of_length_le (by have := HNN.out; omega)
      rw [hKt] at HBO HC
      clear hi hKt hlt
      obtain ⟨ac, cc, hu, hcs, _⟩ := HC.out.ch.slice chl_length zeroC
      rw [List.length_map, HBS.out] at hu hcs
      subst hu
      have HCS := Lib.hid hcs
      clear hcs
      have c0 : wr.cell? ⟨W.heap.size + 1, 0, none⟩ = some (.bool top) := HC.out.ke.cell 0
      have hll : Hid ((bs.map fun b => b.f.ch).length = i) := (List.length_map _).trans HBS.out
      obtain ⟨chs, hchs⟩ : ∃ chs, (bs.map fun b => b.f.ch) = chs := ⟨_, rfl⟩
      rw [hchs] at HC HCS hll
      have SK := Lib.hid (stack_any ac i cc chs top wr HCS.out hN)
      have HCH := Lib.hid hchs
      clear hchs
      have hi' : ¬ (i : Int) < (i : Int) := by omega
      cases hq : stkO chs top with
      | none =>
        have hst := stk_none hq
        rw [hst.1, hst.2] at SK
        have HNo : Hid (contO (boxO l k) K ⟨cw, ⟨cau, cn⟩, crtl⟩ ⟨top, bot, flat⟩ = none) := by
          unfold Hid contO
          rw [HBO.out]
          simp only
          rw [HCH.out, hq]
        clear hst hq
        go_wp2_with (first
          | (go_at_call 70; refine SK.out.mono ?_; clear SK; rintro e5 W5 ⟨yv, rfl, hry, hs5⟩; obtain ⟨ay, cy, rfl, -, -⟩ := RP.slice hry; have S5 := Lib.hid hs5; clear hs5 hry c0
             have KZ := Lib.hid (HC.out.kz.seen S5.out))
          | (refine wpList_storeL rfl (.tmp 8) (.tmp 89) rfl (W.heap.size + 1 + 1) zlay (.slice none 0 0) (.slice none 0 0) rfl rfl zPi 0 rfl rfl rfl (KZ.out.alloc _) ?_; intro W8 b8 t8))
        refine bodyPost_ret (results_lay rfl rfl rfl b8) rfl ?_
        have CI7 := fun o => HC.out.seen (S5.out.alloc o)
        exact ⟨none, 0, 0, zPi, 0, false, vi, _, rfl, (CI7 _).ls.turns (KZ.out.alloc _) (by decide) (by decide) (by omega) t8, (CI7 _).mv.newer (t8.below (CI7 _).mv.size (by omega)), .inl ⟨HNo.out, rfl⟩⟩
      | some q =>
        have hst := stk_some hq
        rw [hst.1, hst.2] at SK
        have hyl : q.y.length = i := by
          have := runP_len hq
          rw [hll.out] at this
          simpa [openP] using this
        have HQY := Lib.hid hyl
        have HNE : Hid (contO (boxO l k) K ⟨cw, ⟨cau, cn⟩, crtl⟩ ⟨top, bot, flat⟩ = if hgB q ⟨top, bot, flat⟩ then some ⟨q, hgN q ⟨top, bot, flat⟩, layY K bs q.y⟩ else none) := by
          unfold Hid contO
          rw [HBO.out]
          simp only
          rw [HCH.out, hq]
        obtain ⟨y, ed, ⟨tp, tn⟩, ⟨up, un⟩, att⟩ := q
        clear hst hq
        simp only at hyl HQY
        go_upto_region 15 with (first
          | (go_at_call 70; refine SK.out.mono ?_; clear SK; rintro e5 W5 ⟨yv, rfl, hry, hs5⟩; obtain ⟨ay, cy, rfl, hzy, -⟩ := RP.slice hry; have S5 := Lib.hid hs5; have RY := Lib.hid hry; clear hs5 hry c0 hzy))
        obtain ⟨W6, hW6⟩ : ∃ x, x = W5.alloc (.cells #[.slice ay i cy, .int .i64 ed, .int .i64 tp, .int .i64 tn, .int .i64 up, .int .i64 un, .bool att] 41) := ⟨_, rfl⟩
        have s6 : Seen W5 W6 := by rw [hW6]; exact (Seen.refl _).alloc _
        have kp : Blk W6 W5.heap.size [.slice ay i cy, .int .i64 ed, .int .i64 tp, .int .i64 tn, .int .i64 up, .int .i64 un, .bool att] 41 := by rw [hW6]; exact Blk.new _ _ _
        rw [← hW6]
        clear hW6
        have HC6 := Lib.hid (HC.out.seen (S5.out.trans s6))
        have hry' := RY.out
        rw [hyl] at hry'
        have RY6 : Hid (RP W6 W.heap.size (.slice ay i cy) y) := RP.seen (row_more hry' HC.out.mv.size) s6
        clear hry'
        have KP := Lib.hid kp
        have cp := kp.cell 0
        have hW5 : Hid (W.heap.size ≤ W5.heap.size) := Nat.le_trans HC.out.mv.size S5.out.size
        simp only [List.getElem?_cons_zero] at cp
        clear HC RY kp s6 S5
        have HBL := HBS.out
        go_wp2_with fail
        go_loopw [93] (fun x w2 => ∃ j : Nat, x = .int .i64 (j : Int) ∧ j ≤ i ∧ CI w0 D kv W v ⟨cw, ⟨cau, cn⟩, crtl⟩ ⟨top, bot, flat⟩ kb (.slice ka i kc) K w2 vi (ps ++ layG K bs (y.take j)) chs (plc ps.length bs) (.slice ac i cc) u11 ∧ Blk w2 W5.heap.size [.slice ay i cy, .int .i64 ed, .int .i64 tp, .int .i64 tn, .int .i64 up, .int .i64 un, .bool att] 41 ∧ RP w2 W.heap.size (.slice ay i cy) y) (fun x _ => i - (intOf x).toNat)
        case atStart => exact ⟨0, rfl, Nat.zero_le _, by rw [List.take_zero, layG_nil]; exact HC6.out, KP.out, RY6.out⟩
        case round =>
          obtain ⟨j, rfl, hj, hci, hkp, hry⟩ := hrel
          clear HC6 KP RY6 cp
          by_cases hlt : j < i
          · have hji : (j : Int) < (i : Int) := by omega
            obtain ⟨ad, cy2, he, hz, _⟩ := RP.slice hry
            rw [hyl] at he hz
            simp only [Value.slice.injEq] at he
            obtain ⟨rfl, -, rfl⟩ := he
            obtain ⟨yb, yo, rfl, hyc⟩ := hz.2 (by omega)
            have c1 := hyc j hlt
            obtain ⟨gp, capp, hu⟩ := hci.pl.block (by rw [plc_length]; omega)
            obtain ⟨pk, hpk⟩ : ∃ pk, ps.length + tot (bs.take j) = pk := ⟨_, rfl⟩
            have hp7 : wr.drew.cell? ⟨gp, 0 + j, none⟩ = some (.int .i64 (pk : Int)) := by
              have h1 := hci.pl
              rw [hu] at h1
              have h2 := World.ownsRow.cellAt h1 j (by rw [plc_length]; omega)
              have h3 := fl_at (enc := encI) (size := 1) (fun _ => rfl) (plc ps.length bs) 0 (i := j) (by rw [plc_length]; omega) (j := 0) (by omega)
              rw [Nat.mul_one, Nat.add_zero, plc_at ps.length bs (by omega), hpk] at h3
              rw [Nat.zero_add]
              exact h2.trans h3
            rw [plc_length, HBL] at hu
            obtain ⟨nn, ff, hx1, hx2, hx3⟩ := layG_step (K := K) (bs := bs) (ys := y) (k := j) (by rw [HNN.out, HBL]) (by rw [hyl, HBL]) (by omega)
            have hlenG : pk < (ps ++ layG K bs (y.take j)).length := by rw [List.length_append]; omega
            obtain ⟨g2, cap2, hv2⟩ := hci.ls.row.block (by omega)
            have hgd : (ps ++ layG K bs (y.take j)).getD pk zPd = ⟨nn, ff⟩ := by
              rw [← hpk, List.getD_eq_getElem?_getD, List.getElem?_append_right (by omega), Nat.add_sub_cancel_left, ← List.getD_eq_getElem?_getD]
              exact hx2
            have hst : (ps ++ layG K bs (y.take j)).set pk ⟨nn, { ff with y := y.getD j 0 }⟩ = ps ++ layG K bs (y.take (j + 1)) := by
              rw [← hpk, List.set_append_right _ _ (by omega), Nat.add_sub_cancel_left, hx3]
            obtain ⟨n2, hn2⟩ : ∃ n2, (ps ++ layG K bs (y.take j)).length = n2 := ⟨_, rfl⟩
            have hpkn : pk < n2 := by omega
            obtain ⟨yk, hyk⟩ : ∃ yk, y.getD j 0 = yk := ⟨_, rfl⟩
            rw [hyk] at hst
            rw [show zat y j = yk from hyk] at c1
            rw [hn2] at hv2
            subst hv2 hu
            have hE := flat_y (ps ++ layG K bs (y.take j)) hlenG hgd yk
            rw [hst] at hE
            have hln : (ps ++ layG K bs (y.take (j + 1))).length = (ps ++ layG K bs (y.take j)).length := by rw [← hst, List.length_set]
            obtain ⟨⟨cs, hcs, hcl⟩, hl8, hm8⟩ := (hci.ls.seen' (Seen.refl wr).drew).stores hD rfl (o := pk * 26 + 1 + 1) (vs := [.int .i64 yk]) hln (by simp; omega) hE
            obtain ⟨cu, hcu⟩ : ∃ cu, cs[pk * 26 + 1 + 1]? = some cu := ⟨_, List.getElem?_eq_getElem (by have h := hcl; simp at h; omega)⟩
            have CI8 := Lib.hid ((hci.seen (Seen.refl wr).drew).moves hl8 hm8)
            have KP8 := Lib.hid (Blk.moves (show Blk wr.drew W5.heap.size _ 41 from hkp) (hci.ls.seen' (Seen.refl wr).drew) (by decide) (by decide) hm8)
            have RY8 : Hid (RP _ W.heap.size (.slice (some ⟨yb, yo, none⟩) i cy) y) := row_moves (RP.seen hry (Seen.refl wr).drew) (hci.ls.seen' (Seen.refl wr).drew) (by decide) (by decide) hm8
            have hd7 : Blk wr.drew D [kv, .slice (some ⟨g2, 0, none⟩) n2 cap2] 85 := hci.ls.blk
            have hd8 := hl8.blk
            have hp8 : (wr.drew.setCells g2 (pk * 26 + 1 + 1) [.int .i64 yk]).cell? ⟨gp, 0 + j, none⟩ = some (.int .i64 (pk : Int)) := by
              have hne : gp ≠ g2 := fun e => by
                have h1 := hci.pl.2
                rcases h1 with ⟨h1, _⟩ | ⟨gg, _, cur, h1, _, hh, _⟩
                · cases h1
                · simp at h1
                  obtain ⟨rfl, _⟩ := h1
                  subst e
                  have h5 : wr.drew.heap[gp]? = some (.cells cs.toArray 114) := hcs
                  have h6 : wr.drew.heap[gp]? = some (.cells cur 3 (0, 0)) := hh
                  rw [h5] at h6
                  simp at h6
              exact (World.cell?_setCell_far _ _ _ _ (by simpa using Ne.symm hne)).trans hp7
            have hpk : pk < n2 := hpkn
            have hjp : j < i := hlt
            clear hl8 hm8 hx1 hx2 hx3 hlenG hgd hst hn2 hE hln hcl hyc hz hci hkp hry hpkn hyk
            go_upto_region 20 with fail
            refine wp_region_held_drew (S := fun w' => Blk w' D [kv, .slice (some ⟨g2, 0, none⟩) n2 cap2] 85 ∧ w'.cell? ⟨gp, 0 + j, none⟩ = some (.int .i64 (pk : Int))) (by kernel_rfl) ⟨hd7, hp7⟩ (fun _ => ?_)
            refine ZT 0 (some 98) (.pointer (some ⟨D, 0, none⟩)) ⟨hd7, hp7⟩ ?_
            simp only [Z1,Z2,Z3,Z4]
            refine ZT 1 (some 99) (.pointer (some ⟨D, 0, none⟩)) ⟨hd7, hp7⟩ ?_
            simp only [Z1,Z2,Z3,Z4]
            refine ZT 2 (some 100) (.pointer (some ⟨D, 1, none⟩)) ⟨hd7, hp7⟩ ?_
            simp only [Z1,Z2,Z3,Z4]
            refine ZU 3 (some 101) (.slice (some ⟨g2, 0, none⟩) n2 cap2) (fun _ hS => run_by (Instr.loadAt 38 (.pointer (some ⟨D, 1, none⟩))) (by kernel_rfl) (ldc48 (hS.1.cell 1))) ⟨hd7, hp7⟩ ?_
            simp only [Z1,Z2,Z3,Z4]
            refine ZT 4 (some 102) (.slice (some ⟨gp, 0, none⟩) i capp) ⟨hd7, hp7⟩ ?_
            simp only [Z1,Z2,Z3,Z4]
            refine ZT 5 (some 103) (.int .i64 (j : Int)) ⟨hd7, hp7⟩ ?_
            simp only [Z1,Z2,Z3,Z4]
            refine ZU 6 (some 104) (.pointer (some ⟨gp, 0 + j, none⟩)) (fun _ hS => run_by (Instr.indexAt 135 (.slice (some ⟨gp, 0, none⟩) i capp) (.int .i64 (j : Int))) (by kernel_rfl) (run_index32 gp 0 j i capp hjp _)) ⟨hd7, hp7⟩ ?_
            simp only [Z1,Z2,Z3,Z4]
            refine ZU 7 (some 105) (.int .i64 (pk : Int)) (fun _ hS => run_by (Instr.loadAt 3 (.pointer (some ⟨gp, 0 + j, none⟩))) (by kernel_rfl) (ldc3 hS.2)) ⟨hd7, hp7⟩ ?_
            simp only [Z1,Z2,Z3,Z4]
            refine ZT 8 (some 106) (.int .i64 yk) ⟨hd7, hp7⟩ ?_
            simp only [Z1,Z2,Z3,Z4]
            refine ZU 9 (some 107) (.pointer (some ⟨g2, pk * 26, none⟩)) (fun _ hS => run_by (Instr.indexAt 38 (.slice (some ⟨g2, 0, none⟩) n2 cap2) (.int .i64 (pk : Int))) (by kernel_rfl) (run_index48 g2 pk n2 cap2 hpk _)) ⟨hd7, hp7⟩ ?_
            simp only [Z1,Z2,Z3,Z4]
            refine ZT 10 (some 108) (.pointer (some ⟨g2, pk * 26 + 1, none⟩)) ⟨hd7, hp7⟩ ?_
            simp only [Z1,Z2,Z3,Z4]
            refine ZT 11 (some 109) (.pointer (some ⟨g2, pk * 26 + 1 + 1, none⟩)) ⟨hd7, hp7⟩ ?_
            simp only [Z1,Z2,Z3,Z4]
            refine ZK 12 none (run_skip_by (Instr.storeAt 2 (.pointer (some ⟨g2, pk * 26 + 1 + 1, none⟩)) (.int .i64 yk)) (by kernel_rfl) (st2 yk hcs hcu)) (⟨hd8, hp8⟩) ?_
            simp only [Act.put]
            refine wpAnyH_done (by kernel_rfl) ?_ _
            obtain ⟨W8, hW8⟩ : ∃ x, x = wr.drew.setCells g2 (pk * 26 + 1 + 1) [.int .i64 yk] := ⟨_, rfl⟩
            rw [show (wr.drew.setCell ⟨g2, pk * 26 + 1 + 1, none⟩ (.int .i64 yk)) = wr.drew.setCells g2 (pk * 26 + 1 + 1) [.int .i64 yk] from rfl]
            rw [← hW8] at CI8 KP8 RY8 ⊢
            clear hW8 hd7 hd8 hp7 hp8 hcs hcu c1
            go_wp2_with fail
            go_roundw
            case rel => exact ⟨j + 1, by go_num, by omega, CI8.out, KP8.out, RY8.out⟩
            case measure => simp [intOf]; omega
          · obtain rfl : i = j := by omega
            have hyt : y.take i = y := List.take_of_length_le (by omega)
            rw [hyt, layG_all (by rw [hyl, HBL])] at hci
            have HO := fun w => heightOf_any (.slice ay i cy) ⟨y, ed, ⟨tp, tn⟩, ⟨up, un⟩, att⟩ ⟨top, bot, flat⟩ w
            obtain ⟨hn, hhn⟩ : ∃ x, hgN ⟨y, ed, ⟨tp, tn⟩, ⟨up, un⟩, att⟩ ⟨top, bot, flat⟩ = x := ⟨_, rfl⟩
            obtain ⟨hb, hhb⟩ : ∃ x, hgB ⟨y, ed, ⟨tp, tn⟩, ⟨up, un⟩, att⟩ ⟨top, bot, flat⟩ = x := ⟨_, rfl⟩
            rw [hhn, hhb] at HO HNE
            have HCI := Lib.hid hci
            have HKP := Lib.hid hkp
            have HRY := Lib.hid hry
            have c0 : wr.cell? ⟨W5.heap.size, 0, none⟩ = some (.slice ay i cy) := hkp.cell 0
            have c1 : wr.cell? ⟨W5.heap.size, 1, none⟩ = some (.int .i64 ed) := hkp.cell 1
            have c2 : wr.cell? ⟨W5.heap.size, 2, none⟩ = some (.int .i64 tp) := hkp.cell 2
            have c3 : wr.cell? ⟨W5.heap.size, 3, none⟩ = some (.int .i64 tn) := hkp.cell 3
            have c4 : wr.cell? ⟨W5.heap.size, 4, none⟩ = some (.int .i64 up) := hkp.cell 4
            have c5 : wr.cell? ⟨W5.heap.size, 5, none⟩ = some (.int .i64 un) := hkp.cell 5
            have c6 : wr.cell? ⟨W5.heap.size, 6, none⟩ = some (.bool att) := hkp.cell 6
            have e0 : wr.cell? ⟨W.heap.size + 1, 0, none⟩ = some (.bool top) := hci.ke.cell 0
            have e1 : wr.cell? ⟨W.heap.size + 1, 1, none⟩ = some (.bool bot) := hci.ke.cell 1
            have e2 : wr.cell? ⟨W.heap.size + 1, 2, none⟩ = some (.bool flat) := hci.ke.cell 2
            have HLT := Lib.hid hlt
            have hno : ¬ (i : Int) < (i : Int) := by omega
            have HYL := Lib.hid hyl
            clear hci hkp hry hyt hhn hhb hlt hj hyl HBL
            go_wp2_with (first
              | (go_at_call 71; refine (HO _).mono ?_; clear HO; rintro e8 W8 ⟨rfl, hs8⟩; have S8 := Lib.hid hs8
                 replace c0 := hs8.cell c0
                 replace c1 := hs8.cell c1
                 replace c2 := hs8.cell c2
                 replace c3 := hs8.cell c3
                 replace c4 := hs8.cell c4
                 replace c5 := hs8.cell c5
                 replace c6 := hs8.cell c6
                 have CI8 := Lib.hid (HCI.out.seen hs8)
                 clear hs8 e0 e1 e2)
              | (refine wpList_storeL rfl (.tmp 8) (.tmp 119) rfl (W.heap.size + 1 + 1) zlay (.slice none 0 0) (.slice ay i cy) rfl (by cases ay <;> rfl) ⟨y, ed, ⟨tp, tn⟩, ⟨up, un⟩, att⟩ hn rfl rfl rfl CI8.out.kz ?_; intro W9 b9 t9))
            refine bodyPost_ret (results_lay rfl rfl rfl b9) rfl ?_
            have hRP : RP W9 W.heap.size (.slice ay i cy) y := ownsRow_keeps (RP.seen HRY.out S8.out) fun gg hg => t9.block gg ((RP.seen HRY.out S8.out).lt gg hg).2 fun e => type_apart (RP.seen HRY.out S8.out) CI8.out.kz (by decide) (e ▸ hg)
            refine ⟨ay, i, cy, ⟨y, ed, ⟨tp, tn⟩, ⟨up, un⟩, att⟩, hn, hb, vi, _, rfl, CI8.out.ls.turns CI8.out.kz (by decide) (by decide) (by omega) t9, CI8.out.mv.newer (t9.below CI8.out.mv.size (by omega)), ?_⟩
            cases hb
            · exact .inl ⟨HNE.out, rfl⟩
            · exact .inr ⟨⟨⟨y, ed, ⟨tp, tn⟩, ⟨up, un⟩, att⟩, hn, layY K bs y⟩, HNE.out, rfl, rfl, rfl, rfl, HYL.out.symm, hRP⟩
end Go.Proofs.YtngeaigkafamiaaGreat

