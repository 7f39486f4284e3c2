/- Texts of the proof, merged: FR5. -/
import Derived.Test.YtngeaigkafamiaaGreatM25
import Derived.Test.YtngeaigkafamiaaGreatM26
namespace Go.Proofs.YtngeaigkafamiaaGreat
open Go.ChangeShapes Go.WideShapes Go.ChangeAt Go.RowKit
set_option maxRecDepth 100000
theorem range_two {w : World} {X o : Nat} {u v : Value} (h : w.cell? ⟨X, o, none⟩ = some u ∧ w.cell? ⟨X, o + 1, none⟩ = some v) : w.rangeAt X o [u, v] := fun j z hj => by
  match j, hj with
  | 0, hj => simp at hj; subst hj; exact h.1
  | 1, hj => simp at hj; subst hj; exact h.2
  | j + 2, hj => simp at hj
theorem range_bord {w : World} {X : Nat} {s : Sty} (h : Hs w X s) (hf : Full s) : w.rangeAt X 38 [.int .i64 (bat s.bord 0), .int .i64 (bat s.bord 1), .int .i64 (bat s.bord 2), .int .i64 (bat s.bord 3)] := fun j z hj => by
  match j, hj with
  | 0, hj => simp at hj; subst hj; exact rdBord h hf (i := 0) (by decide) rfl
  | 1, hj => simp at hj; subst hj; exact rdBord h hf (i := 1) (by decide) rfl
  | 2, hj => simp at hj; subst hj; exact rdBord h hf (i := 2) (by decide) rfl
  | 3, hj => simp at hj; subst hj; exact rdBord h hf (i := 3) (by decide) rfl
  | j + 4, hj => simp at hj
def pil5 (yv : Value) (p : Pi) : List Value := [yv, .int .i64 p.edge, .int .i64 p.top.p, .int .i64 p.top.n, .int .i64 p.cur.p, .int .i64 p.cur.n, .bool p.att]
theorem four_one {a b c d : Int} : ∀ u ∈ ([.int .i64 a, .int .i64 b, .int .i64 c, .int .i64 d] : List Value), u.oneCell' = true := by
  intro u hu
  simp only [List.mem_cons, List.not_mem_nil, or_false] at hu
  rcases hu with rfl | rfl | rfl | rfl <;> rfl
def padTo (p : S4) (j : Nat) : I4 := ⟨if 0 < j then p.a.n else 0, if 1 < j then p.b.n else 0, if 2 < j then p.c.n else 0, if 3 < j then p.d.n else 0⟩
theorem inn_au (h : Hts) : (innS h).au = h.own.au := by unfold innS; cases hq : h.own.au <;> simp [hq]
theorem inn_n (h : Hts) : (innS h).n = if h.own.au then h.own.n else clampI h.own.n h.lo h.hi := by
  unfold innS outN orV
  cases h.own.au <;> simp
set_option maxHeartbeats 32000000 in
theorem rbox_step {l : List Nd} {w0 : World} {b off N cp k : Nat} (hf : FormedT l) (hN : N ≤ 1000) (hNS : NS w0 (some ⟨b, off, none⟩) N l)
    (hI : ∀ (n : Nat), n < N → N - (n + 1) ≤ k → ∀ (x : Int) (h : Sz) (ot ob fl : Bool), rngB ⟨x, h, (styAt l n).rtl⟩ = true → ∀ W, Seen w0 W →
      Calls Tryz.prog 29 #[.slice (some ⟨b, off, none⟩) N cp, .int .i64 (n : Int), .int .i64 (-1), .int .i64 x, .agg #[.bool h.au, .int .i64 h.n], .bool ot, .bool ob] W (RInAns l k (flowV l n) ⟨x, h, (styAt l n).rtl⟩ ⟨ot, ob, fl⟩ W)) :
    RBoxOK l w0 (some ⟨b, off, none⟩) N cp (k + 1) := by
  intro n hn hk hmd x h rtl hr W hs
  have hlen : l.length = N := hNS.1
  have hnl : n < l.length := by omega
  have HSW := Lib.hid hs
  have hsf : formedB (styAt l n) = true := by have h1 := (hf.2 n hnl).2; rwa [show (nd l n).s = styAt l n by unfold styAt; rw [inB_nat hnl]; rfl] at h1
  have hx0 : 0 ≤ x := (rng_parts hr).1
  have HMD : Hid (∀ w', Seen w0 w' → Calls Tryz.prog 21 #[.slice (some ⟨b, off, none⟩) N cp, .int .i64 (n : Int)] w' fun e w'' => e = .returned (.bool true) ∧ w'' = w') := fun w' h' => by
    have := refMade_any (some ⟨b, off, none⟩) N cp l n w' (hNS.seen h') hf (by omega)
    rw [inB_nat (by omega), Bool.true_and, hmd] at this
    exact this
  have HMAY : Hid (∀ w', Calls Tryz.prog 22 #[.int .i64 x, .agg #[.bool h.au, .int .i64 h.n]] w' fun e w'' => e = .returned (.bool true) ∧ Seen w' w'') := fun w' => by
    have := may_any x h rtl w'
    rwa [hr] at this
  have HKN : Hid (∀ w', Seen w0 w' → Calls Tryz.prog 23 #[.slice (some ⟨b, off, none⟩) N cp, .int .i64 (n : Int), .int .i64 x, .agg #[.bool h.au, .int .i64 h.n]] w' fun e w'' => e = .returned (.tuple #[knv (knO l n x h), .bool (knB (styAt l n) x h)]) ∧ Seen w' w'') := fun w' h' => knownOf_any _ N cp n x h w' (hNS.seen h') hf (by omega) hn
  obtain ⟨b', off', e0, hats⟩ := hNS.ats (by omega)
  cases e0
  have AN := Lib.hid (hats n hn)
  have HOK := Lib.hid (show okX (styAt l n) x h rtl = (knB (styAt l n) x h && (sumB (arR (styAt l n) x) && (ofB (lat (styAt l n).lens 4).k (lat (styAt l n).lens 4).n x true && ((ofB (lat (styAt l n).lens 6).k (lat (styAt l n).lens 6).n x true && ofB (lat (styAt l n).lens 7).k (lat (styAt l n).lens 7).n x true) && solB (bxR (styAt l n) x rtl))))) from rfl)
  have HNO : Hid (okX (styAt l n) x h rtl = false → boxO l (k + 1) n ⟨x, h, rtl⟩ = none) := fun hh => box_no hsf hx0 hh k
  have HYES : Hid (okX (styAt l n) x h rtl = true → boxO l (k + 1) n ⟨x, h, rtl⟩ = match contO (boxO l k) (flowV l n) ⟨(solO (bxR (styAt l n) x rtl)).w, innS (knO l n x h).ht, (styAt l n).rtl⟩ (enR (knO l n x h)) with
      | none => none
      | some a => if chB (frR (knO l n x h) (solO (bxR (styAt l n) x rtl)) (bd4 (styAt l n)) (outN (knO l n x h).ht a.hi)) then
          some ⟨{ frR (knO l n x h) (solO (bxR (styAt l n) x rtl)) (bd4 (styAt l n)) (outN (knO l n x h).ht a.hi) with ch := chO (frR (knO l n x h) (solO (bxR (styAt l n) x rtl)) (bd4 (styAt l n)) (outN (knO l n x h).ht a.hi)) a.p (enR (knO l n x h)) (knO l n x h).ht }, a.p, a.hi, a.l⟩
        else none) := fun hh => box_yes hsf hx0 hh k
  have HIN : Hid (okX (styAt l n) x h rtl = true → ∀ w', Seen w0 w' → Calls Tryz.prog 29 #[.slice (some ⟨b, off, none⟩) N cp, .int .i64 (n : Int), .int .i64 (-1), .int .i64 (solO (bxR (styAt l n) x rtl)).w, .agg #[.bool (innS (knO l n x h).ht).au, .int .i64 (innS (knO l n x h).ht).n], .bool (enR (knO l n x h)).top, .bool (enR (knO l n x h)).bot] w' (RInAns l k (flowV l n) ⟨(solO (bxR (styAt l n) x rtl)).w, innS (knO l n x h).ht, (styAt l n).rtl⟩ (enR (knO l n x h)) w')) := fun hh w' h' =>
    hI n hn (by omega) _ _ _ _ _ (rng_box hsf hr hh) w' h'
  have HEND : Hid (∀ (o : O3) (hi : Int) (c : Ct) (a : La), contO (boxO l k) (flowV l n) c (enR (knO l n x h)) = some a → ∀ {K : Kn}, knO l n x h = K → ∀ {H up : Int}, outN K.ht hi = H → sumN [(bd4 (styAt l n)).a, K.pd.a.n, K.pd.c.n, (bd4 (styAt l n)).c] = up →
    chB (frR K o (bd4 (styAt l n)) H) = (sumB [(bd4 (styAt l n)).a, K.pd.a.n, K.pd.c.n, (bd4 (styAt l n)).c] && sumB [up, H]) ∧
    (chB (frR K o (bd4 (styAt l n)) H) = true → chO (frR K o (bd4 (styAt l n)) H) a.p (enR K) K.ht = refCh K (frR K o (bd4 (styAt l n)) H) a.p (enR K).bot (sumN [up, H]))) :=
    fun o hi c a ha K hK H up hH hu => end_same hsf hr o hi (fun q b' hb => box_ch k hb) ha hK hH hu
  have hfs := styAt_full l n
  have hs0 : (nd l n).s = styAt l n := by unfold styAt; rw [inB_nat hnl]; rfl
  obtain ⟨s, hss⟩ : ∃ s, styAt l n = s := ⟨_, rfl⟩
  rw [hss] at HOK HNO HYES HIN HEND hfs hs0 HKN
  have HF := Lib.hid hfs
  have HSS := Lib.hid hs0
  have HRT := Lib.hid hss
  obtain ⟨OK, hOK⟩ : ∃ q, okX s x h rtl = q := ⟨_, rfl⟩
  rw [hOK] at HOK HNO HYES HIN
  obtain ⟨K, hKK⟩ : ∃ q, knO l n x h = q := ⟨_, rfl⟩
  have HKK := Lib.hid hKK
  rw [hKK] at HYES HIN HEND HKN
  obtain ⟨KB, hKB⟩ : ∃ q, knB s x h = q := ⟨_, rfl⟩
  rw [hKB] at HOK HKN
  have SA4 : Hid (∀ w, Calls Tryz.prog 24 #[.slice (some ⟨w.heap.size, 0, none⟩) 4 4] (w.alloc (.cells #[.int .i64 (bat s.bord 3), .int .i64 K.pd.d.n, .int .i64 K.pd.b.n, .int .i64 (bat s.bord 1)] 2)) fun e w' => e = .returned (.tuple #[.int .i64 (sumN (arR s x)), .bool (sumB (arR s x))]) ∧ Seen w w') := fun w => by
    have := sum4_any (bat s.bord 3) K.pd.d.n K.pd.b.n (bat s.bord 1) w
    rw [← hKK] at this ⊢
    subst hss
    exact this
  obtain ⟨GA, hGA⟩ : ∃ q, sumB (arR s x) = q := ⟨_, rfl⟩
  rw [hGA] at HOK SA4
  have SO := Lib.hid (fun (w : World) => refSolve_any (bxR s x rtl) w)
  have HBX := Lib.hid (show bxR s x rtl = ⟨x, (sds (mg4 s) x).d, ofS (lat s.lens 4).k (lat s.lens 4).n x true, (sds (mg4 s) x).b, sumN (arR s x), rtl, ofOrV (lat s.lens 6).k (lat s.lens 6).n x true 0, ofOrV (lat s.lens 7).k (lat s.lens 7).n x true 1125899906842624⟩ from rfl)
  have hmg : K.mg = sds (mg4 s) x := by rw [← hKK, ← hss]; rfl
  rw [← hmg] at HBX
  have OF4 := Lib.hid (fun (w : World) => refOf_any (lat s.lens 4).k (lat s.lens 4).n x true w)
  have OB67 := Lib.hid (fun (w : World) => refBounds_any (lat s.lens 6).k (lat s.lens 6).n (lat s.lens 7).k (lat s.lens 7).n x true w)
  obtain ⟨BX, hBX⟩ : ∃ q, bxR s x rtl = q := ⟨_, rfl⟩
  rw [hBX] at HOK HYES HIN SO HBX
  obtain ⟨AR, hAR⟩ : ∃ q, sumN (arR s x) = q := ⟨_, rfl⟩
  rw [hAR] at SA4 HBX
  obtain ⟨WD, hWD⟩ : ∃ q, ofS (lat s.lens 4).k (lat s.lens 4).n x true = q := ⟨_, rfl⟩
  obtain ⟨GW, hGW⟩ : ∃ q, ofB (lat s.lens 4).k (lat s.lens 4).n x true = q := ⟨_, rfl⟩
  rw [hWD, hGW] at OF4
  rw [hWD] at HBX
  rw [hGW] at HOK
  obtain ⟨LO, hLO⟩ : ∃ q, ofOrV (lat s.lens 6).k (lat s.lens 6).n x true 0 = q := ⟨_, rfl⟩
  obtain ⟨HI, hHI⟩ : ∃ q, ofOrV (lat s.lens 7).k (lat s.lens 7).n x true 1125899906842624 = q := ⟨_, rfl⟩
  obtain ⟨GB, hGB⟩ : ∃ q, (ofB (lat s.lens 6).k (lat s.lens 6).n x true && ofB (lat s.lens 7).k (lat s.lens 7).n x true) = q := ⟨_, rfl⟩
  rw [hLO, hHI, hGB] at OB67
  rw [hLO, hHI] at HBX
  rw [hGB] at HOK
  rw [HBX.out] at SO
  have HOF : Hid (BX = ⟨x, K.mg.d, WD, K.mg.b, AR, rtl, LO, HI⟩) := HBX.out
  rw [← HOF.out] at SO
  obtain ⟨O, hO⟩ : ∃ q, solO BX = q := ⟨_, rfl⟩
  obtain ⟨SB, hSB⟩ : ∃ q, solB BX = q := ⟨_, rfl⟩
  rw [hO, hSB] at SO
  rw [HOF.out] at SO
  rw [hO] at HYES HIN
  rw [hSB] at HOK
  obtain ⟨bo, hbo⟩ : ∃ q, boxO l (k + 1) n ⟨x, h, rtl⟩ = q := ⟨_, rfl⟩
  rw [hbo] at HNO HYES
  have HBO := Lib.hid hbo
  clear hbo hO hSB hLO hHI hGB hWD hGW hAR hBX hmg hGA hKB hKK hOK hss hs0 hfs HBX hats hNS hf hN hI hmd hr hs hlen hsf hx0 HOF hk
  obtain ⟨W1, hW1⟩ : ∃ q, q = ((W.alloc (.cells #[.bool h.au, .int .i64 h.n] 58)).alloc (.cells #[.int .i64 0, .int .i64 0, .int .i64 0, .int .i64 0, .int .i64 0, .int .i64 0, .int .i64 0, .int .i64 0, .int .i64 0, .int .i64 0, .int .i64 0, .int .i64 0, .int .i64 0, .int .i64 0, .int .i64 0, .int .i64 0, .bool false, .int .i64 0, .int .i64 0, .int .i64 0, .int .i64 0, .int .i64 0, .int .i64 0, .bool false, .int .i64 0] 50)).alloc (.cells #[.slice none 0 0, .slice none 0 0, .int .i64 0, .int .i64 0, .int .i64 0, .int .i64 0, .int .i64 0, .bool false, .int .i64 0] 55) := ⟨_, rfl⟩
  have K8 := Lib.hid (show Blk W1 W.heap.size [.bool h.au, .int .i64 h.n] 58 by rw [hW1]; exact ((Blk.new W _ _).alloc _).alloc _)
  have K10 := Lib.hid (show Blk W1 (W.heap.size + 1) (frl zFr) 50 by rw [hW1]; simpa using (fr_blk (W.alloc (.cells #[.bool h.au, .int .i64 h.n] 58))).alloc (.cells #[.slice none 0 0, .slice none 0 0, .int .i64 0, .int .i64 0, .int .i64 0, .int .i64 0, .int .i64 0, .bool false, .int .i64 0] 55))
  have K11 := Lib.hid (show Blk W1 (W.heap.size + 1 + 1) (layl (.slice none 0 0) (.slice none 0 0) zPi 0) 55 by rw [hW1]; simpa using zl_blk ((W.alloc (.cells #[.bool h.au, .int .i64 h.n] 58)).alloc (.cells #[.int .i64 0, .int .i64 0, .int .i64 0, .int .i64 0, .int .i64 0, .int .i64 0, .int .i64 0, .int .i64 0, .int .i64 0, .int .i64 0, .int .i64 0, .int .i64 0, .int .i64 0, .int .i64 0, .int .i64 0, .int .i64 0, .bool false, .int .i64 0, .int .i64 0, .int .i64 0, .int .i64 0, .int .i64 0, .int .i64 0, .bool false, .int .i64 0] 50)))
  have SA : Hid (Seen W W1) := by rw [hW1]; exact (((Seen.refl W).alloc _).alloc _).alloc _
  go_enter Tryz.func8, Tryz.ntmps8
  go_upto_region 1 with fail
  rw [← hW1]
  clear hW1
  refine wp_region_lit ?_
  refine ZR (some 34) (.slice (some ⟨b, off, none⟩) N cp) W1 ?_
  simp only [Z1,Z2,Z3,Z4]
  refine ZR (some 35) (.int .i64 (n : Int)) W1 ?_
  simp only [Z1,Z2,Z3,Z4]
  refine pCall (some 36) 21 #[.slice (some ⟨b, off, none⟩) N cp, .int .i64 (n : Int)] rfl (by kernel_rfl) (by kernel_rfl) ?_
  refine (HMD.out _ (HSW.out.trans SA.out)).mono ?_
  rintro e wq ⟨rfl, hw⟩
  rw [hw]
  clear hw
  refine ⟨_, rfl, ?_⟩
  simp only [Z1,Z2,Z3,Z4]
  refine ZR (some 37) (.bool false) W1 ?_
  simp only [Z1,Z2,Z3,Z4]
  refine ZR (some 38) (.bool false) W1 ?_
  simp only [Z1,Z2,Z3,Z4]
  refine ZR (some 39) (.int .i64 x) W1 ?_
  simp only [Z1,Z2,Z3,Z4]
  refine ZX (some 40) (.agg #[.bool h.au, .int .i64 h.n]) W1 (run_by (Instr.loadAt 58 (.pointer (some ⟨W.heap.size, 0, none⟩))) (by kernel_rfl) (rda58 (vs := [.bool h.au, .int .i64 h.n]) (Blk.mid K8.out 0 2) rfl)) ?_
  simp only [Z1,Z2,Z3,Z4]
  refine pCall (some 41) 22 #[.int .i64 x, .agg #[.bool h.au, .int .i64 h.n]] rfl (by kernel_rfl) (by kernel_rfl) ?_
  refine (HMAY.out _).mono ?_
  rintro e w1 ⟨rfl, hb⟩
  have SB : Hid (Seen W1 w1) := hb
  clear hb
  refine ⟨_, rfl, ?_⟩
  simp only [Z1,Z2,Z3,Z4]
  refine ZR (some 42) (.bool false) w1 ?_
  simp only [Z1,Z2,Z3,Z4]
  refine ZR (some 43) (.bool false) w1 ?_
  simp only [Z1,Z2,Z3,Z4]
  refine wpList_nil ?_
  have S1 := Lib.hid (HSW.out.trans (SA.out.trans SB.out))
  clear HMD HMAY
  go_upto_region 3 with fail
  refine wp_region_lit ?_
  refine ZR (some 46) (.slice (some ⟨b, off, none⟩) N cp) w1 ?_
  simp only [Z1,Z2,Z3,Z4]
  refine ZR (some 47) (.int .i64 (n : Int)) w1 ?_
  simp only [Z1,Z2,Z3,Z4]
  refine ZX (some 48) (.pointer (some ⟨b, off + n * 49, none⟩)) w1 (run_by (Instr.indexAt 22 (.slice (some ⟨b, off, none⟩) N cp) (.int .i64 (n : Int))) (by kernel_rfl) (run_index22 b off n N cp hn _)) ?_
  simp only [Z1,Z2,Z3,Z4]
  refine ZR (some 49) (.pointer (some ⟨b, off + n * 49, none⟩)) w1 ?_
  simp only [Z1,Z2,Z3,Z4]
  refine wpList_loadNS rfl (.tmp 49) rfl b (off + n * 49) (nd l n) (by kernel_rfl) (AN.out.seen S1.out) ?_
  simp only [Z1,Z2,Z3,Z4]
  refine ZR (some 13) (.pointer (some ⟨w1.heap.size, 0, none⟩)) (w1.alloc (.cells (stl zeroS).toArray 66)) ?_
  simp only [Z1,Z2,Z3,Z4]
  refine wpList_storeS rfl (.tmp 13) (.tmp 50) rfl w1.heap.size zeroS (nd l n).s (by kernel_rfl) (by kernel_rfl) (nd l n).full zero_full (hs_new w1 zeroS) ?_
  intro W3 bn tn
  simp only [Act.put]
  refine wpList_nil ?_
  have SC : Hid (Seen w1 W3) := Seen.fresh (Seen.refl w1) tn
  have KS : Hid (Hs W3 w1.heap.size s) := by rw [← HSS.out]; exact bn
  have O13 : Hid (w1.heap.size < W3.heap.size) := Hs.lt KS.out
  clear bn tn AN HSS
  go_upto_region 4 with fail
  refine wp_region_lit ?_
  refine ZR (some 52) (.slice (some ⟨b, off, none⟩) N cp) W3 ?_
  simp only [Z1,Z2,Z3,Z4]
  refine ZR (some 53) (.int .i64 (n : Int)) W3 ?_
  simp only [Z1,Z2,Z3,Z4]
  refine ZR (some 54) (.int .i64 x) W3 ?_
  simp only [Z1,Z2,Z3,Z4]
  refine ZX (some 55) (.agg #[.bool h.au, .int .i64 h.n]) W3 (run_by (Instr.loadAt 58 (.pointer (some ⟨W.heap.size, 0, none⟩))) (by kernel_rfl) (rda58 (vs := [.bool h.au, .int .i64 h.n]) (Blk.mid (K8.out.seen (SB.out.trans SC.out)) 0 2) rfl)) ?_
  simp only [Z1,Z2,Z3,Z4]
  refine pCall (some 56) 23 #[.slice (some ⟨b, off, none⟩) N cp, .int .i64 (n : Int), .int .i64 x, .agg #[.bool h.au, .int .i64 h.n]] rfl (by kernel_rfl) (by kernel_rfl) ?_
  refine (HKN.out _ (S1.out.trans SC.out)).mono ?_
  rintro e w4 ⟨rfl, hb⟩
  have SD : Hid (Seen W3 w4) := hb
  clear hb
  refine ⟨_, rfl, ?_⟩
  simp only [Z1,Z2,Z3,Z4]
  refine ZR (some 51) (.tuple #[knv K, .bool KB]) w4 ?_
  simp only [Z1,Z2,Z3,Z4]
  refine ZR (some 57) (knv K) w4 ?_
  simp only [Z1,Z2,Z3,Z4]
  refine ZR (some 58) (.bool KB) w4 ?_
  simp only [Z1,Z2,Z3,Z4]
  refine ZR (some 14) (.pointer (some ⟨w4.heap.size, 0, none⟩)) (w4.alloc (.cells (knl zKn).toArray 91)) ?_
  simp only [Z1,Z2,Z3,Z4]
  refine pStoreC 91 (w4.heap.size) 0 (knl K) (cs := (knl zKn)) (cs' := knl K) (t := 91) rfl (by kernel_rfl) (by kernel_rfl) zz91 (knl_one _) (Blk.new _ _ _) (Nat.le_refl _) (sets_all _ _ rfl) ?_
  intro W4 bn tn
  simp only [Act.put]
  refine ZR (some 15) (.bool KB) W4 ?_
  simp only [Z1,Z2,Z3,Z4]
  refine wpList_nil ?_
  have SE : Hid (Seen w4 W4) := Seen.fresh (Seen.refl w4) tn
  have K14 : Hid (Blk W4 w4.heap.size (knl K) 91) := bn
  have KS4 : Hid (Hs W4 w1.heap.size s) := Hs.seen KS.out (SD.out.trans SE.out)
  clear bn tn HKN KS
  go_upto_region 5 with fail
  refine wp_region_lit ?_
  refine ZR (some 60) (.pointer (some ⟨w1.heap.size, 38, none⟩)) W4 ?_
  simp only [Z1,Z2,Z3,Z4]
  refine ZR (some 61) (.pointer (some ⟨w1.heap.size, 41, none⟩)) W4 ?_
  simp only [Z1,Z2,Z3,Z4]
  refine ZX (some 62) (.int .i64 (bat s.bord 3)) W4 (run_by (Instr.loadAt 2 (.pointer (some ⟨w1.heap.size, 41, none⟩))) (by kernel_rfl) (rd2 (rdBord KS4.out HF.out (i := 3) (by decide) rfl))) ?_
  simp only [Z1,Z2,Z3,Z4]
  refine ZR (some 63) (.pointer (some ⟨w4.heap.size, 8, none⟩)) W4 ?_
  simp only [Z1,Z2,Z3,Z4]
  refine ZR (some 64) (.pointer (some ⟨w4.heap.size, 14, none⟩)) W4 ?_
  simp only [Z1,Z2,Z3,Z4]
  refine ZR (some 65) (.pointer (some ⟨w4.heap.size, 15, none⟩)) W4 ?_
  simp only [Z1,Z2,Z3,Z4]
  refine ZX (some 66) (.int .i64 K.pd.d.n) W4 (run_by (Instr.loadAt 2 (.pointer (some ⟨w4.heap.size, 15, none⟩))) (by kernel_rfl) (rd2 (Blk.cell K14.out 15))) ?_
  simp only [Z1,Z2,Z3,Z4]
  refine ZR (some 67) (.pointer (some ⟨w4.heap.size, 8, none⟩)) W4 ?_
  simp only [Z1,Z2,Z3,Z4]
  refine ZR (some 68) (.pointer (some ⟨w4.heap.size, 10, none⟩)) W4 ?_
  simp only [Z1,Z2,Z3,Z4]
  refine ZR (some 69) (.pointer (some ⟨w4.heap.size, 11, none⟩)) W4 ?_
  simp only [Z1,Z2,Z3,Z4]
  refine ZX (some 70) (.int .i64 K.pd.b.n) W4 (run_by (Instr.loadAt 2 (.pointer (some ⟨w4.heap.size, 11, none⟩))) (by kernel_rfl) (rd2 (Blk.cell K14.out 11))) ?_
  simp only [Z1,Z2,Z3,Z4]
  refine ZR (some 71) (.pointer (some ⟨w1.heap.size, 38, none⟩)) W4 ?_
  simp only [Z1,Z2,Z3,Z4]
  refine ZR (some 72) (.pointer (some ⟨w1.heap.size, 39, none⟩)) W4 ?_
  simp only [Z1,Z2,Z3,Z4]
  refine ZX (some 73) (.int .i64 (bat s.bord 1)) W4 (run_by (Instr.loadAt 2 (.pointer (some ⟨w1.heap.size, 39, none⟩))) (by kernel_rfl) (rd2 (rdBord KS4.out HF.out (i := 1) (by decide) rfl))) ?_
  simp only [Z1,Z2,Z3,Z4]
  refine ZR (some 74) (.slice (some ⟨W4.heap.size, 0, none⟩) 4 4) (W4.alloc (.cells #[.int .i64 (bat s.bord 3), .int .i64 K.pd.d.n, .int .i64 K.pd.b.n, .int .i64 (bat s.bord 1)] 2)) ?_
  simp only [Z1,Z2,Z3,Z4]
  refine pCall (some 75) 24 #[.slice (some ⟨W4.heap.size, 0, none⟩) 4 4] rfl (by kernel_rfl) (by kernel_rfl) ?_
  refine (SA4.out W4).mono ?_
  rintro e w5 ⟨rfl, hb⟩
  have SF : Hid (Seen W4 w5) := hb
  clear hb SA4
  refine ⟨_, rfl, ?_⟩
  simp only [Z1,Z2,Z3,Z4]
  refine ZR (some 59) (.tuple #[.int .i64 AR, .bool GA]) w5 ?_
  simp only [Z1,Z2,Z3,Z4]
  refine ZR (some 76) (.int .i64 AR) w5 ?_
  simp only [Z1,Z2,Z3,Z4]
  refine ZR (some 77) (.bool GA) w5 ?_
  simp only [Z1,Z2,Z3,Z4]
  refine ZR (some 16) (.int .i64 AR) w5 ?_
  simp only [Z1,Z2,Z3,Z4]
  refine ZR (some 17) (.bool GA) w5 ?_
  simp only [Z1,Z2,Z3,Z4]
  refine wpList_nil ?_
  go_upto_region 6 with fail
  refine wp_region_lit ?_
  refine ZR (some 79) (.pointer (some ⟨w1.heap.size, 10, none⟩)) w5 ?_
  simp only [Z1,Z2,Z3,Z4]
  refine ZX (some 80) (.agg #[.int .i64 (lat s.lens 4).k, .int .i64 (lat s.lens 4).n]) w5 (run_by (Instr.loadAt 63 (.pointer (some ⟨w1.heap.size, 10, none⟩))) (by kernel_rfl) (rda63 (vs := [.int .i64 (lat s.lens 4).k, .int .i64 (lat s.lens 4).n]) (range_two (rdLen (Hs.seen KS4.out SF.out) HF.out (i := 4) (by decide) rfl (k := (lat s.lens 4).k) (n := (lat s.lens 4).n) rfl)) rfl)) ?_
  simp only [Z1,Z2,Z3,Z4]
  refine ZR (some 81) (.int .i64 x) w5 ?_
  simp only [Z1,Z2,Z3,Z4]
  refine pCall (some 82) 25 #[.agg #[.int .i64 (lat s.lens 4).k, .int .i64 (lat s.lens 4).n], .int .i64 x, .bool true] rfl (by kernel_rfl) (by kernel_rfl) ?_
  refine (OF4.out w5).mono ?_
  rintro e w6 ⟨rfl, hb⟩
  have SG : Hid (Seen w5 w6) := hb
  clear hb OF4
  refine ⟨_, rfl, ?_⟩
  simp only [Z1,Z2,Z3,Z4]
  refine ZR (some 78) (.tuple #[.agg #[.bool WD.au, .int .i64 WD.n], .bool GW]) w6 ?_
  simp only [Z1,Z2,Z3,Z4]
  refine ZR (some 83) (.agg #[.bool WD.au, .int .i64 WD.n]) w6 ?_
  simp only [Z1,Z2,Z3,Z4]
  refine ZR (some 84) (.bool GW) w6 ?_
  simp only [Z1,Z2,Z3,Z4]
  refine ZR (some 18) (.pointer (some ⟨w6.heap.size, 0, none⟩)) (w6.alloc (.cells #[.bool false, .int .i64 0] 58)) ?_
  simp only [Z1,Z2,Z3,Z4]
  refine pStoreC 58 (w6.heap.size) 0 ([.bool WD.au, .int .i64 WD.n]) (cs := [.bool false, .int .i64 0]) (cs' := [.bool WD.au, .int .i64 WD.n]) (t := 58) rfl (by kernel_rfl) (by kernel_rfl) zz58 (by intro u hu; simp only [List.mem_cons, List.not_mem_nil, or_false] at hu; rcases hu with rfl | rfl <;> rfl) (Blk.new _ _ _) (Nat.le_refl _) (sets_all _ _ rfl) ?_
  intro W6 bn tn
  simp only [Act.put]
  refine ZR (some 19) (.bool GW) W6 ?_
  simp only [Z1,Z2,Z3,Z4]
  refine wpList_nil ?_
  have SH : Hid (Seen w6 W6) := Seen.fresh (Seen.refl w6) tn
  have K18 : Hid (Blk W6 w6.heap.size [.bool WD.au, .int .i64 WD.n] 58) := bn
  have S46 := Lib.hid (SF.out.trans (SG.out.trans SH.out))
  clear bn tn
  go_upto_region 7 with fail
  refine wp_region_lit ?_
  refine ZR (some 86) (.pointer (some ⟨w1.heap.size, 14, none⟩)) W6 ?_
  simp only [Z1,Z2,Z3,Z4]
  refine ZX (some 87) (.agg #[.int .i64 (lat s.lens 6).k, .int .i64 (lat s.lens 6).n]) W6 (run_by (Instr.loadAt 63 (.pointer (some ⟨w1.heap.size, 14, none⟩))) (by kernel_rfl) (rda63 (vs := [.int .i64 (lat s.lens 6).k, .int .i64 (lat s.lens 6).n]) (range_two (rdLen (Hs.seen KS4.out S46.out) HF.out (i := 6) (by decide) rfl (k := (lat s.lens 6).k) (n := (lat s.lens 6).n) rfl)) rfl)) ?_
  simp only [Z1,Z2,Z3,Z4]
  refine ZR (some 88) (.pointer (some ⟨w1.heap.size, 16, none⟩)) W6 ?_
  simp only [Z1,Z2,Z3,Z4]
  refine ZX (some 89) (.agg #[.int .i64 (lat s.lens 7).k, .int .i64 (lat s.lens 7).n]) W6 (run_by (Instr.loadAt 63 (.pointer (some ⟨w1.heap.size, 16, none⟩))) (by kernel_rfl) (rda63 (vs := [.int .i64 (lat s.lens 7).k, .int .i64 (lat s.lens 7).n]) (range_two (rdLen (Hs.seen KS4.out S46.out) HF.out (i := 7) (by decide) rfl (k := (lat s.lens 7).k) (n := (lat s.lens 7).n) rfl)) rfl)) ?_
  simp only [Z1,Z2,Z3,Z4]
  refine ZR (some 90) (.int .i64 x) W6 ?_
  simp only [Z1,Z2,Z3,Z4]
  refine pCall (some 91) 26 #[.agg #[.int .i64 (lat s.lens 6).k, .int .i64 (lat s.lens 6).n], .agg #[.int .i64 (lat s.lens 7).k, .int .i64 (lat s.lens 7).n], .int .i64 x, .bool true] rfl (by kernel_rfl) (by kernel_rfl) ?_
  refine (OB67.out W6).mono ?_
  rintro e W7 ⟨rfl, hb⟩
  have SI : Hid (Seen W6 W7) := hb
  clear hb OB67
  refine ⟨_, rfl, ?_⟩
  simp only [Z1,Z2,Z3,Z4]
  refine ZR (some 85) (.tuple #[.int .i64 LO, .int .i64 HI, .bool GB]) W7 ?_
  simp only [Z1,Z2,Z3,Z4]
  refine ZR (some 92) (.int .i64 LO) W7 ?_
  simp only [Z1,Z2,Z3,Z4]
  refine ZR (some 93) (.int .i64 HI) W7 ?_
  simp only [Z1,Z2,Z3,Z4]
  refine ZR (some 94) (.bool GB) W7 ?_
  simp only [Z1,Z2,Z3,Z4]
  refine ZR (some 20) (.int .i64 LO) W7 ?_
  simp only [Z1,Z2,Z3,Z4]
  refine ZR (some 21) (.int .i64 HI) W7 ?_
  simp only [Z1,Z2,Z3,Z4]
  refine ZR (some 22) (.bool GB) W7 ?_
  simp only [Z1,Z2,Z3,Z4]
  refine wpList_nil ?_
  have S47 := Lib.hid (S46.out.trans SI.out)
  have KS7 := Lib.hid (Hs.seen KS4.out S47.out)
  have K14a := Lib.hid (K14.out.seen S47.out)
  have K18a := Lib.hid (K18.out.seen SI.out)
  have S17 := Lib.hid (SB.out.trans (SC.out.trans (SD.out.trans (SE.out.trans S47.out))))
  have K10a := Lib.hid (K10.out.seen S17.out)
  have K11a := Lib.hid (K11.out.seen S17.out)
  have SW7 := Lib.hid (SA.out.trans S17.out)
  have o1 : W.heap.size + 1 + 1 < w1.heap.size := by have := K11.out.lt; have := SB.out.size; omega
  have o2 : w1.heap.size < w4.heap.size := by have := Hs.lt KS4.out; have h1 := SC.out; have := SD.out.size; have h2 : w1.heap.size < W3.heap.size := by have := O13.out; omega
                                              omega
  have o3 : w4.heap.size < w6.heap.size := by have := K14.out.lt; have := SF.out.size; have := SG.out.size; omega
  have o4 : w6.heap.size < W7.heap.size := K18a.out.lt
  clear K8 K10 K11 KS4 K14 K18 SA SB SC SD SE SF SG SH SI S46 S47 S17 S1
  go_upto_region 8 with fail
  obtain ⟨G, hG⟩ : ∃ q, (KB && (GA && (GW && GB))) = q := ⟨_, rfl⟩
  have HG := Lib.hid hG
  clear hG
  go_cut [108] from 275 (fun u wx => (u = .bool (!G) ∧ W7 = wx) : Value → World → Prop)
  case first =>
    rename_i Jc Kc hJc hKc
    clear HYES HIN HEND HOK HNO
    cases KB
    · have hg : G = false := HG.out.symm
      refine wp_region_lit ?_
      refine ZR (some 95) (.bool false) W7 ?_
      simp only [Z1,Z2,Z3,Z4]
      refine ZR (some 96) (.bool true) W7 ?_
      simp only [Z1,Z2,Z3,Z4]
      refine ZR (some 97) (.bool true) W7 ?_
      simp only [Z1,Z2,Z3,Z4]
      refine pNo (some 98) rfl (by kernel_rfl) ?_
      simp only [Z1,Z2,Z3,Z4]
      refine pNo (some 99) rfl (by kernel_rfl) ?_
      simp only [Z1,Z2,Z3,Z4]
      refine ZR (some 100) (.bool true) W7 ?_
      simp only [Z1,Z2,Z3,Z4]
      refine ZR (some 101) (.bool true) W7 ?_
      simp only [Z1,Z2,Z3,Z4]
      refine pNo (some 102) rfl (by kernel_rfl) ?_
      simp only [Z1,Z2,Z3,Z4]
      refine pNo (some 103) rfl (by kernel_rfl) ?_
      simp only [Z1,Z2,Z3,Z4]
      refine ZR (some 104) (.bool true) W7 ?_
      simp only [Z1,Z2,Z3,Z4]
      refine ZR (some 105) (.bool true) W7 ?_
      simp only [Z1,Z2,Z3,Z4]
      refine pNo (some 106) rfl (by kernel_rfl) ?_
      simp only [Z1,Z2,Z3,Z4]
      refine pNo (some 107) rfl (by kernel_rfl) ?_
      simp only [Z1,Z2,Z3,Z4]
      refine ZR (some 108) (.bool true) W7 ?_
      simp only [Z1,Z2,Z3,Z4]
      refine wpList_nil ?_
      refine hKc _ _ (Met.intro (hJc _ _ ?_))
      (repeat apply Exists.intro)
      refine ⟨?rel, rfl⟩
      case rel => exact  ⟨by rw [hg]; rfl, rfl⟩
    · cases GA
      · have hg : G = false := HG.out.symm
        refine wp_region_lit ?_
        refine ZR (some 95) (.bool true) W7 ?_
        simp only [Z1,Z2,Z3,Z4]
        refine ZR (some 96) (.bool false) W7 ?_
        simp only [Z1,Z2,Z3,Z4]
        refine ZR (some 97) (.bool false) W7 ?_
        simp only [Z1,Z2,Z3,Z4]
        refine ZR (some 98) (.bool false) W7 ?_
        simp only [Z1,Z2,Z3,Z4]
        refine ZR (some 99) (.bool true) W7 ?_
        simp only [Z1,Z2,Z3,Z4]
        refine ZR (some 100) (.bool true) W7 ?_
        simp only [Z1,Z2,Z3,Z4]
        refine ZR (some 101) (.bool true) W7 ?_
        simp only [Z1,Z2,Z3,Z4]
        refine pNo (some 102) rfl (by kernel_rfl) ?_
        simp only [Z1,Z2,Z3,Z4]
        refine pNo (some 103) rfl (by kernel_rfl) ?_
        simp only [Z1,Z2,Z3,Z4]
        refine ZR (some 104) (.bool true) W7 ?_
        simp only [Z1,Z2,Z3,Z4]
        refine ZR (some 105) (.bool true) W7 ?_
        simp only [Z1,Z2,Z3,Z4]
        refine pNo (some 106) rfl (by kernel_rfl) ?_
        simp only [Z1,Z2,Z3,Z4]
        refine pNo (some 107) rfl (by kernel_rfl) ?_
        simp only [Z1,Z2,Z3,Z4]
        refine ZR (some 108) (.bool true) W7 ?_
        simp only [Z1,Z2,Z3,Z4]
        refine wpList_nil ?_
        refine hKc _ _ (Met.intro (hJc _ _ ?_))
        (repeat apply Exists.intro)
        refine ⟨?rel, rfl⟩
        case rel => exact  ⟨by rw [hg]; rfl, rfl⟩
      · cases GW
        · have hg : G = false := HG.out.symm
          refine wp_region_lit ?_
          refine ZR (some 95) (.bool true) W7 ?_
          simp only [Z1,Z2,Z3,Z4]
          refine ZR (some 96) (.bool false) W7 ?_
          simp only [Z1,Z2,Z3,Z4]
          refine ZR (some 97) (.bool false) W7 ?_
          simp only [Z1,Z2,Z3,Z4]
          refine ZR (some 98) (.bool true) W7 ?_
          simp only [Z1,Z2,Z3,Z4]
          refine ZR (some 99) (.bool false) W7 ?_
          simp only [Z1,Z2,Z3,Z4]
          refine ZR (some 100) (.bool false) W7 ?_
          simp only [Z1,Z2,Z3,Z4]
          refine ZR (some 101) (.bool false) W7 ?_
          simp only [Z1,Z2,Z3,Z4]
          refine ZR (some 102) (.bool false) W7 ?_
          simp only [Z1,Z2,Z3,Z4]
          refine ZR (some 103) (.bool true) W7 ?_
          simp only [Z1,Z2,Z3,Z4]
          refine ZR (some 104) (.bool true) W7 ?_
          simp only [Z1,Z2,Z3,Z4]
          refine ZR (some 105) (.bool true) W7 ?_
          simp only [Z1,Z2,Z3,Z4]
          refine pNo (some 106) rfl (by kernel_rfl) ?_
          simp only [Z1,Z2,Z3,Z4]
          refine pNo (some 107) rfl (by kernel_rfl) ?_
          simp only [Z1,Z2,Z3,Z4]
          refine ZR (some 108) (.bool true) W7 ?_
          simp only [Z1,Z2,Z3,Z4]
          refine wpList_nil ?_
          refine hKc _ _ (Met.intro (hJc _ _ ?_))
          (repeat apply Exists.intro)
          refine ⟨?rel, rfl⟩
          case rel => exact  ⟨by rw [hg]; rfl, rfl⟩
        · cases GB
          · have hg : G = false := HG.out.symm
            refine wp_region_lit ?_
            refine ZR (some 95) (.bool true) W7 ?_
            simp only [Z1,Z2,Z3,Z4]
            refine ZR (some 96) (.bool false) W7 ?_
            simp only [Z1,Z2,Z3,Z4]
            refine ZR (some 97) (.bool false) W7 ?_
            simp only [Z1,Z2,Z3,Z4]
            refine ZR (some 98) (.bool true) W7 ?_
            simp only [Z1,Z2,Z3,Z4]
            refine ZR (some 99) (.bool false) W7 ?_
            simp only [Z1,Z2,Z3,Z4]
            refine ZR (some 100) (.bool false) W7 ?_
            simp only [Z1,Z2,Z3,Z4]
            refine ZR (some 101) (.bool false) W7 ?_
            simp only [Z1,Z2,Z3,Z4]
            refine ZR (some 102) (.bool true) W7 ?_
            simp only [Z1,Z2,Z3,Z4]
            refine ZR (some 103) (.bool false) W7 ?_
            simp only [Z1,Z2,Z3,Z4]
            refine ZR (some 104) (.bool false) W7 ?_
            simp only [Z1,Z2,Z3,Z4]
            refine ZR (some 105) (.bool false) W7 ?_
            simp only [Z1,Z2,Z3,Z4]
            refine ZR (some 106) (.bool false) W7 ?_
            simp only [Z1,Z2,Z3,Z4]
            refine ZR (some 107) (.bool true) W7 ?_
            simp only [Z1,Z2,Z3,Z4]
            refine ZR (some 108) (.bool true) W7 ?_
            simp only [Z1,Z2,Z3,Z4]
            refine wpList_nil ?_
            refine hKc _ _ (Met.intro (hJc _ _ ?_))
            (repeat apply Exists.intro)
            refine ⟨?rel, rfl⟩
            case rel => exact  ⟨by rw [hg]; rfl, rfl⟩
          · have hg : G = true := HG.out.symm
            refine wp_region_lit ?_
            refine ZR (some 95) (.bool true) W7 ?_
            simp only [Z1,Z2,Z3,Z4]
            refine ZR (some 96) (.bool false) W7 ?_
            simp only [Z1,Z2,Z3,Z4]
            refine ZR (some 97) (.bool false) W7 ?_
            simp only [Z1,Z2,Z3,Z4]
            refine ZR (some 98) (.bool true) W7 ?_
            simp only [Z1,Z2,Z3,Z4]
            refine ZR (some 99) (.bool false) W7 ?_
            simp only [Z1,Z2,Z3,Z4]
            refine ZR (some 100) (.bool false) W7 ?_
            simp only [Z1,Z2,Z3,Z4]
            refine ZR (some 101) (.bool false) W7 ?_
            simp only [Z1,Z2,Z3,Z4]
            refine ZR (some 102) (.bool true) W7 ?_
            simp only [Z1,Z2,Z3,Z4]
            refine ZR (some 103) (.bool false) W7 ?_
            simp only [Z1,Z2,Z3,Z4]
            refine ZR (some 104) (.bool false) W7 ?_
            simp only [Z1,Z2,Z3,Z4]
            refine ZR (some 105) (.bool false) W7 ?_
            simp only [Z1,Z2,Z3,Z4]
            refine ZR (some 106) (.bool true) W7 ?_
            simp only [Z1,Z2,Z3,Z4]
            refine ZR (some 107) (.bool false) W7 ?_
            simp only [Z1,Z2,Z3,Z4]
            refine ZR (some 108) (.bool false) W7 ?_
            simp only [Z1,Z2,Z3,Z4]
            refine wpList_nil ?_
            refine hKc _ _ (Met.intro (hJc _ _ ?_))
            (repeat apply Exists.intro)
            refine ⟨?rel, rfl⟩
            case rel => exact  ⟨by rw [hg]; rfl, rfl⟩
  obtain ⟨hu, hw⟩ := hcut
  subst hu
  subst hw
  have hok : OK = (G && SB) := by
    rw [HOK.out, ← HG.out]
    cases KB <;> cases GA <;> cases GW <;> cases GB <;> rfl
  cases G
  · have HNN : bo = none := HNO.out hok
    have f10 := K10a.out
    have f11 := K11a.out
    have fS : Seen W W7 := SW7.out
    clear HYES HIN HEND
    go_upto_region 9 with fail
    rename_i hKR
    refine wp_region_lit ?_
    refine ZR (some 109) (frv zFr) W7 ?_
    simp only [Z1,Z2,Z3,Z4]
    refine ZR (some 110) (layv (.slice none 0 0) (.slice none 0 0) zPi 0) W7 ?_
    simp only [Z1,Z2,Z3,Z4]
    refine pStoreC 50 (W.heap.size + 1) 0 (frl zFr) (cs := frl zFr) (cs' := frl zFr) (t := 50) rfl (by kernel_rfl) (by kernel_rfl) zz50 (frl_one _) f10 (Nat.le_refl _) (sets_all _ _ rfl) ?_
    intro wA bA tA
    simp only [Act.put]
    refine pStoreC 55 (W.heap.size + 1 + 1) 0 (layl (.slice none 0 0) (.slice none 0 0) zPi 0) (cs := layl (.slice none 0 0) (.slice none 0 0) zPi 0) (cs' := layl (.slice none 0 0) (.slice none 0 0) zPi 0) (t := 55) rfl (by kernel_rfl) (by kernel_rfl) zz55 (layl_one rfl rfl _ _) (f11.turns tA (by omega)) (Nat.le_refl _) (sets_all _ _ rfl) ?_
    intro wC bC tC
    have bB := bA.turns tC (by omega)
    simp only [Act.put]
    refine ZR (some 12) (.bool false) wC ?_
    simp only [Z1,Z2,Z3,Z4]
    refine wpList_nil ?_
    refine hKR _ _ (wp_ret ?_)
    show bodyPost Tryz.prog Tryz.f8 _ Exit.ret _ _
    refine bodyPost_ret (results_three (u := .bool false) rfl (by kernel_rfl) (by kernel_rfl) (by kernel_rfl) (run_loadFr bB) (run_loadLr bC)) rfl ?_
    exact ⟨(fS.turns tA (by omega)).turns tC (by omega), .inl ⟨HBO.out.trans HNN, rfl⟩⟩
  · rw [Bool.true_and] at hok
    subst hok
    clear HOK HG
    go_upto_region 10 with fail
    refine wp_region_lit ?_
    refine ZR (some 112) (.int .i64 x) W7 ?_
    simp only [Z1,Z2,Z3,Z4]
    refine ZR (some 113) (.pointer (some ⟨w4.heap.size, 0, none⟩)) W7 ?_
    simp only [Z1,Z2,Z3,Z4]
    refine ZR (some 114) (.pointer (some ⟨w4.heap.size, 6, none⟩)) W7 ?_
    simp only [Z1,Z2,Z3,Z4]
    refine ZX (some 115) (.agg #[.bool K.mg.d.au, .int .i64 K.mg.d.n]) W7 (run_by (Instr.loadAt 58 (.pointer (some ⟨w4.heap.size, 6, none⟩))) (by kernel_rfl) (rda58 (vs := [.bool K.mg.d.au, .int .i64 K.mg.d.n]) (Blk.mid K14a.out 6 2) rfl)) ?_
    simp only [Z1,Z2,Z3,Z4]
    refine ZX (some 116) (.agg #[.bool WD.au, .int .i64 WD.n]) W7 (run_by (Instr.loadAt 58 (.pointer (some ⟨w6.heap.size, 0, none⟩))) (by kernel_rfl) (rda58 (vs := [.bool WD.au, .int .i64 WD.n]) (Blk.mid K18a.out 0 2) rfl)) ?_
    simp only [Z1,Z2,Z3,Z4]
    refine ZR (some 117) (.pointer (some ⟨w4.heap.size, 0, none⟩)) W7 ?_
    simp only [Z1,Z2,Z3,Z4]
    refine ZR (some 118) (.pointer (some ⟨w4.heap.size, 2, none⟩)) W7 ?_
    simp only [Z1,Z2,Z3,Z4]
    refine ZX (some 119) (.agg #[.bool K.mg.b.au, .int .i64 K.mg.b.n]) W7 (run_by (Instr.loadAt 58 (.pointer (some ⟨w4.heap.size, 2, none⟩))) (by kernel_rfl) (rda58 (vs := [.bool K.mg.b.au, .int .i64 K.mg.b.n]) (Blk.mid K14a.out 2 2) rfl)) ?_
    simp only [Z1,Z2,Z3,Z4]
    refine ZR (some 120) (.int .i64 AR) W7 ?_
    simp only [Z1,Z2,Z3,Z4]
    refine ZR (some 121) (.bool rtl) W7 ?_
    simp only [Z1,Z2,Z3,Z4]
    refine ZR (some 122) (.int .i64 LO) W7 ?_
    simp only [Z1,Z2,Z3,Z4]
    refine ZR (some 123) (.int .i64 HI) W7 ?_
    simp only [Z1,Z2,Z3,Z4]
    refine ZR (some 124) (bxv ⟨x, K.mg.d, WD, K.mg.b, AR, rtl, LO, HI⟩) W7 ?_
    simp only [Z1,Z2,Z3,Z4]
    refine pCall (some 125) 27 #[bxv ⟨x, K.mg.d, WD, K.mg.b, AR, rtl, LO, HI⟩] rfl (by kernel_rfl) (by kernel_rfl) ?_
    refine (SO.out W7).mono ?_
    rintro e w10 ⟨rfl, hb⟩
    have SJ : Hid (Seen W7 w10) := hb
    clear hb SO
    refine ⟨_, rfl, ?_⟩
    simp only [Z1,Z2,Z3,Z4]
    refine ZR (some 111) (.tuple #[o3v O, .bool OK]) w10 ?_
    simp only [Z1,Z2,Z3,Z4]
    refine ZR (some 126) (.agg #[.int .i64 O.l, .int .i64 O.w, .int .i64 O.r]) w10 ?_
    simp only [Z1,Z2,Z3,Z4]
    refine ZR (some 127) (.bool OK) w10 ?_
    simp only [Z1,Z2,Z3,Z4]
    refine ZR (some 23) (.pointer (some ⟨w10.heap.size, 0, none⟩)) (w10.alloc (.cells #[.int .i64 0, .int .i64 0, .int .i64 0] 101)) ?_
    simp only [Z1,Z2,Z3,Z4]
    refine pStoreC 101 (w10.heap.size) 0 ([.int .i64 O.l, .int .i64 O.w, .int .i64 O.r]) (cs := [.int .i64 0, .int .i64 0, .int .i64 0]) (cs' := [.int .i64 O.l, .int .i64 O.w, .int .i64 O.r]) (t := 101) rfl (by kernel_rfl) (by kernel_rfl) zz101 (by intro u hu; simp only [List.mem_cons, List.not_mem_nil, or_false] at hu; rcases hu with rfl | rfl | rfl <;> rfl) (Blk.new _ _ _) (Nat.le_refl _) (sets_all _ _ rfl) ?_
    intro W10 bn tn
    simp only [Act.put]
    refine ZR (some 15) (.bool OK) W10 ?_
    simp only [Z1,Z2,Z3,Z4]
    refine wpList_nil ?_
    have SK : Hid (Seen w10 W10) := Seen.fresh (Seen.refl w10) tn
    have K23 : Hid (Blk W10 w10.heap.size [.int .i64 O.l, .int .i64 O.w, .int .i64 O.r] 101) := bn
    have S710 := Lib.hid (SJ.out.trans SK.out)
    have KS10 := Lib.hid (Hs.seen KS7.out S710.out)
    have K14b := Lib.hid (K14a.out.seen S710.out)
    have K10b := Lib.hid (K10a.out.seen S710.out)
    have K11b := Lib.hid (K11a.out.seen S710.out)
    have SW10 := Lib.hid (SW7.out.trans S710.out)
    have o5 : w6.heap.size < w10.heap.size := by have := SJ.out.size; omega
    have o6 : w10.heap.size < W10.heap.size := K23.out.lt
    clear bn tn KS7 K14a K18a K10a K11a SW7 SJ SK S710 o4
    cases OK
    · have HNN : bo = none := HNO.out rfl
      have f10 := K10b.out
      have f11 := K11b.out
      have fS : Seen W W10 := SW10.out
      clear HYES HIN HEND
      go_upto_region 12 with fail
      rename_i hKR
      refine wp_region_lit ?_
      refine ZR (some 130) (frv zFr) W10 ?_
      simp only [Z1,Z2,Z3,Z4]
      refine ZR (some 131) (layv (.slice none 0 0) (.slice none 0 0) zPi 0) W10 ?_
      simp only [Z1,Z2,Z3,Z4]
      refine pStoreC 50 (W.heap.size + 1) 0 (frl zFr) (cs := frl zFr) (cs' := frl zFr) (t := 50) rfl (by kernel_rfl) (by kernel_rfl) zz50 (frl_one _) f10 (Nat.le_refl _) (sets_all _ _ rfl) ?_
      intro wA bA tA
      simp only [Act.put]
      refine pStoreC 55 (W.heap.size + 1 + 1) 0 (layl (.slice none 0 0) (.slice none 0 0) zPi 0) (cs := layl (.slice none 0 0) (.slice none 0 0) zPi 0) (cs' := layl (.slice none 0 0) (.slice none 0 0) zPi 0) (t := 55) rfl (by kernel_rfl) (by kernel_rfl) zz55 (layl_one rfl rfl _ _) (f11.turns tA (by omega)) (Nat.le_refl _) (sets_all _ _ rfl) ?_
      intro wC bC tC
      have bB := bA.turns tC (by omega)
      simp only [Act.put]
      refine ZR (some 12) (.bool false) wC ?_
      simp only [Z1,Z2,Z3,Z4]
      refine wpList_nil ?_
      refine hKR _ _ (wp_ret ?_)
      show bodyPost Tryz.prog Tryz.f8 _ Exit.ret _ _
      refine bodyPost_ret (results_three (u := .bool false) rfl (by kernel_rfl) (by kernel_rfl) (by kernel_rfl) (run_loadFr bB) (run_loadLr bC)) rfl ?_
      exact ⟨(fS.turns tA (by omega)).turns tC (by omega), .inl ⟨HBO.out.trans HNN, rfl⟩⟩
    · have HY := Lib.hid (HYES.out rfl)
      have HI2 := Lib.hid (HIN.out rfl)
      clear HYES HIN HNO
      go_upto_region 13 with fail
      refine wp_region_lit ?_
      refine ZR (some 132) (.pointer (some ⟨w4.heap.size, 16, none⟩)) W10 ?_
      simp only [Z1,Z2,Z3,Z4]
      refine ZX (some 133) (.agg #[.bool K.ht.own.au, .int .i64 K.ht.own.n]) W10 (run_by (Instr.loadAt 58 (.pointer (some ⟨w4.heap.size, 16, none⟩))) (by kernel_rfl) (rda58 (vs := [.bool K.ht.own.au, .int .i64 K.ht.own.n]) (Blk.mid K14b.out 16 2) rfl)) ?_
      simp only [Z1,Z2,Z3,Z4]
      refine ZR (some 24) (.pointer (some ⟨W10.heap.size, 0, none⟩)) (W10.alloc (.cells #[.bool false, .int .i64 0] 58)) ?_
      simp only [Z1,Z2,Z3,Z4]
      refine pStoreC 58 (W10.heap.size) 0 ([.bool K.ht.own.au, .int .i64 K.ht.own.n]) (cs := [.bool false, .int .i64 0]) (cs' := [.bool K.ht.own.au, .int .i64 K.ht.own.n]) (t := 58) rfl (by kernel_rfl) (by kernel_rfl) zz58 (by intro u hu; simp only [List.mem_cons, List.not_mem_nil, or_false] at hu; rcases hu with rfl | rfl <;> rfl) (Blk.new _ _ _) (Nat.le_refl _) (sets_all _ _ rfl) ?_
      intro W13 bn tn
      simp only [Act.put]
      refine wpList_nil ?_
      have S13 : Hid (Seen W10 W13) := Seen.fresh (Seen.refl W10) tn
      have K24 : Hid (Blk W13 W10.heap.size [.bool K.ht.own.au, .int .i64 K.ht.own.n] 58) := bn
      clear bn tn
      have HIU := Lib.hid (inn_au K.ht)
      have HIN1 : Hid ((innS K.ht).n = if K.ht.own.au then K.ht.own.n else clampI K.ht.own.n K.ht.lo K.ht.hi) := inn_n K.ht
      have HOUT : Hid (∀ y, outN K.ht y = clampI (if K.ht.own.au then y else K.ht.own.n) K.ht.lo K.ht.hi) := fun y => rfl
      obtain ⟨AU, hAU⟩ : ∃ q, K.ht.own.au = q := ⟨_, rfl⟩
      have HAU := Lib.hid hAU
      rw [hAU] at K24 HIU HIN1 HOUT
      clear hAU
      obtain ⟨IN, hIN⟩ : ∃ q, (innS K.ht).n = q := ⟨_, rfl⟩
      rw [HIU.out, hIN] at HI2
      rw [hIN] at HIN1
      have HINN := Lib.hid hIN
      clear hIN
      go_upto_region 14 with fail
      refine wp_region_lit ?_
      refine ZR (some 134) (.pointer (some ⟨W10.heap.size, 0, none⟩)) W13 ?_
      simp only [Z1,Z2,Z3,Z4]
      refine ZX (some 135) (.bool AU) W13 (run_by (Instr.loadAt 4 (.pointer (some ⟨W10.heap.size, 0, none⟩))) (by kernel_rfl) (rd4 (Blk.cell K24.out 0))) ?_
      simp only [Z1,Z2,Z3,Z4]
      refine ZR (some 136) (.bool (!AU)) W13 ?_
      simp only [Z1,Z2,Z3,Z4]
      refine wpList_nil ?_
      go_upto_if 136 with fail
      go_cut [] from 275 (fun wx => (Blk wx W10.heap.size [.bool AU, .int .i64 IN] 58 ∧ Seen W10 wx) : World → Prop)
      case first =>
        clear HY HI2 HEND HOUT HIU
        cases AU
        · go_upto_region 15 with fail
          refine wp_region_lit ?_
          refine ZR (some 137) (.pointer (some ⟨W10.heap.size, 1, none⟩)) W13 ?_
          simp only [Z1,Z2,Z3,Z4]
          refine ZX (some 138) (.int .i64 K.ht.own.n) W13 (run_by (Instr.loadAt 2 (.pointer (some ⟨W10.heap.size, 1, none⟩))) (by kernel_rfl) (rd2 (Blk.cell K24.out 1))) ?_
          simp only [Z1,Z2,Z3,Z4]
          refine ZR (some 139) (.pointer (some ⟨w4.heap.size, 18, none⟩)) W13 ?_
          simp only [Z1,Z2,Z3,Z4]
          refine ZX (some 140) (.int .i64 K.ht.lo) W13 (run_by (Instr.loadAt 2 (.pointer (some ⟨w4.heap.size, 18, none⟩))) (by kernel_rfl) (rd2 (Blk.cell (K14b.out.seen S13.out) 18))) ?_
          simp only [Z1,Z2,Z3,Z4]
          refine ZR (some 141) (.pointer (some ⟨w4.heap.size, 19, none⟩)) W13 ?_
          simp only [Z1,Z2,Z3,Z4]
          refine ZX (some 142) (.int .i64 K.ht.hi) W13 (run_by (Instr.loadAt 2 (.pointer (some ⟨w4.heap.size, 19, none⟩))) (by kernel_rfl) (rd2 (Blk.cell (K14b.out.seen S13.out) 19))) ?_
          simp only [Z1,Z2,Z3,Z4]
          refine pCall (some 143) 28 #[.int .i64 K.ht.own.n, .int .i64 K.ht.lo, .int .i64 K.ht.hi] rfl (by kernel_rfl) (by kernel_rfl) ?_
          refine (refClamp_any _ _ _ _).mono ?_
          rintro e w15 ⟨rfl, hb⟩
          have SL : Hid (Seen W13 w15) := hb
          clear hb
          refine ⟨_, rfl, ?_⟩
          simp only [Z1,Z2,Z3,Z4]
          refine ZR (some 144) (.pointer (some ⟨W10.heap.size, 1, none⟩)) w15 ?_
          simp only [Z1,Z2,Z3,Z4]
          refine pStore2 W10.heap.size 1 (clampI K.ht.own.n K.ht.lo K.ht.hi) (cs := [.bool false, .int .i64 K.ht.own.n]) (t := 58) (u := .int .i64 K.ht.own.n) rfl (by kernel_rfl) (by kernel_rfl) (K24.out.seen SL.out) rfl ?_
          intro w16 b16 t16
          simp only [Act.put]
          refine wpList_nil ?_
          go_wp2_with fail
          go_meet
          have hin : IN = clampI K.ht.own.n K.ht.lo K.ht.hi := HIN1.out.trans (by simp)
          exact ⟨by rw [hin]; exact b16, (S13.out.trans SL.out).turns t16 (Nat.le_refl _)⟩
        · go_wp2_with fail
          go_meet
          have hin : IN = K.ht.own.n := HIN1.out.trans (by simp)
          exact ⟨by rw [hin]; exact K24.out, S13.out⟩
      obtain ⟨k24, s13⟩ := hcut
      rename World => V13
      replace K24 := Lib.hid k24
      have KS13 := Lib.hid (Hs.seen KS10.out s13)
      have K14c := Lib.hid (K14b.out.seen s13)
      have K10c := Lib.hid (K10b.out.seen s13)
      have K11c := Lib.hid (K11b.out.seen s13)
      have K23c := Lib.hid (K23.out.seen s13)
      have SW13 := Lib.hid (SW10.out.trans s13)
      have o7 : W10.heap.size < V13.heap.size := K24.out.lt
      clear k24 s13 KS10 K14b K10b K11b K23 SW10 S13 HIN1
      have HEN : Hid ((enR K).top = (!K.alone && K.top) ∧ (enR K).bot = (!K.alone && (K.bot && (K.ht.own.au && decide (K.ht.lo = 0))))) := ⟨rfl, rfl⟩
      obtain ⟨OT, hOT⟩ : ∃ q, (enR K).top = q := ⟨_, rfl⟩
      obtain ⟨OB, hOB⟩ : ∃ q, (enR K).bot = q := ⟨_, rfl⟩
      rw [hOT, hOB, HAU.out] at HEN
      rw [hOT, hOB] at HI2
      have HOB := Lib.hid hOB
      clear hOT hOB
      have c22 : V13.cell? ⟨w4.heap.size, 22, none⟩ = some (.bool K.alone) := K14c.out.cell 22
      have c20 : V13.cell? ⟨w4.heap.size, 20, none⟩ = some (.bool K.top) := K14c.out.cell 20
      have c21 : V13.cell? ⟨w4.heap.size, 21, none⟩ = some (.bool K.bot) := K14c.out.cell 21
      have c16 : V13.cell? ⟨w4.heap.size, 16, none⟩ = some (.bool AU) := by have := K14c.out.cell 16; rw [← HAU.out]; exact this
      have c18 : V13.cell? ⟨w4.heap.size, 18, none⟩ = some (.int .i64 K.ht.lo) := K14c.out.cell 18
      go_upto_region 16 with fail
      go_cut [25] from 275 (fun u wx => (u = .bool OT ∧ V13 = wx) : Value → World → Prop)
      case first =>
        rename_i Jc Kc hJc hKc
        have HT := Lib.hid HEN.out.1
        clear HY HI2 HEND HOUT HEN c21 c16 c18
        obtain ⟨AL, hAL⟩ : ∃ q, K.alone = q := ⟨_, rfl⟩
        rw [hAL] at c22 HT
        clear hAL
        cases AL
        · have ht : OT = K.top := HT.out
          refine wp_region_lit ?_
          refine ZR (some 145) (.pointer (some ⟨w4.heap.size, 22, none⟩)) V13 ?_
          simp only [Z1,Z2,Z3,Z4]
          refine ZX (some 146) (.bool false) V13 (run_by (Instr.loadAt 4 (.pointer (some ⟨w4.heap.size, 22, none⟩))) (by kernel_rfl) (rd4 c22)) ?_
          simp only [Z1,Z2,Z3,Z4]
          refine ZR (some 147) (.bool true) V13 ?_
          simp only [Z1,Z2,Z3,Z4]
          refine ZR (some 148) (.bool true) V13 ?_
          simp only [Z1,Z2,Z3,Z4]
          refine ZR (some 149) (.pointer (some ⟨w4.heap.size, 20, none⟩)) V13 ?_
          simp only [Z1,Z2,Z3,Z4]
          refine ZX (some 150) (.bool K.top) V13 (run_by (Instr.loadAt 4 (.pointer (some ⟨w4.heap.size, 20, none⟩))) (by kernel_rfl) (rd4 c20)) ?_
          simp only [Z1,Z2,Z3,Z4]
          refine ZR (some 151) (.bool K.top) V13 ?_
          simp only [Z1,Z2,Z3,Z4]
          refine ZR (some 25) (.bool K.top) V13 ?_
          simp only [Z1,Z2,Z3,Z4]
          refine wpList_nil ?_
          refine hKc _ _ (Met.intro (hJc _ _ ?_))
          (repeat apply Exists.intro)
          refine ⟨?rel, rfl⟩
          case rel => exact  ⟨by rw [ht], rfl⟩
        · have ht : OT = false := HT.out
          refine wp_region_lit ?_
          refine ZR (some 145) (.pointer (some ⟨w4.heap.size, 22, none⟩)) V13 ?_
          simp only [Z1,Z2,Z3,Z4]
          refine ZX (some 146) (.bool true) V13 (run_by (Instr.loadAt 4 (.pointer (some ⟨w4.heap.size, 22, none⟩))) (by kernel_rfl) (rd4 c22)) ?_
          simp only [Z1,Z2,Z3,Z4]
          refine ZR (some 147) (.bool false) V13 ?_
          simp only [Z1,Z2,Z3,Z4]
          refine ZR (some 148) (.bool false) V13 ?_
          simp only [Z1,Z2,Z3,Z4]
          refine pNo (some 149) rfl (by kernel_rfl) ?_
          simp only [Z1,Z2,Z3,Z4]
          refine pNo (some 150) rfl (by kernel_rfl) ?_
          simp only [Z1,Z2,Z3,Z4]
          refine ZR (some 151) (.bool false) V13 ?_
          simp only [Z1,Z2,Z3,Z4]
          refine ZR (some 25) (.bool false) V13 ?_
          simp only [Z1,Z2,Z3,Z4]
          refine wpList_nil ?_
          refine hKc _ _ (Met.intro (hJc _ _ ?_))
          (repeat apply Exists.intro)
          refine ⟨?rel, rfl⟩
          case rel => exact  ⟨by rw [ht], rfl⟩
      obtain ⟨hu, hw⟩ := hcut
      subst hu
      subst hw
      go_upto_region 17 with fail
      go_cut [26] from 275 (fun u wx => (u = .bool OB ∧ V13 = wx) : Value → World → Prop)
      case first =>
        rename_i Jc Kc hJc hKc
        have HT := Lib.hid HEN.out.2
        clear HY HI2 HEND HOUT HEN c20
        obtain ⟨AL, hAL⟩ : ∃ q, K.alone = q := ⟨_, rfl⟩
        obtain ⟨BT, hBT⟩ : ∃ q, K.bot = q := ⟨_, rfl⟩
        obtain ⟨LZ, hLZ⟩ : ∃ q, decide (K.ht.lo = 0) = q := ⟨_, rfl⟩
        rw [hAL] at c22 HT
        rw [hBT] at c21 HT
        rw [hLZ] at HT
        clear hAL hBT
        cases AL
        · cases BT
          · have ht : OB = false := HT.out
            refine wp_region_lit ?_
            refine ZR (some 152) (.pointer (some ⟨w4.heap.size, 22, none⟩)) V13 ?_
            simp only [Z1,Z2,Z3,Z4]
            refine ZX (some 153) (.bool false) V13 (run_by (Instr.loadAt 4 (.pointer (some ⟨w4.heap.size, 22, none⟩))) (by kernel_rfl) (rd4 c22)) ?_
            simp only [Z1,Z2,Z3,Z4]
            refine ZR (some 154) (.bool true) V13 ?_
            simp only [Z1,Z2,Z3,Z4]
            refine ZR (some 155) (.bool true) V13 ?_
            simp only [Z1,Z2,Z3,Z4]
            refine ZR (some 156) (.pointer (some ⟨w4.heap.size, 21, none⟩)) V13 ?_
            simp only [Z1,Z2,Z3,Z4]
            refine ZX (some 157) (.bool false) V13 (run_by (Instr.loadAt 4 (.pointer (some ⟨w4.heap.size, 21, none⟩))) (by kernel_rfl) (rd4 c21)) ?_
            simp only [Z1,Z2,Z3,Z4]
            refine ZR (some 158) (.bool false) V13 ?_
            simp only [Z1,Z2,Z3,Z4]
            refine ZR (some 159) (.bool false) V13 ?_
            simp only [Z1,Z2,Z3,Z4]
            refine pNo (some 160) rfl (by kernel_rfl) ?_
            simp only [Z1,Z2,Z3,Z4]
            refine pNo (some 161) rfl (by kernel_rfl) ?_
            simp only [Z1,Z2,Z3,Z4]
            refine pNo (some 162) rfl (by kernel_rfl) ?_
            simp only [Z1,Z2,Z3,Z4]
            refine ZR (some 163) (.bool false) V13 ?_
            simp only [Z1,Z2,Z3,Z4]
            refine ZR (some 164) (.bool false) V13 ?_
            simp only [Z1,Z2,Z3,Z4]
            refine pNo (some 165) rfl (by kernel_rfl) ?_
            simp only [Z1,Z2,Z3,Z4]
            refine pNo (some 166) rfl (by kernel_rfl) ?_
            simp only [Z1,Z2,Z3,Z4]
            refine pNo (some 167) rfl (by kernel_rfl) ?_
            simp only [Z1,Z2,Z3,Z4]
            refine ZR (some 168) (.bool false) V13 ?_
            simp only [Z1,Z2,Z3,Z4]
            refine ZR (some 26) (.bool false) V13 ?_
            simp only [Z1,Z2,Z3,Z4]
            refine wpList_nil ?_
            refine hKc _ _ (Met.intro (hJc _ _ ?_))
            (repeat apply Exists.intro)
            refine ⟨?rel, rfl⟩
            case rel => exact  ⟨by rw [ht], rfl⟩
          · cases AU
            · have ht : OB = false := HT.out
              refine wp_region_lit ?_
              refine ZR (some 152) (.pointer (some ⟨w4.heap.size, 22, none⟩)) V13 ?_
              simp only [Z1,Z2,Z3,Z4]
              refine ZX (some 153) (.bool false) V13 (run_by (Instr.loadAt 4 (.pointer (some ⟨w4.heap.size, 22, none⟩))) (by kernel_rfl) (rd4 c22)) ?_
              simp only [Z1,Z2,Z3,Z4]
              refine ZR (some 154) (.bool true) V13 ?_
              simp only [Z1,Z2,Z3,Z4]
              refine ZR (some 155) (.bool true) V13 ?_
              simp only [Z1,Z2,Z3,Z4]
              refine ZR (some 156) (.pointer (some ⟨w4.heap.size, 21, none⟩)) V13 ?_
              simp only [Z1,Z2,Z3,Z4]
              refine ZX (some 157) (.bool true) V13 (run_by (Instr.loadAt 4 (.pointer (some ⟨w4.heap.size, 21, none⟩))) (by kernel_rfl) (rd4 c21)) ?_
              simp only [Z1,Z2,Z3,Z4]
              refine ZR (some 158) (.bool true) V13 ?_
              simp only [Z1,Z2,Z3,Z4]
              refine ZR (some 159) (.bool true) V13 ?_
              simp only [Z1,Z2,Z3,Z4]
              refine ZR (some 160) (.pointer (some ⟨w4.heap.size, 16, none⟩)) V13 ?_
              simp only [Z1,Z2,Z3,Z4]
              refine ZR (some 161) (.pointer (some ⟨w4.heap.size, 16, none⟩)) V13 ?_
              simp only [Z1,Z2,Z3,Z4]
              refine ZX (some 162) (.bool false) V13 (run_by (Instr.loadAt 4 (.pointer (some ⟨w4.heap.size, 16, none⟩))) (by kernel_rfl) (rd4 c16)) ?_
              simp only [Z1,Z2,Z3,Z4]
              refine ZR (some 163) (.bool false) V13 ?_
              simp only [Z1,Z2,Z3,Z4]
              refine ZR (some 164) (.bool false) V13 ?_
              simp only [Z1,Z2,Z3,Z4]
              refine pNo (some 165) rfl (by kernel_rfl) ?_
              simp only [Z1,Z2,Z3,Z4]
              refine pNo (some 166) rfl (by kernel_rfl) ?_
              simp only [Z1,Z2,Z3,Z4]
              refine pNo (some 167) rfl (by kernel_rfl) ?_
              simp only [Z1,Z2,Z3,Z4]
              refine ZR (some 168) (.bool false) V13 ?_
              simp only [Z1,Z2,Z3,Z4]
              refine ZR (some 26) (.bool false) V13 ?_
              simp only [Z1,Z2,Z3,Z4]
              refine wpList_nil ?_
              refine hKc _ _ (Met.intro (hJc _ _ ?_))
              (repeat apply Exists.intro)
              refine ⟨?rel, rfl⟩
              case rel => exact  ⟨by rw [ht], rfl⟩
            · have ht : OB = LZ := HT.out
              refine wp_region_lit ?_
              refine ZR (some 152) (.pointer (some ⟨w4.heap.size, 22, none⟩)) V13 ?_
              simp only [Z1,Z2,Z3,Z4]
              refine ZX (some 153) (.bool false) V13 (run_by (Instr.loadAt 4 (.pointer (some ⟨w4.heap.size, 22, none⟩))) (by kernel_rfl) (rd4 c22)) ?_
              simp only [Z1,Z2,Z3,Z4]
              refine ZR (some 154) (.bool true) V13 ?_
              simp only [Z1,Z2,Z3,Z4]
              refine ZR (some 155) (.bool true) V13 ?_
              simp only [Z1,Z2,Z3,Z4]
              refine ZR (some 156) (.pointer (some ⟨w4.heap.size, 21, none⟩)) V13 ?_
              simp only [Z1,Z2,Z3,Z4]
              refine ZX (some 157) (.bool true) V13 (run_by (Instr.loadAt 4 (.pointer (some ⟨w4.heap.size, 21, none⟩))) (by kernel_rfl) (rd4 c21)) ?_
              simp only [Z1,Z2,Z3,Z4]
              refine ZR (some 158) (.bool true) V13 ?_
              simp only [Z1,Z2,Z3,Z4]
              refine ZR (some 159) (.bool true) V13 ?_
              simp only [Z1,Z2,Z3,Z4]
              refine ZR (some 160) (.pointer (some ⟨w4.heap.size, 16, none⟩)) V13 ?_
              simp only [Z1,Z2,Z3,Z4]
              refine ZR (some 161) (.pointer (some ⟨w4.heap.size, 16, none⟩)) V13 ?_
              simp only [Z1,Z2,Z3,Z4]
              refine ZX (some 162) (.bool true) V13 (run_by (Instr.loadAt 4 (.pointer (some ⟨w4.heap.size, 16, none⟩))) (by kernel_rfl) (rd4 c16)) ?_
              simp only [Z1,Z2,Z3,Z4]
              refine ZR (some 163) (.bool true) V13 ?_
              simp only [Z1,Z2,Z3,Z4]
              refine ZR (some 164) (.bool true) V13 ?_
              simp only [Z1,Z2,Z3,Z4]
              refine ZR (some 165) (.pointer (some ⟨w4.heap.size, 18, none⟩)) V13 ?_
              simp only [Z1,Z2,Z3,Z4]
              refine ZX (some 166) (.int .i64 K.ht.lo) V13 (run_by (Instr.loadAt 2 (.pointer (some ⟨w4.heap.size, 18, none⟩))) (by kernel_rfl) (rd2 c18)) ?_
              simp only [Z1,Z2,Z3,Z4]
              refine ZX (some 167) (.bool LZ) V13 (run_by (binOp .eql 2 (.int .i64 K.ht.lo) (.int .i64 0)) (by kernel_rfl) (eqn2 _ hLZ)) ?_
              simp only [Z1,Z2,Z3,Z4]
              refine ZR (some 168) (.bool LZ) V13 ?_
              simp only [Z1,Z2,Z3,Z4]
              refine ZR (some 26) (.bool LZ) V13 ?_
              simp only [Z1,Z2,Z3,Z4]
              refine wpList_nil ?_
              refine hKc _ _ (Met.intro (hJc _ _ ?_))
              (repeat apply Exists.intro)
              refine ⟨?rel, rfl⟩
              case rel => exact  ⟨by rw [ht], rfl⟩
        · have ht : OB = false := HT.out
          refine wp_region_lit ?_
          refine ZR (some 152) (.pointer (some ⟨w4.heap.size, 22, none⟩)) V13 ?_
          simp only [Z1,Z2,Z3,Z4]
          refine ZX (some 153) (.bool true) V13 (run_by (Instr.loadAt 4 (.pointer (some ⟨w4.heap.size, 22, none⟩))) (by kernel_rfl) (rd4 c22)) ?_
          simp only [Z1,Z2,Z3,Z4]
          refine ZR (some 154) (.bool false) V13 ?_
          simp only [Z1,Z2,Z3,Z4]
          refine ZR (some 155) (.bool false) V13 ?_
          simp only [Z1,Z2,Z3,Z4]
          refine pNo (some 156) rfl (by kernel_rfl) ?_
          simp only [Z1,Z2,Z3,Z4]
          refine pNo (some 157) rfl (by kernel_rfl) ?_
          simp only [Z1,Z2,Z3,Z4]
          refine ZR (some 158) (.bool false) V13 ?_
          simp only [Z1,Z2,Z3,Z4]
          refine ZR (some 159) (.bool false) V13 ?_
          simp only [Z1,Z2,Z3,Z4]
          refine pNo (some 160) rfl (by kernel_rfl) ?_
          simp only [Z1,Z2,Z3,Z4]
          refine pNo (some 161) rfl (by kernel_rfl) ?_
          simp only [Z1,Z2,Z3,Z4]
          refine pNo (some 162) rfl (by kernel_rfl) ?_
          simp only [Z1,Z2,Z3,Z4]
          refine ZR (some 163) (.bool false) V13 ?_
          simp only [Z1,Z2,Z3,Z4]
          refine ZR (some 164) (.bool false) V13 ?_
          simp only [Z1,Z2,Z3,Z4]
          refine pNo (some 165) rfl (by kernel_rfl) ?_
          simp only [Z1,Z2,Z3,Z4]
          refine pNo (some 166) rfl (by kernel_rfl) ?_
          simp only [Z1,Z2,Z3,Z4]
          refine pNo (some 167) rfl (by kernel_rfl) ?_
          simp only [Z1,Z2,Z3,Z4]
          refine ZR (some 168) (.bool false) V13 ?_
          simp only [Z1,Z2,Z3,Z4]
          refine ZR (some 26) (.bool false) V13 ?_
          simp only [Z1,Z2,Z3,Z4]
          refine wpList_nil ?_
          refine hKc _ _ (Met.intro (hJc _ _ ?_))
          (repeat apply Exists.intro)
          refine ⟨?rel, rfl⟩
          case rel => exact  ⟨by rw [ht], rfl⟩
      obtain ⟨hu, hw⟩ := hcut
      subst hu
      subst hw
      clear HEN c16 c18 c20 c21 c22
      go_upto_region 18 with fail
      refine wp_region_lit ?_
      refine ZR (some 170) (.slice (some ⟨b, off, none⟩) N cp) V13 ?_
      simp only [Z1,Z2,Z3,Z4]
      refine ZR (some 171) (.int .i64 (n : Int)) V13 ?_
      simp only [Z1,Z2,Z3,Z4]
      refine ZR (some 172) (.pointer (some ⟨w10.heap.size, 1, none⟩)) V13 ?_
      simp only [Z1,Z2,Z3,Z4]
      refine ZX (some 173) (.int .i64 O.w) V13 (run_by (Instr.loadAt 2 (.pointer (some ⟨w10.heap.size, 1, none⟩))) (by kernel_rfl) (rd2 (Blk.cell K23c.out 1))) ?_
      simp only [Z1,Z2,Z3,Z4]
      refine ZX (some 174) (.agg #[.bool AU, .int .i64 IN]) V13 (run_by (Instr.loadAt 58 (.pointer (some ⟨W10.heap.size, 0, none⟩))) (by kernel_rfl) (rda58 (vs := [.bool AU, .int .i64 IN]) (Blk.mid K24.out 0 2) rfl)) ?_
      simp only [Z1,Z2,Z3,Z4]
      refine ZR (some 175) (.bool OT) V13 ?_
      simp only [Z1,Z2,Z3,Z4]
      refine ZR (some 176) (.bool OB) V13 ?_
      simp only [Z1,Z2,Z3,Z4]
      refine pCall (some 177) 29 #[.slice (some ⟨b, off, none⟩) N cp, .int .i64 (n : Int), .int .i64 (-1), .int .i64 O.w, .agg #[.bool AU, .int .i64 IN], .bool OT, .bool OB] rfl (by kernel_rfl) (by kernel_rfl) ?_
      refine (HI2.out V13 (HSW.out.trans SW13.out)).mono ?_
      rintro e w18 han
      obtain ⟨hb, lv, yv, P, hi, ok, rfl, ov, oy, hor⟩ := han.form
      have SM : Hid (Seen V13 w18) := hb
      have HOR := Lib.hid hor
      clear hb han hor HI2
      refine ⟨_, rfl, ?_⟩
      simp only [Z1,Z2,Z3,Z4]
      refine ZR (some 169) (.tuple #[layv lv yv P hi, .bool ok]) w18 ?_
      simp only [Z1,Z2,Z3,Z4]
      refine ZR (some 178) (layv lv yv P hi) w18 ?_
      simp only [Z1,Z2,Z3,Z4]
      refine ZR (some 179) (.bool ok) w18 ?_
      simp only [Z1,Z2,Z3,Z4]
      refine ZR (some 27) (.pointer (some ⟨w18.heap.size, 0, none⟩)) (w18.alloc (.cells (layl (.slice none 0 0) (.slice none 0 0) zPi 0).toArray 55)) ?_
      simp only [Z1,Z2,Z3,Z4]
      refine pStoreC 55 (w18.heap.size) 0 (layl lv yv P hi) (cs := (layl (.slice none 0 0) (.slice none 0 0) zPi 0)) (cs' := layl lv yv P hi) (t := 55) rfl (by kernel_rfl) (by kernel_rfl) zz55 (layl_one ov oy _ _) (Blk.new _ _ _) (Nat.le_refl _) (sets_all _ _ rfl) ?_
      intro W18 bn tn
      simp only [Act.put]
      refine ZR (some 15) (.bool ok) W18 ?_
      simp only [Z1,Z2,Z3,Z4]
      refine wpList_nil ?_
      have SN : Hid (Seen w18 W18) := Seen.fresh (Seen.refl w18) tn
      have K27 : Hid (Blk W18 w18.heap.size (layl lv yv P hi) 55) := bn
      have S1318 := Lib.hid (SM.out.trans SN.out)
      have KS18 := Lib.hid (Hs.seen KS13.out S1318.out)
      have K14d := Lib.hid (K14c.out.seen S1318.out)
      have K10d := Lib.hid (K10c.out.seen S1318.out)
      have K11d := Lib.hid (K11c.out.seen S1318.out)
      have K23d := Lib.hid (K23c.out.seen S1318.out)
      have K24d := Lib.hid (K24.out.seen S1318.out)
      have SW18 := Lib.hid (SW13.out.trans S1318.out)
      have o8 : V13.heap.size ≤ w18.heap.size := SM.out.size
      have o9 : w18.heap.size < W18.heap.size := K27.out.lt
      have o10 : W.heap.size ≤ V13.heap.size := SW13.out.size
      have HORW : Hid ((contO (boxO l k) (flowV l n) ⟨O.w, innS K.ht, s.rtl⟩ (enR K) = none ∧ ok = false) ∨ (∃ b a cap, contO (boxO l k) (flowV l n) ⟨O.w, innS K.ht, s.rtl⟩ (enR K) = some b ∧ ok = true ∧ P = b.p ∧ hi = b.hi ∧ yv = .slice a b.p.y.length cap ∧ GR pdl 116 26 W18 W.heap.size lv b.l ∧ RP W18 W.heap.size yv b.p.y)) := by
        rcases HOR.out with h1 | ⟨b1, a1, cap1, h1, h2, h3, h4, h5, h6, h7⟩
        · exact .inl h1
        · exact .inr ⟨b1, a1, cap1, h1, h2, h3, h4, h5, row_more (h6.seen SN.out) o10, row_more (RP.seen h7 SN.out) o10⟩
      clear bn tn KS13 K14c K10c K11c K23c K24 SW13 SM SN S1318 HOR
      go_upto_region 19 with fail
      refine wp_region_lit ?_
      refine ZR (some 180) (.pointer (some ⟨w10.heap.size, 0, none⟩)) W18 ?_
      simp only [Z1,Z2,Z3,Z4]
      refine ZX (some 181) (.int .i64 O.l) W18 (run_by (Instr.loadAt 2 (.pointer (some ⟨w10.heap.size, 0, none⟩))) (by kernel_rfl) (rd2 (Blk.cell K23d.out 0))) ?_
      simp only [Z1,Z2,Z3,Z4]
      refine ZR (some 182) (.pointer (some ⟨w10.heap.size, 1, none⟩)) W18 ?_
      simp only [Z1,Z2,Z3,Z4]
      refine ZX (some 183) (.int .i64 O.w) W18 (run_by (Instr.loadAt 2 (.pointer (some ⟨w10.heap.size, 1, none⟩))) (by kernel_rfl) (rd2 (Blk.cell K23d.out 1))) ?_
      simp only [Z1,Z2,Z3,Z4]
      refine ZR (some 184) (.pointer (some ⟨W10.heap.size, 1, none⟩)) W18 ?_
      simp only [Z1,Z2,Z3,Z4]
      refine ZX (some 185) (.int .i64 IN) W18 (run_by (Instr.loadAt 2 (.pointer (some ⟨W10.heap.size, 1, none⟩))) (by kernel_rfl) (rd2 (Blk.cell K24d.out 1))) ?_
      simp only [Z1,Z2,Z3,Z4]
      refine ZR (some 186) (.pointer (some ⟨w1.heap.size, 38, none⟩)) W18 ?_
      simp only [Z1,Z2,Z3,Z4]
      refine ZX (some 187) (.agg #[.int .i64 (bat s.bord 0), .int .i64 (bat s.bord 1), .int .i64 (bat s.bord 2), .int .i64 (bat s.bord 3)]) W18 (run_by (Instr.loadAt 31 (.pointer (some ⟨w1.heap.size, 38, none⟩))) (by kernel_rfl) (rda31 (vs := [.int .i64 (bat s.bord 0), .int .i64 (bat s.bord 1), .int .i64 (bat s.bord 2), .int .i64 (bat s.bord 3)]) (range_bord KS18.out HF.out) rfl)) ?_
      simp only [Z1,Z2,Z3,Z4]
      refine ZR (some 188) (.pointer (some ⟨W10.heap.size, 0, none⟩)) W18 ?_
      simp only [Z1,Z2,Z3,Z4]
      refine ZX (some 189) (.bool AU) W18 (run_by (Instr.loadAt 4 (.pointer (some ⟨W10.heap.size, 0, none⟩))) (by kernel_rfl) (rd4 (Blk.cell K24d.out 0))) ?_
      simp only [Z1,Z2,Z3,Z4]
      refine ZR (some 190) (.bool (!AU)) W18 ?_
      simp only [Z1,Z2,Z3,Z4]
      refine ZR (some 191) (frv (⟨O.l, 0, O.w, IN, zI4, zI4, bd4 s, !AU, zeroC⟩ : Fr)) W18 ?_
      simp only [Z1,Z2,Z3,Z4]
      refine ZR (some 28) (.pointer (some ⟨W18.heap.size, 0, none⟩)) (W18.alloc (.cells (frl zFr).toArray 50)) ?_
      simp only [Z1,Z2,Z3,Z4]
      refine pStoreC 50 (W18.heap.size) 0 (frl (⟨O.l, 0, O.w, IN, zI4, zI4, bd4 s, !AU, zeroC⟩ : Fr)) (cs := (frl zFr)) (cs' := frl (⟨O.l, 0, O.w, IN, zI4, zI4, bd4 s, !AU, zeroC⟩ : Fr)) (t := 50) rfl (by kernel_rfl) (by kernel_rfl) zz50 (frl_one _) (Blk.new _ _ _) (Nat.le_refl _) (sets_all _ _ rfl) ?_
      intro W19 bn tn
      simp only [Act.put]
      refine wpList_nil ?_
      have S19 : Hid (Seen W18 W19) := Seen.fresh (Seen.refl W18) tn
      have K28 : Hid (Blk W19 W18.heap.size (frl (⟨O.l, 0, O.w, IN, zI4, zI4, bd4 s, !AU, zeroC⟩ : Fr)) 50) := bn
      clear bn tn
      obtain ⟨H, hH⟩ : ∃ q, outN K.ht hi = q := ⟨_, rfl⟩
      have HH := Lib.hid hH
      have HO2 := Lib.hid (HOUT.out hi)
      rw [hH] at HO2
      clear hH HOUT
      go_upto_region 20 with fail
      refine wp_region_lit ?_
      refine ZR (some 192) (.pointer (some ⟨W10.heap.size, 0, none⟩)) W19 ?_
      simp only [Z1,Z2,Z3,Z4]
      refine ZX (some 193) (.bool AU) W19 (run_by (Instr.loadAt 4 (.pointer (some ⟨W10.heap.size, 0, none⟩))) (by kernel_rfl) (rd4 (Blk.cell (K24d.out.seen S19.out) 0))) ?_
      simp only [Z1,Z2,Z3,Z4]
      refine wpList_nil ?_
      go_upto_if 193 with fail
      go_cut [] from 275 (fun wx => (Blk wx W18.heap.size (frl (⟨O.l, 0, O.w, H, zI4, zI4, bd4 s, !AU, zeroC⟩ : Fr)) 50 ∧ Seen W18 wx) : World → Prop)
      case first =>
        clear HY HEND HORW
        cases AU
        · go_wp2_with fail
          go_meet
          have hin : H = IN := HO2.out.trans ((by simp : _ = clampI K.ht.own.n K.ht.lo K.ht.hi).trans (by rw [← HINN.out, inn_n, HAU.out]; simp))
          exact ⟨by rw [hin]; exact K28.out, S19.out⟩
        · go_upto_region 21 with fail
          refine wp_region_lit ?_
          refine ZR (some 194) (.pointer (some ⟨w18.heap.size, 8, none⟩)) W19 ?_
          simp only [Z1,Z2,Z3,Z4]
          refine ZX (some 195) (.int .i64 hi) W19 (run_by (Instr.loadAt 2 (.pointer (some ⟨w18.heap.size, 8, none⟩))) (by kernel_rfl) (rd2 (Blk.cell (K27.out.seen S19.out) 8))) ?_
          simp only [Z1,Z2,Z3,Z4]
          refine ZR (some 196) (.pointer (some ⟨w4.heap.size, 18, none⟩)) W19 ?_
          simp only [Z1,Z2,Z3,Z4]
          refine ZX (some 197) (.int .i64 K.ht.lo) W19 (run_by (Instr.loadAt 2 (.pointer (some ⟨w4.heap.size, 18, none⟩))) (by kernel_rfl) (rd2 (Blk.cell (K14d.out.seen S19.out) 18))) ?_
          simp only [Z1,Z2,Z3,Z4]
          refine ZR (some 198) (.pointer (some ⟨w4.heap.size, 19, none⟩)) W19 ?_
          simp only [Z1,Z2,Z3,Z4]
          refine ZX (some 199) (.int .i64 K.ht.hi) W19 (run_by (Instr.loadAt 2 (.pointer (some ⟨w4.heap.size, 19, none⟩))) (by kernel_rfl) (rd2 (Blk.cell (K14d.out.seen S19.out) 19))) ?_
          simp only [Z1,Z2,Z3,Z4]
          refine pCall (some 200) 28 #[.int .i64 hi, .int .i64 K.ht.lo, .int .i64 K.ht.hi] rfl (by kernel_rfl) (by kernel_rfl) ?_
          refine (refClamp_any _ _ _ _).mono ?_
          rintro e w20 ⟨rfl, hb⟩
          have SL : Hid (Seen W19 w20) := hb
          clear hb
          refine ⟨_, rfl, ?_⟩
          simp only [Z1,Z2,Z3,Z4]
          refine ZR (some 201) (.pointer (some ⟨W18.heap.size, 3, none⟩)) w20 ?_
          simp only [Z1,Z2,Z3,Z4]
          refine pStore2 W18.heap.size 3 (clampI hi K.ht.lo K.ht.hi) (cs := frl (⟨O.l, 0, O.w, IN, zI4, zI4, bd4 s, !true, zeroC⟩ : Fr)) (t := 50) (u := .int .i64 IN) rfl (by kernel_rfl) (by kernel_rfl) (K28.out.seen SL.out) rfl ?_
          intro w21 b21 t21
          simp only [Act.put]
          refine wpList_nil ?_
          go_wp2_with fail
          go_meet
          have hin : H = clampI hi K.ht.lo K.ht.hi := HO2.out.trans (by simp)
          exact ⟨by rw [hin]; exact b21, (S19.out.trans SL.out).turns t21 (Nat.le_refl _)⟩
      obtain ⟨k28, s20⟩ := hcut
      rename World => V20
      replace K28 := Lib.hid k28
      have S20 := Lib.hid s20
      clear k28 s20 S19 HO2 K24d
      go_upto_region 22 with fail
      go_cut [] from 275 (fun wx => (Blk wx W18.heap.size (frl (⟨O.l, 0, O.w, H, ⟨orV K.mg.a 0, O.r, orV K.mg.c 0, O.l⟩, zI4, bd4 s, !AU, zeroC⟩ : Fr)) 50 ∧ Seen W18 wx) : World → Prop)
      case first =>
        rename_i Jc Kc hJc hKc
        clear HY HEND HORW
        have acc0 : Seen W18 V20.drew := S20.out.drew
        have k0 : Blk V20.drew W18.heap.size (frl (⟨O.l, 0, O.w, H, zI4, zI4, bd4 s, !AU, zeroC⟩ : Fr)) 50 := K28.out.drew
        have o20 : W18.heap.size < V20.heap.size := K28.out.lt
        refine wp_region_held_drew (S := fun w' => Seen W18 w') (by kernel_rfl) acc0 (fun _ => ?_)
        refine ZT 0 (some 202) (.pointer (some ⟨w4.heap.size, 0, none⟩)) acc0 ?_
        simp only [Z1,Z2,Z3,Z4]
        refine ZT 1 (some 203) (.pointer (some ⟨w4.heap.size, 0, none⟩)) acc0 ?_
        simp only [Z1,Z2,Z3,Z4]
        refine ZU 2 (some 204) (.agg #[.bool K.mg.a.au, .int .i64 K.mg.a.n]) (fun _ hS => run_by (Instr.loadAt 58 (.pointer (some ⟨w4.heap.size, 0, none⟩))) (by kernel_rfl) (rda58 (vs := [.bool K.mg.a.au, .int .i64 K.mg.a.n]) (Blk.mid (K14d.out.seen hS) 0 2) rfl)) acc0 ?_
        simp only [Z1,Z2,Z3,Z4]
        refine ZT 4 (some 206) (.pointer (some ⟨w10.heap.size, 2, none⟩)) acc0 ?_
        simp only [Z1,Z2,Z3,Z4]
        refine ZU 5 (some 207) (.int .i64 O.r) (fun _ hS => run_by (Instr.loadAt 2 (.pointer (some ⟨w10.heap.size, 2, none⟩))) (by kernel_rfl) (rd2 (Blk.cell (K23d.out.seen hS) 2))) acc0 ?_
        simp only [Z1,Z2,Z3,Z4]
        refine ZT 6 (some 208) (.pointer (some ⟨w4.heap.size, 0, none⟩)) acc0 ?_
        simp only [Z1,Z2,Z3,Z4]
        refine ZT 7 (some 209) (.pointer (some ⟨w4.heap.size, 4, none⟩)) acc0 ?_
        simp only [Z1,Z2,Z3,Z4]
        refine ZU 8 (some 210) (.agg #[.bool K.mg.c.au, .int .i64 K.mg.c.n]) (fun _ hS => run_by (Instr.loadAt 58 (.pointer (some ⟨w4.heap.size, 4, none⟩))) (by kernel_rfl) (rda58 (vs := [.bool K.mg.c.au, .int .i64 K.mg.c.n]) (Blk.mid (K14d.out.seen hS) 4 2) rfl)) acc0 ?_
        simp only [Z1,Z2,Z3,Z4]
        refine ZT 10 (some 212) (.pointer (some ⟨w10.heap.size, 0, none⟩)) acc0 ?_
        simp only [Z1,Z2,Z3,Z4]
        refine ZU 11 (some 213) (.int .i64 O.l) (fun _ hS => run_by (Instr.loadAt 2 (.pointer (some ⟨w10.heap.size, 0, none⟩))) (by kernel_rfl) (rd2 (Blk.cell (K23d.out.seen hS) 0))) acc0 ?_
        simp only [Z1,Z2,Z3,Z4]
        refine ZC 3 (some 205) 30 #[.agg #[.bool K.mg.a.au, .int .i64 K.mg.a.n], .int .i64 0] ?_
        refine (refOr_any K.mg.a 0 _).mono ?_
        rintro e wd1 ⟨rfl, hb⟩
        have acc1 : Seen W18 wd1 := Seen.next acc0 hb
        have k1 := Blk.seen k0 hb
        clear hb
        refine ⟨_, rfl, acc1, ?_⟩
        simp only [Z1,Z2,Z3,Z4]
        refine ZC 9 (some 211) 30 #[.agg #[.bool K.mg.c.au, .int .i64 K.mg.c.n], .int .i64 0] ?_
        refine (refOr_any K.mg.c 0 _).mono ?_
        rintro e wd2 ⟨rfl, hb⟩
        have acc2 : Seen W18 wd2 := Seen.next acc1 hb
        have k2 := Blk.seen k1 hb
        clear hb
        refine ⟨_, rfl, acc2, ?_⟩
        simp only [Z1,Z2,Z3,Z4]
        refine ZT 12 (some 214) (.agg #[.int .i64 (orV K.mg.a 0), .int .i64 O.r, .int .i64 (orV K.mg.c 0), .int .i64 O.l]) acc2 ?_
        simp only [Z1,Z2,Z3,Z4]
        refine ZT 13 (some 215) (.pointer (some ⟨W18.heap.size, 4, none⟩)) acc2 ?_
        simp only [Z1,Z2,Z3,Z4]
        refine ZK 14 none (run_skip_by (Instr.storeAt 31 (.pointer (some ⟨W18.heap.size, 4, none⟩)) (.agg #[.int .i64 (orV K.mg.a 0), .int .i64 O.r, .int .i64 (orV K.mg.c 0), .int .i64 O.l])) (by kernel_rfl) (wr31 (vs := [.int .i64 (orV K.mg.a 0), .int .i64 O.r, .int .i64 (orV K.mg.c 0), .int .i64 O.l]) k2 rfl (by show 4 + 4 ≤ 25; decide) four_one)) ((Seen.turns acc2 (turns_sets _ (W18.heap.size) 4 [.int .i64 (orV K.mg.a 0), .int .i64 O.r, .int .i64 (orV K.mg.c 0), .int .i64 O.l]) (Nat.le_refl _))) ?_
        simp only [Act.put]
        refine wpAnyH_done (by kernel_rfl) ?_ _
        have z1 : Blk _ W18.heap.size (frl (⟨O.l, 0, O.w, H, ⟨orV K.mg.a 0, O.r, orV K.mg.c 0, O.l⟩, zI4, bd4 s, !AU, zeroC⟩ : Fr)) 50 := (block_sets k2 4 [.int .i64 (orV K.mg.a 0), .int .i64 O.r, .int .i64 (orV K.mg.c 0), .int .i64 O.l] rfl)
        have z2 := (Seen.turns acc2 (turns_sets _ (W18.heap.size) 4 [.int .i64 (orV K.mg.a 0), .int .i64 O.r, .int .i64 (orV K.mg.c 0), .int .i64 O.l]) (Nat.le_refl _))
        refine hKc _ _ (Met.intro (hJc _ _ ?_))
        (repeat apply Exists.intro)
        refine ⟨?rel, rfl⟩
        case rel => exact ⟨z1, z2⟩
      obtain ⟨k28, s22⟩ := hcut
      rename World => V22
      replace K28 := Lib.hid k28
      have S22 := Lib.hid s22
      clear k28 s22 S20
      go_upto_region 23 with fail
      refine wp_region_lit ?_
      refine ZR (some 216) (.int .i64 0) V22 ?_
      simp only [Z1,Z2,Z3,Z4]
      refine wpList_nil ?_
      go_wp2_with fail
      go_loopw [216] (fun i wr => ∃ j : Nat, i = .int .i64 (j : Int) ∧ j ≤ 4 ∧ Blk wr W18.heap.size (frl (⟨O.l, 0, O.w, H, ⟨orV K.mg.a 0, O.r, orV K.mg.c 0, O.l⟩, (padTo K.pd j), bd4 s, !AU, zeroC⟩ : Fr)) 50 ∧ Seen W18 wr) (fun i _ => 4 - (intOf i).toNat)
      case atStart => exact ⟨0, rfl, by omega, K28.out, S22.out⟩
      case round =>
        obtain ⟨j, rfl, hj, hk, hsr⟩ := hrel
        clear K28 S22
        rcases (show j = 0 ∨ j = 1 ∨ j = 2 ∨ j = 3 ∨ j = 4 by omega) with rfl | rfl | rfl | rfl | rfl
        · clear HY HEND HORW
          go_upto_region 24 with fail
          refine wp_region_lit ?_
          refine ZR (some 217) (.bool true) wr ?_
          simp only [Z1,Z2,Z3,Z4]
          refine wpList_nil ?_
          go_upto_region 25 with fail
          refine wp_region_lit ?_
          refine ZR (some 218) (.int .i64 0) wr ?_
          simp only [Z1,Z2,Z3,Z4]
          refine ZR (some 29) (.int .i64 0) wr ?_
          simp only [Z1,Z2,Z3,Z4]
          refine wpList_nil ?_
          go_upto_region 26 with fail
          refine wp_region_lit ?_
          refine ZR (some 219) (.int .i64 0) wr ?_
          simp only [Z1,Z2,Z3,Z4]
          refine ZR (some 220) (.int .i64 0) wr ?_
          simp only [Z1,Z2,Z3,Z4]
          refine ZR (some 221) (.pointer (some ⟨w4.heap.size, 8, none⟩)) wr ?_
          simp only [Z1,Z2,Z3,Z4]
          refine ZR (some 222) (.pointer (some ⟨w4.heap.size, 8, none⟩)) wr ?_
          simp only [Z1,Z2,Z3,Z4]
          refine ZR (some 223) (.pointer (some ⟨w4.heap.size, 9, none⟩)) wr ?_
          simp only [Z1,Z2,Z3,Z4]
          refine ZX (some 224) (.int .i64 K.pd.a.n) wr (run_by (Instr.loadAt 2 (.pointer (some ⟨w4.heap.size, 9, none⟩))) (by kernel_rfl) (rd2 (Blk.cell (K14d.out.seen hsr) 9))) ?_
          simp only [Z1,Z2,Z3,Z4]
          refine ZR (some 225) (.pointer (some ⟨W18.heap.size, 8, none⟩)) wr ?_
          simp only [Z1,Z2,Z3,Z4]
          refine ZR (some 226) (.pointer (some ⟨W18.heap.size, 8, none⟩)) wr ?_
          simp only [Z1,Z2,Z3,Z4]
          refine pStore2 W18.heap.size 8 K.pd.a.n (cs := frl (⟨O.l, 0, O.w, H, ⟨orV K.mg.a 0, O.r, orV K.mg.c 0, O.l⟩, (padTo K.pd 0), bd4 s, !AU, zeroC⟩ : Fr)) (t := 50) (u := .int .i64 0) rfl (by kernel_rfl) (by kernel_rfl) hk rfl ?_
          intro wl bl tl
          simp only [Act.put]
          refine wpList_nil ?_
          go_upto_region 27 with fail
          refine wp_region_lit ?_
          refine ZR (some 227) (.int .i64 1) wl ?_
          simp only [Z1,Z2,Z3,Z4]
          refine ZR (some 216) (.int .i64 1) wl ?_
          simp only [Z1,Z2,Z3,Z4]
          refine wpList_nil ?_
          go_wp2_with fail
          go_roundw
          case rel => exact ⟨0 + 1, rfl, by omega, bl, Seen.turns hsr tl (Nat.le_refl _)⟩
          case measure => simp [intOf]
        · clear HY HEND HORW
          go_upto_region 24 with fail
          refine wp_region_lit ?_
          refine ZR (some 217) (.bool true) wr ?_
          simp only [Z1,Z2,Z3,Z4]
          refine wpList_nil ?_
          go_upto_region 25 with fail
          refine wp_region_lit ?_
          refine ZR (some 218) (.int .i64 1) wr ?_
          simp only [Z1,Z2,Z3,Z4]
          refine ZR (some 29) (.int .i64 1) wr ?_
          simp only [Z1,Z2,Z3,Z4]
          refine wpList_nil ?_
          go_upto_region 26 with fail
          refine wp_region_lit ?_
          refine ZR (some 219) (.int .i64 1) wr ?_
          simp only [Z1,Z2,Z3,Z4]
          refine ZR (some 220) (.int .i64 1) wr ?_
          simp only [Z1,Z2,Z3,Z4]
          refine ZR (some 221) (.pointer (some ⟨w4.heap.size, 8, none⟩)) wr ?_
          simp only [Z1,Z2,Z3,Z4]
          refine ZR (some 222) (.pointer (some ⟨w4.heap.size, 10, none⟩)) wr ?_
          simp only [Z1,Z2,Z3,Z4]
          refine ZR (some 223) (.pointer (some ⟨w4.heap.size, 11, none⟩)) wr ?_
          simp only [Z1,Z2,Z3,Z4]
          refine ZX (some 224) (.int .i64 K.pd.b.n) wr (run_by (Instr.loadAt 2 (.pointer (some ⟨w4.heap.size, 11, none⟩))) (by kernel_rfl) (rd2 (Blk.cell (K14d.out.seen hsr) 11))) ?_
          simp only [Z1,Z2,Z3,Z4]
          refine ZR (some 225) (.pointer (some ⟨W18.heap.size, 8, none⟩)) wr ?_
          simp only [Z1,Z2,Z3,Z4]
          refine ZR (some 226) (.pointer (some ⟨W18.heap.size, 9, none⟩)) wr ?_
          simp only [Z1,Z2,Z3,Z4]
          refine pStore2 W18.heap.size 9 K.pd.b.n (cs := frl (⟨O.l, 0, O.w, H, ⟨orV K.mg.a 0, O.r, orV K.mg.c 0, O.l⟩, (padTo K.pd 1), bd4 s, !AU, zeroC⟩ : Fr)) (t := 50) (u := .int .i64 0) rfl (by kernel_rfl) (by kernel_rfl) hk rfl ?_
          intro wl bl tl
          simp only [Act.put]
          refine wpList_nil ?_
          go_upto_region 27 with fail
          refine wp_region_lit ?_
          refine ZR (some 227) (.int .i64 2) wl ?_
          simp only [Z1,Z2,Z3,Z4]
          refine ZR (some 216) (.int .i64 2) wl ?_
          simp only [Z1,Z2,Z3,Z4]
          refine wpList_nil ?_
          go_wp2_with fail
          go_roundw
          case rel => exact ⟨1 + 1, rfl, by omega, bl, Seen.turns hsr tl (Nat.le_refl _)⟩
          case measure => simp [intOf]
        · clear HY HEND HORW
          go_upto_region 24 with fail
          refine wp_region_lit ?_
          refine ZR (some 217) (.bool true) wr ?_
          simp only [Z1,Z2,Z3,Z4]
          refine wpList_nil ?_
          go_upto_region 25 with fail
          refine wp_region_lit ?_
          refine ZR (some 218) (.int .i64 2) wr ?_
          simp only [Z1,Z2,Z3,Z4]
          refine ZR (some 29) (.int .i64 2) wr ?_
          simp only [Z1,Z2,Z3,Z4]
          refine wpList_nil ?_
          go_upto_region 26 with fail
          refine wp_region_lit ?_
          refine ZR (some 219) (.int .i64 2) wr ?_
          simp only [Z1,Z2,Z3,Z4]
          refine ZR (some 220) (.int .i64 2) wr ?_
          simp only [Z1,Z2,Z3,Z4]
          refine ZR (some 221) (.pointer (some ⟨w4.heap.size, 8, none⟩)) wr ?_
          simp only [Z1,Z2,Z3,Z4]
          refine ZR (some 222) (.pointer (some ⟨w4.heap.size, 12, none⟩)) wr ?_
          simp only [Z1,Z2,Z3,Z4]
          refine ZR (some 223) (.pointer (some ⟨w4.heap.size, 13, none⟩)) wr ?_
          simp only [Z1,Z2,Z3,Z4]
          refine ZX (some 224) (.int .i64 K.pd.c.n) wr (run_by (Instr.loadAt 2 (.pointer (some ⟨w4.heap.size, 13, none⟩))) (by kernel_rfl) (rd2 (Blk.cell (K14d.out.seen hsr) 13))) ?_
          simp only [Z1,Z2,Z3,Z4]
          refine ZR (some 225) (.pointer (some ⟨W18.heap.size, 8, none⟩)) wr ?_
          simp only [Z1,Z2,Z3,Z4]
          refine ZR (some 226) (.pointer (some ⟨W18.heap.size, 10, none⟩)) wr ?_
          simp only [Z1,Z2,Z3,Z4]
          refine pStore2 W18.heap.size 10 K.pd.c.n (cs := frl (⟨O.l, 0, O.w, H, ⟨orV K.mg.a 0, O.r, orV K.mg.c 0, O.l⟩, (padTo K.pd 2), bd4 s, !AU, zeroC⟩ : Fr)) (t := 50) (u := .int .i64 0) rfl (by kernel_rfl) (by kernel_rfl) hk rfl ?_
          intro wl bl tl
          simp only [Act.put]
          refine wpList_nil ?_
          go_upto_region 27 with fail
          refine wp_region_lit ?_
          refine ZR (some 227) (.int .i64 3) wl ?_
          simp only [Z1,Z2,Z3,Z4]
          refine ZR (some 216) (.int .i64 3) wl ?_
          simp only [Z1,Z2,Z3,Z4]
          refine wpList_nil ?_
          go_wp2_with fail
          go_roundw
          case rel => exact ⟨2 + 1, rfl, by omega, bl, Seen.turns hsr tl (Nat.le_refl _)⟩
          case measure => simp [intOf]
        · clear HY HEND HORW
          go_upto_region 24 with fail
          refine wp_region_lit ?_
          refine ZR (some 217) (.bool true) wr ?_
          simp only [Z1,Z2,Z3,Z4]
          refine wpList_nil ?_
          go_upto_region 25 with fail
          refine wp_region_lit ?_
          refine ZR (some 218) (.int .i64 3) wr ?_
          simp only [Z1,Z2,Z3,Z4]
          refine ZR (some 29) (.int .i64 3) wr ?_
          simp only [Z1,Z2,Z3,Z4]
          refine wpList_nil ?_
          go_upto_region 26 with fail
          refine wp_region_lit ?_
          refine ZR (some 219) (.int .i64 3) wr ?_
          simp only [Z1,Z2,Z3,Z4]
          refine ZR (some 220) (.int .i64 3) wr ?_
          simp only [Z1,Z2,Z3,Z4]
          refine ZR (some 221) (.pointer (some ⟨w4.heap.size, 8, none⟩)) wr ?_
          simp only [Z1,Z2,Z3,Z4]
          refine ZR (some 222) (.pointer (some ⟨w4.heap.size, 14, none⟩)) wr ?_
          simp only [Z1,Z2,Z3,Z4]
          refine ZR (some 223) (.pointer (some ⟨w4.heap.size, 15, none⟩)) wr ?_
          simp only [Z1,Z2,Z3,Z4]
          refine ZX (some 224) (.int .i64 K.pd.d.n) wr (run_by (Instr.loadAt 2 (.pointer (some ⟨w4.heap.size, 15, none⟩))) (by kernel_rfl) (rd2 (Blk.cell (K14d.out.seen hsr) 15))) ?_
          simp only [Z1,Z2,Z3,Z4]
          refine ZR (some 225) (.pointer (some ⟨W18.heap.size, 8, none⟩)) wr ?_
          simp only [Z1,Z2,Z3,Z4]
          refine ZR (some 226) (.pointer (some ⟨W18.heap.size, 11, none⟩)) wr ?_
          simp only [Z1,Z2,Z3,Z4]
          refine pStore2 W18.heap.size 11 K.pd.d.n (cs := frl (⟨O.l, 0, O.w, H, ⟨orV K.mg.a 0, O.r, orV K.mg.c 0, O.l⟩, (padTo K.pd 3), bd4 s, !AU, zeroC⟩ : Fr)) (t := 50) (u := .int .i64 0) rfl (by kernel_rfl) (by kernel_rfl) hk rfl ?_
          intro wl bl tl
          simp only [Act.put]
          refine wpList_nil ?_
          go_upto_region 27 with fail
          refine wp_region_lit ?_
          refine ZR (some 227) (.int .i64 4) wl ?_
          simp only [Z1,Z2,Z3,Z4]
          refine ZR (some 216) (.int .i64 4) wl ?_
          simp only [Z1,Z2,Z3,Z4]
          refine wpList_nil ?_
          go_wp2_with fail
          go_roundw
          case rel => exact ⟨3 + 1, rfl, by omega, bl, Seen.turns hsr tl (Nat.le_refl _)⟩
          case measure => simp [intOf]
        · go_upto_region 24 with fail
          refine wp_region_lit ?_
          refine ZR (some 217) (.bool false) wr ?_
          simp only [Z1,Z2,Z3,Z4]
          refine wpList_nil ?_
          have K28 : Hid (Blk wr W18.heap.size (frl (⟨O.l, 0, O.w, H, ⟨orV K.mg.a 0, O.r, orV K.mg.c 0, O.l⟩, ⟨K.pd.a.n, K.pd.b.n, K.pd.c.n, K.pd.d.n⟩, bd4 s, !AU, zeroC⟩ : Fr)) 50) := hk
          have SX := Lib.hid hsr
          have SA5 := Lib.hid (fun w => sum4_any (bat s.bord 0) K.pd.a.n K.pd.c.n (bat s.bord 2) w)
          obtain ⟨UP, hUP⟩ : ∃ q, sumN [bat s.bord 0, K.pd.a.n, K.pd.c.n, bat s.bord 2] = q := ⟨_, rfl⟩
          obtain ⟨GD, hGD⟩ : ∃ q, sumB [bat s.bord 0, K.pd.a.n, K.pd.c.n, bat s.bord 2] = q := ⟨_, rfl⟩
          rw [hUP, hGD] at SA5
          have SA6 := Lib.hid (fun w => sum2_any UP H w)
          obtain ⟨HG, hHG⟩ : ∃ q, sumN [UP, H] = q := ⟨_, rfl⟩
          obtain ⟨GE, hGE⟩ : ∃ q, sumB [UP, H] = q := ⟨_, rfl⟩
          rw [hHG, hGE] at SA6
          have HUP := Lib.hid hUP
          have HGD := Lib.hid hGD
          have HHG := Lib.hid hHG
          have HGE := Lib.hid hGE
          clear hUP hGD hHG hGE hk hsr
          go_upto_region 28 with fail
          refine wp_region_lit ?_
          refine ZR (some 229) (.pointer (some ⟨w1.heap.size, 38, none⟩)) wr ?_
          simp only [Z1,Z2,Z3,Z4]
          refine ZR (some 230) (.pointer (some ⟨w1.heap.size, 38, none⟩)) wr ?_
          simp only [Z1,Z2,Z3,Z4]
          refine ZX (some 231) (.int .i64 (bat s.bord 0)) wr (run_by (Instr.loadAt 2 (.pointer (some ⟨w1.heap.size, 38, none⟩))) (by kernel_rfl) (rd2 (rdBord (Hs.seen KS18.out SX.out) HF.out (i := 0) (by decide) rfl))) ?_
          simp only [Z1,Z2,Z3,Z4]
          refine ZR (some 232) (.pointer (some ⟨W18.heap.size, 8, none⟩)) wr ?_
          simp only [Z1,Z2,Z3,Z4]
          refine ZR (some 233) (.pointer (some ⟨W18.heap.size, 8, none⟩)) wr ?_
          simp only [Z1,Z2,Z3,Z4]
          refine ZX (some 234) (.int .i64 K.pd.a.n) wr (run_by (Instr.loadAt 2 (.pointer (some ⟨W18.heap.size, 8, none⟩))) (by kernel_rfl) (rd2 (Blk.cell K28.out 8))) ?_
          simp only [Z1,Z2,Z3,Z4]
          refine ZR (some 235) (.pointer (some ⟨W18.heap.size, 8, none⟩)) wr ?_
          simp only [Z1,Z2,Z3,Z4]
          refine ZR (some 236) (.pointer (some ⟨W18.heap.size, 10, none⟩)) wr ?_
          simp only [Z1,Z2,Z3,Z4]
          refine ZX (some 237) (.int .i64 K.pd.c.n) wr (run_by (Instr.loadAt 2 (.pointer (some ⟨W18.heap.size, 10, none⟩))) (by kernel_rfl) (rd2 (Blk.cell K28.out 10))) ?_
          simp only [Z1,Z2,Z3,Z4]
          refine ZR (some 238) (.pointer (some ⟨w1.heap.size, 38, none⟩)) wr ?_
          simp only [Z1,Z2,Z3,Z4]
          refine ZR (some 239) (.pointer (some ⟨w1.heap.size, 40, none⟩)) wr ?_
          simp only [Z1,Z2,Z3,Z4]
          refine ZX (some 240) (.int .i64 (bat s.bord 2)) wr (run_by (Instr.loadAt 2 (.pointer (some ⟨w1.heap.size, 40, none⟩))) (by kernel_rfl) (rd2 (rdBord (Hs.seen KS18.out SX.out) HF.out (i := 2) (by decide) rfl))) ?_
          simp only [Z1,Z2,Z3,Z4]
          refine ZR (some 241) (.slice (some ⟨wr.heap.size, 0, none⟩) 4 4) (wr.alloc (.cells #[.int .i64 (bat s.bord 0), .int .i64 K.pd.a.n, .int .i64 K.pd.c.n, .int .i64 (bat s.bord 2)] 2)) ?_
          simp only [Z1,Z2,Z3,Z4]
          refine pCall (some 242) 24 #[.slice (some ⟨wr.heap.size, 0, none⟩) 4 4] rfl (by kernel_rfl) (by kernel_rfl) ?_
          refine (SA5.out wr).mono ?_
          rintro e w28 ⟨rfl, hb⟩
          have SY : Hid (Seen wr w28) := hb
          clear hb SA5
          refine ⟨_, rfl, ?_⟩
          simp only [Z1,Z2,Z3,Z4]
          refine ZR (some 228) (.tuple #[.int .i64 UP, .bool GD]) w28 ?_
          simp only [Z1,Z2,Z3,Z4]
          refine ZR (some 243) (.int .i64 UP) w28 ?_
          simp only [Z1,Z2,Z3,Z4]
          refine ZR (some 244) (.bool GD) w28 ?_
          simp only [Z1,Z2,Z3,Z4]
          refine ZR (some 30) (.int .i64 UP) w28 ?_
          simp only [Z1,Z2,Z3,Z4]
          refine ZR (some 31) (.bool GD) w28 ?_
          simp only [Z1,Z2,Z3,Z4]
          refine wpList_nil ?_
          go_upto_region 29 with fail
          refine wp_region_lit ?_
          refine ZR (some 246) (.int .i64 UP) w28 ?_
          simp only [Z1,Z2,Z3,Z4]
          refine ZR (some 247) (.pointer (some ⟨W18.heap.size, 3, none⟩)) w28 ?_
          simp only [Z1,Z2,Z3,Z4]
          refine ZX (some 248) (.int .i64 H) w28 (run_by (Instr.loadAt 2 (.pointer (some ⟨W18.heap.size, 3, none⟩))) (by kernel_rfl) (rd2 (Blk.cell (K28.out.seen SY.out) 3))) ?_
          simp only [Z1,Z2,Z3,Z4]
          refine ZR (some 249) (.slice (some ⟨w28.heap.size, 0, none⟩) 2 2) (w28.alloc (.cells #[.int .i64 UP, .int .i64 H] 2)) ?_
          simp only [Z1,Z2,Z3,Z4]
          refine pCall (some 250) 24 #[.slice (some ⟨w28.heap.size, 0, none⟩) 2 2] rfl (by kernel_rfl) (by kernel_rfl) ?_
          refine (SA6.out w28).mono ?_
          rintro e w29 ⟨rfl, hb⟩
          have SZ : Hid (Seen w28 w29) := hb
          clear hb SA6
          refine ⟨_, rfl, ?_⟩
          simp only [Z1,Z2,Z3,Z4]
          refine ZR (some 245) (.tuple #[.int .i64 HG, .bool GE]) w29 ?_
          simp only [Z1,Z2,Z3,Z4]
          refine ZR (some 251) (.int .i64 HG) w29 ?_
          simp only [Z1,Z2,Z3,Z4]
          refine ZR (some 252) (.bool GE) w29 ?_
          simp only [Z1,Z2,Z3,Z4]
          refine ZR (some 32) (.int .i64 HG) w29 ?_
          simp only [Z1,Z2,Z3,Z4]
          refine ZR (some 33) (.bool GE) w29 ?_
          simp only [Z1,Z2,Z3,Z4]
          refine wpList_nil ?_
          have K28b := Lib.hid (K28.out.seen (SY.out.trans SZ.out))
          have S29 := Lib.hid (SX.out.trans (SY.out.trans SZ.out))
          clear K28 SX SY SZ
          obtain ⟨G2, hG2⟩ : ∃ q, (ok && (GD && GE)) = q := ⟨_, rfl⟩
          have HG2 := Lib.hid hG2
          clear hG2
          go_upto_region 30 with fail
          go_cut [262] from 275 (fun u wx => (u = .bool (!G2) ∧ w29 = wx) : Value → World → Prop)
          case first =>
            rename_i Jc Kc hJc hKc
            clear HY HEND HORW HGD HGE
            cases ok
            · have hg : G2 = false := HG2.out.symm
              refine wp_region_lit ?_
              refine ZR (some 253) (.bool false) w29 ?_
              simp only [Z1,Z2,Z3,Z4]
              refine ZR (some 254) (.bool true) w29 ?_
              simp only [Z1,Z2,Z3,Z4]
              refine ZR (some 255) (.bool true) w29 ?_
              simp only [Z1,Z2,Z3,Z4]
              refine pNo (some 256) rfl (by kernel_rfl) ?_
              simp only [Z1,Z2,Z3,Z4]
              refine pNo (some 257) rfl (by kernel_rfl) ?_
              simp only [Z1,Z2,Z3,Z4]
              refine ZR (some 258) (.bool true) w29 ?_
              simp only [Z1,Z2,Z3,Z4]
              refine ZR (some 259) (.bool true) w29 ?_
              simp only [Z1,Z2,Z3,Z4]
              refine pNo (some 260) rfl (by kernel_rfl) ?_
              simp only [Z1,Z2,Z3,Z4]
              refine pNo (some 261) rfl (by kernel_rfl) ?_
              simp only [Z1,Z2,Z3,Z4]
              refine ZR (some 262) (.bool true) w29 ?_
              simp only [Z1,Z2,Z3,Z4]
              refine wpList_nil ?_
              refine hKc _ _ (Met.intro (hJc _ _ ?_))
              (repeat apply Exists.intro)
              refine ⟨?rel, rfl⟩
              case rel => exact  ⟨by rw [hg]; rfl, rfl⟩
            · cases GD
              · have hg : G2 = false := HG2.out.symm
                refine wp_region_lit ?_
                refine ZR (some 253) (.bool true) w29 ?_
                simp only [Z1,Z2,Z3,Z4]
                refine ZR (some 254) (.bool false) w29 ?_
                simp only [Z1,Z2,Z3,Z4]
                refine ZR (some 255) (.bool false) w29 ?_
                simp only [Z1,Z2,Z3,Z4]
                refine ZR (some 256) (.bool false) w29 ?_
                simp only [Z1,Z2,Z3,Z4]
                refine ZR (some 257) (.bool true) w29 ?_
                simp only [Z1,Z2,Z3,Z4]
                refine ZR (some 258) (.bool true) w29 ?_
                simp only [Z1,Z2,Z3,Z4]
                refine ZR (some 259) (.bool true) w29 ?_
                simp only [Z1,Z2,Z3,Z4]
                refine pNo (some 260) rfl (by kernel_rfl) ?_
                simp only [Z1,Z2,Z3,Z4]
                refine pNo (some 261) rfl (by kernel_rfl) ?_
                simp only [Z1,Z2,Z3,Z4]
                refine ZR (some 262) (.bool true) w29 ?_
                simp only [Z1,Z2,Z3,Z4]
                refine wpList_nil ?_
                refine hKc _ _ (Met.intro (hJc _ _ ?_))
                (repeat apply Exists.intro)
                refine ⟨?rel, rfl⟩
                case rel => exact  ⟨by rw [hg]; rfl, rfl⟩
              · cases GE
                · have hg : G2 = false := HG2.out.symm
                  refine wp_region_lit ?_
                  refine ZR (some 253) (.bool true) w29 ?_
                  simp only [Z1,Z2,Z3,Z4]
                  refine ZR (some 254) (.bool false) w29 ?_
                  simp only [Z1,Z2,Z3,Z4]
                  refine ZR (some 255) (.bool false) w29 ?_
                  simp only [Z1,Z2,Z3,Z4]
                  refine ZR (some 256) (.bool true) w29 ?_
                  simp only [Z1,Z2,Z3,Z4]
                  refine ZR (some 257) (.bool false) w29 ?_
                  simp only [Z1,Z2,Z3,Z4]
                  refine ZR (some 258) (.bool false) w29 ?_
                  simp only [Z1,Z2,Z3,Z4]
                  refine ZR (some 259) (.bool false) w29 ?_
                  simp only [Z1,Z2,Z3,Z4]
                  refine ZR (some 260) (.bool false) w29 ?_
                  simp only [Z1,Z2,Z3,Z4]
                  refine ZR (some 261) (.bool true) w29 ?_
                  simp only [Z1,Z2,Z3,Z4]
                  refine ZR (some 262) (.bool true) w29 ?_
                  simp only [Z1,Z2,Z3,Z4]
                  refine wpList_nil ?_
                  refine hKc _ _ (Met.intro (hJc _ _ ?_))
                  (repeat apply Exists.intro)
                  refine ⟨?rel, rfl⟩
                  case rel => exact  ⟨by rw [hg]; rfl, rfl⟩
                · have hg : G2 = true := HG2.out.symm
                  refine wp_region_lit ?_
                  refine ZR (some 253) (.bool true) w29 ?_
                  simp only [Z1,Z2,Z3,Z4]
                  refine ZR (some 254) (.bool false) w29 ?_
                  simp only [Z1,Z2,Z3,Z4]
                  refine ZR (some 255) (.bool false) w29 ?_
                  simp only [Z1,Z2,Z3,Z4]
                  refine ZR (some 256) (.bool true) w29 ?_
                  simp only [Z1,Z2,Z3,Z4]
                  refine ZR (some 257) (.bool false) w29 ?_
                  simp only [Z1,Z2,Z3,Z4]
                  refine ZR (some 258) (.bool false) w29 ?_
                  simp only [Z1,Z2,Z3,Z4]
                  refine ZR (some 259) (.bool false) w29 ?_
                  simp only [Z1,Z2,Z3,Z4]
                  refine ZR (some 260) (.bool true) w29 ?_
                  simp only [Z1,Z2,Z3,Z4]
                  refine ZR (some 261) (.bool false) w29 ?_
                  simp only [Z1,Z2,Z3,Z4]
                  refine ZR (some 262) (.bool false) w29 ?_
                  simp only [Z1,Z2,Z3,Z4]
                  refine wpList_nil ?_
                  refine hKc _ _ (Met.intro (hJc _ _ ?_))
                  (repeat apply Exists.intro)
                  refine ⟨?rel, rfl⟩
                  case rel => exact  ⟨by rw [hg]; rfl, rfl⟩
          obtain ⟨hu, hw⟩ := hcut
          subst hu
          subst hw
          have K10e := Lib.hid (K10d.out.seen S29.out)
          have K11e := Lib.hid (K11d.out.seen S29.out)
          have SW29 := Lib.hid (SW18.out.trans S29.out)
          cases G2
          · have HNN : bo = none := by
              rw [HY.out]
              rcases HORW.out with ⟨h1, _⟩ | ⟨b1, a1, cap1, h1, h2, h3, h4, h5, _, _⟩
              · rw [h1]
              · have he := (HEND.out O hi _ b1 h1 rfl HH.out rfl).1
                have hg := HG2.out
                rw [h2, Bool.true_and] at hg
                rw [show (bd4 s).a = bat s.bord 0 from rfl, show (bd4 s).c = bat s.bord 2 from rfl, HGD.out, HUP.out, HGE.out, hg] at he
                rw [h1]
                dsimp only
                rw [← h4, HH.out, he]
                rfl
            have HIN := HG2
            have HYES := HG2
            have f10 := K10e.out
            have f11 := K11e.out
            have fS : Seen W w29 := SW29.out
            clear HYES HIN HEND HY HORW
            go_upto_region 31 with fail
            rename_i hKR
            refine wp_region_lit ?_
            refine ZR (some 263) (frv zFr) w29 ?_
            simp only [Z1,Z2,Z3,Z4]
            refine ZR (some 264) (layv (.slice none 0 0) (.slice none 0 0) zPi 0) w29 ?_
            simp only [Z1,Z2,Z3,Z4]
            refine pStoreC 50 (W.heap.size + 1) 0 (frl zFr) (cs := frl zFr) (cs' := frl zFr) (t := 50) rfl (by kernel_rfl) (by kernel_rfl) zz50 (frl_one _) f10 (Nat.le_refl _) (sets_all _ _ rfl) ?_
            intro wA bA tA
            simp only [Act.put]
            refine pStoreC 55 (W.heap.size + 1 + 1) 0 (layl (.slice none 0 0) (.slice none 0 0) zPi 0) (cs := layl (.slice none 0 0) (.slice none 0 0) zPi 0) (cs' := layl (.slice none 0 0) (.slice none 0 0) zPi 0) (t := 55) rfl (by kernel_rfl) (by kernel_rfl) zz55 (layl_one rfl rfl _ _) (f11.turns tA (by omega)) (Nat.le_refl _) (sets_all _ _ rfl) ?_
            intro wC bC tC
            have bB := bA.turns tC (by omega)
            simp only [Act.put]
            refine ZR (some 12) (.bool false) wC ?_
            simp only [Z1,Z2,Z3,Z4]
            refine wpList_nil ?_
            refine hKR _ _ (wp_ret ?_)
            show bodyPost Tryz.prog Tryz.f8 _ Exit.ret _ _
            refine bodyPost_ret (results_three (u := .bool false) rfl (by kernel_rfl) (by kernel_rfl) (by kernel_rfl) (run_loadFr bB) (run_loadLr bC)) rfl ?_
            exact ⟨(fS.turns tA (by omega)).turns tC (by omega), .inl ⟨HBO.out.trans HNN, rfl⟩⟩
          · rcases HORW.out with ⟨_, h2⟩ | ⟨b1, a1, cap1, h1, h2, h3, h4, h5, h6, h7⟩
            · have hg := HG2.out
              rw [h2] at hg
              cases hg
            · rw [← h3] at h5 h7
              have HFIN : Hid (bo = some ⟨{ frR K O (bd4 s) H with ch := refCh K (frR K O (bd4 s) H) P OB HG }, P, hi, b1.l⟩) := by
                have he := HEND.out O hi _ b1 h1 rfl HH.out rfl
                have hg := HG2.out
                rw [h2, Bool.true_and] at hg
                rw [show (bd4 s).a = bat s.bord 0 from rfl, show (bd4 s).c = bat s.bord 2 from rfl, HGD.out, HUP.out, HGE.out, hg, HHG.out, HOB.out] at he
                have e2 := he.2 he.1
                unfold Hid
                rw [HY.out, h1]
                dsimp only
                rw [← h4, HH.out, if_pos he.1, e2, ← h3]
              subst h5
              subst h2
              have HGR := Lib.hid h6
              have HRP := Lib.hid h7
              clear h1 h3 h4 h6 h7 HORW HY HEND HG2 HGD HGE HUP HHG HH HOB HINN
              have HF5 : Hid (frR K O (bd4 s) H = (⟨O.l, 0, O.w, H, ⟨orV K.mg.a 0, O.r, orV K.mg.c 0, O.l⟩, ⟨K.pd.a.n, K.pd.b.n, K.pd.c.n, K.pd.d.n⟩, bd4 s, !AU, zeroC⟩ : Fr)) := by unfold Hid frR; rw [HAU.out]
              rw [HF5.out] at HFIN
              have CA := Lib.hid (fun w => child_any K (⟨O.l, 0, O.w, H, ⟨orV K.mg.a 0, O.r, orV K.mg.c 0, O.l⟩, ⟨K.pd.a.n, K.pd.b.n, K.pd.c.n, K.pd.d.n⟩, bd4 s, !AU, zeroC⟩ : Fr) a1 cap1 P OB HG w)
              obtain ⟨CH, hCH⟩ : ∃ q, refCh K (⟨O.l, 0, O.w, H, ⟨orV K.mg.a 0, O.r, orV K.mg.c 0, O.l⟩, ⟨K.pd.a.n, K.pd.b.n, K.pd.c.n, K.pd.d.n⟩, bd4 s, !AU, zeroC⟩ : Fr) P OB HG = q := ⟨_, rfl⟩
              rw [hCH] at HFIN CA
              clear hCH HF5
              go_upto_region 32 with fail
              refine wp_region_lit ?_
              refine ZX (some 265) (knv K) w29 (run_by (Instr.loadAt 91 (.pointer (some ⟨w4.heap.size, 0, none⟩))) (by kernel_rfl) (rda91 (vs := knl K) (Blk.range (K14d.out.seen S29.out)) rfl)) ?_
              simp only [Z1,Z2,Z3,Z4]
              refine ZX (some 266) (frv (⟨O.l, 0, O.w, H, ⟨orV K.mg.a 0, O.r, orV K.mg.c 0, O.l⟩, ⟨K.pd.a.n, K.pd.b.n, K.pd.c.n, K.pd.d.n⟩, bd4 s, !AU, zeroC⟩ : Fr)) w29 (run_by (Instr.loadAt 50 (.pointer (some ⟨W18.heap.size, 0, none⟩))) (by kernel_rfl) (rda50 (vs := frl (⟨O.l, 0, O.w, H, ⟨orV K.mg.a 0, O.r, orV K.mg.c 0, O.l⟩, ⟨K.pd.a.n, K.pd.b.n, K.pd.c.n, K.pd.d.n⟩, bd4 s, !AU, zeroC⟩ : Fr)) (Blk.range K28b.out) rfl)) ?_
              simp only [Z1,Z2,Z3,Z4]
              refine ZR (some 267) (.pointer (some ⟨w18.heap.size, 1, none⟩)) w29 ?_
              simp only [Z1,Z2,Z3,Z4]
              refine ZX (some 268) (piv (.slice a1 P.y.length cap1) P) w29 (run_by (Instr.loadAt 53 (.pointer (some ⟨w18.heap.size, 1, none⟩))) (by kernel_rfl) (rda53 (vs := pil5 (.slice a1 P.y.length cap1) P) (Blk.mid (K27.out.seen S29.out) 1 7) rfl)) ?_
              simp only [Z1,Z2,Z3,Z4]
              refine ZR (some 269) (.bool OB) w29 ?_
              simp only [Z1,Z2,Z3,Z4]
              refine ZR (some 270) (.int .i64 HG) w29 ?_
              simp only [Z1,Z2,Z3,Z4]
              refine pCall (some 271) 31 #[knv K, frv (⟨O.l, 0, O.w, H, ⟨orV K.mg.a 0, O.r, orV K.mg.c 0, O.l⟩, ⟨K.pd.a.n, K.pd.b.n, K.pd.c.n, K.pd.d.n⟩, bd4 s, !AU, zeroC⟩ : Fr), piv (.slice a1 P.y.length cap1) P, .bool OB, .int .i64 HG] rfl (by kernel_rfl) (by kernel_rfl) ?_
              refine (CA.out w29).mono ?_
              rintro e w32 ⟨rfl, hb⟩
              have SQ : Hid (Seen w29 w32) := hb
              clear hb CA
              refine ⟨_, rfl, ?_⟩
              simp only [Z1,Z2,Z3,Z4]
              refine ZR (some 272) (.pointer (some ⟨W18.heap.size, 17, none⟩)) w32 ?_
              simp only [Z1,Z2,Z3,Z4]
              refine pStoreC 48 W18.heap.size 17 (chl CH) (cs := frl (⟨O.l, 0, O.w, H, ⟨orV K.mg.a 0, O.r, orV K.mg.c 0, O.l⟩, ⟨K.pd.a.n, K.pd.b.n, K.pd.c.n, K.pd.d.n⟩, bd4 s, !AU, zeroC⟩ : Fr)) (cs' := frl (⟨O.l, 0, O.w, H, ⟨orV K.mg.a 0, O.r, orV K.mg.c 0, O.l⟩, ⟨K.pd.a.n, K.pd.b.n, K.pd.c.n, K.pd.d.n⟩, bd4 s, !AU, CH⟩ : Fr)) (t := 50) rfl (by kernel_rfl) (by kernel_rfl) zz48 (chl_one _) (K28b.out.seen SQ.out) (Nat.le_refl _) rfl ?_
              intro W32 b32 t32
              simp only [Act.put]
              refine wpList_nil ?_
              have S32 : Hid (Seen W18 W32) := Seen.turns (S29.out.trans SQ.out) t32 (Nat.le_refl _)
              have g28 : Blk W32.drew W18.heap.size (frl (⟨O.l, 0, O.w, H, ⟨orV K.mg.a 0, O.r, orV K.mg.c 0, O.l⟩, ⟨K.pd.a.n, K.pd.b.n, K.pd.c.n, K.pd.d.n⟩, bd4 s, !AU, CH⟩ : Fr)) 50 := b32
              have sd : Seen W18 W32.drew := S32.out.drew
              have g27 : Blk W32.drew w18.heap.size (layl lv (.slice a1 P.y.length cap1) P hi) 55 := K27.out.seen sd
              have g10 : Blk W32.drew (W.heap.size + 1) (frl zFr) 50 := K10d.out.seen sd
              have g11 : Blk W32.drew (W.heap.size + 1 + 1) (layl (.slice none 0 0) (.slice none 0 0) zPi 0) 55 := K11d.out.seen sd
              have gS : Seen W W32.drew := SW18.out.trans sd
              have gG := GR.seen HGR.out sd
              have gR := RP.seen HRP.out sd
              clear K28b S29 SQ S32 b32 t32 sd K27 K10d K11d K10e K11e SW29 HGR HRP KS18 K14d K23d
              go_upto_region 33 with fail
              rename_i hKR
              refine wp_region_held_drew (S := fun w' => Blk w' W18.heap.size (frl (⟨O.l, 0, O.w, H, ⟨orV K.mg.a 0, O.r, orV K.mg.c 0, O.l⟩, ⟨K.pd.a.n, K.pd.b.n, K.pd.c.n, K.pd.d.n⟩, bd4 s, !AU, CH⟩ : Fr)) 50 ∧ Blk w' w18.heap.size (layl lv (.slice a1 P.y.length cap1) P hi) 55) (by kernel_rfl) ⟨g28, g27⟩ (fun _ => ?_)
              refine ZU 0 (some 273) (frv (⟨O.l, 0, O.w, H, ⟨orV K.mg.a 0, O.r, orV K.mg.c 0, O.l⟩, ⟨K.pd.a.n, K.pd.b.n, K.pd.c.n, K.pd.d.n⟩, bd4 s, !AU, CH⟩ : Fr)) (fun _ hS => run_by (Instr.loadAt 50 (.pointer (some ⟨W18.heap.size, 0, none⟩))) (by kernel_rfl) (rda50 (vs := frl (⟨O.l, 0, O.w, H, ⟨orV K.mg.a 0, O.r, orV K.mg.c 0, O.l⟩, ⟨K.pd.a.n, K.pd.b.n, K.pd.c.n, K.pd.d.n⟩, bd4 s, !AU, CH⟩ : Fr)) (Blk.range hS.1) rfl)) ⟨g28, g27⟩ ?_
              simp only [Z1,Z2,Z3,Z4]
              refine ZU 1 (some 274) (layv lv (.slice a1 P.y.length cap1) P hi) (fun _ hS => run_by (Instr.loadAt 55 (.pointer (some ⟨w18.heap.size, 0, none⟩))) (by kernel_rfl) (rda55 (vs := (layl lv (.slice a1 P.y.length cap1) P hi)) (Blk.range hS.2) rfl)) ⟨g28, g27⟩ ?_
              simp only [Z1,Z2,Z3,Z4]
              refine ZK 2 none (run_skip_by (Instr.storeAt 50 (.pointer (some ⟨(W.heap.size + 1), 0, none⟩)) (frv (⟨O.l, 0, O.w, H, ⟨orV K.mg.a 0, O.r, orV K.mg.c 0, O.l⟩, ⟨K.pd.a.n, K.pd.b.n, K.pd.c.n, K.pd.d.n⟩, bd4 s, !AU, CH⟩ : Fr))) (by kernel_rfl) (wr50 (vs := (frl (⟨O.l, 0, O.w, H, ⟨orV K.mg.a 0, O.r, orV K.mg.c 0, O.l⟩, ⟨K.pd.a.n, K.pd.b.n, K.pd.c.n, K.pd.d.n⟩, bd4 s, !AU, CH⟩ : Fr))) g10 rfl (Nat.le_refl _) (frl_one _))) (⟨Blk.turns g28 (turns_sets _ ((W.heap.size + 1)) 0 (frl (⟨O.l, 0, O.w, H, ⟨orV K.mg.a 0, O.r, orV K.mg.c 0, O.l⟩, ⟨K.pd.a.n, K.pd.b.n, K.pd.c.n, K.pd.d.n⟩, bd4 s, !AU, CH⟩ : Fr))) (by omega), Blk.turns g27 (turns_sets _ ((W.heap.size + 1)) 0 (frl (⟨O.l, 0, O.w, H, ⟨orV K.mg.a 0, O.r, orV K.mg.c 0, O.l⟩, ⟨K.pd.a.n, K.pd.b.n, K.pd.c.n, K.pd.d.n⟩, bd4 s, !AU, CH⟩ : Fr))) (by omega)⟩) ?_
              simp only [Act.put]
              refine ZK 3 none (run_skip_by (Instr.storeAt 55 (.pointer (some ⟨(W.heap.size + 1 + 1), 0, none⟩)) (layv lv (.slice a1 P.y.length cap1) P hi)) (by kernel_rfl) (wr55 (vs := (layl lv (.slice a1 P.y.length cap1) P hi)) (Blk.turns g11 (turns_sets _ ((W.heap.size + 1)) 0 (frl (⟨O.l, 0, O.w, H, ⟨orV K.mg.a 0, O.r, orV K.mg.c 0, O.l⟩, ⟨K.pd.a.n, K.pd.b.n, K.pd.c.n, K.pd.d.n⟩, bd4 s, !AU, CH⟩ : Fr))) (by omega)) rfl (Nat.le_refl _) (layl_one ov (oneSl _ _ _) _ _))) (⟨Blk.turns (Blk.turns g28 (turns_sets _ ((W.heap.size + 1)) 0 (frl (⟨O.l, 0, O.w, H, ⟨orV K.mg.a 0, O.r, orV K.mg.c 0, O.l⟩, ⟨K.pd.a.n, K.pd.b.n, K.pd.c.n, K.pd.d.n⟩, bd4 s, !AU, CH⟩ : Fr))) (by omega)) (turns_sets _ ((W.heap.size + 1 + 1)) 0 (layl lv (.slice a1 P.y.length cap1) P hi)) (by omega), Blk.turns (Blk.turns g27 (turns_sets _ ((W.heap.size + 1)) 0 (frl (⟨O.l, 0, O.w, H, ⟨orV K.mg.a 0, O.r, orV K.mg.c 0, O.l⟩, ⟨K.pd.a.n, K.pd.b.n, K.pd.c.n, K.pd.d.n⟩, bd4 s, !AU, CH⟩ : Fr))) (by omega)) (turns_sets _ ((W.heap.size + 1 + 1)) 0 (layl lv (.slice a1 P.y.length cap1) P hi)) (by omega)⟩) ?_
              simp only [Act.put]
              refine ZT 4 (some 12) (.bool true) ⟨Blk.turns (Blk.turns g28 (turns_sets _ ((W.heap.size + 1)) 0 (frl (⟨O.l, 0, O.w, H, ⟨orV K.mg.a 0, O.r, orV K.mg.c 0, O.l⟩, ⟨K.pd.a.n, K.pd.b.n, K.pd.c.n, K.pd.d.n⟩, bd4 s, !AU, CH⟩ : Fr))) (by omega)) (turns_sets _ ((W.heap.size + 1 + 1)) 0 (layl lv (.slice a1 P.y.length cap1) P hi)) (by omega), Blk.turns (Blk.turns g27 (turns_sets _ ((W.heap.size + 1)) 0 (frl (⟨O.l, 0, O.w, H, ⟨orV K.mg.a 0, O.r, orV K.mg.c 0, O.l⟩, ⟨K.pd.a.n, K.pd.b.n, K.pd.c.n, K.pd.d.n⟩, bd4 s, !AU, CH⟩ : Fr))) (by omega)) (turns_sets _ ((W.heap.size + 1 + 1)) 0 (layl lv (.slice a1 P.y.length cap1) P hi)) (by omega)⟩ ?_
              simp only [Z1,Z2,Z3,Z4]
              refine wpAnyH_done (by kernel_rfl) ?_ _
              have z1 : Blk _ (W.heap.size + 1) (frl (⟨O.l, 0, O.w, H, ⟨orV K.mg.a 0, O.r, orV K.mg.c 0, O.l⟩, ⟨K.pd.a.n, K.pd.b.n, K.pd.c.n, K.pd.d.n⟩, bd4 s, !AU, CH⟩ : Fr)) 50 := (Blk.turns (block_sets g10 0 (frl (⟨O.l, 0, O.w, H, ⟨orV K.mg.a 0, O.r, orV K.mg.c 0, O.l⟩, ⟨K.pd.a.n, K.pd.b.n, K.pd.c.n, K.pd.d.n⟩, bd4 s, !AU, CH⟩ : Fr)) (sets_all (frl zFr) (frl (⟨O.l, 0, O.w, H, ⟨orV K.mg.a 0, O.r, orV K.mg.c 0, O.l⟩, ⟨K.pd.a.n, K.pd.b.n, K.pd.c.n, K.pd.d.n⟩, bd4 s, !AU, CH⟩ : Fr)) rfl)) (turns_sets _ ((W.heap.size + 1 + 1)) 0 (layl lv (.slice a1 P.y.length cap1) P hi)) (by omega))
              have z2 : Blk _ (W.heap.size + 1 + 1) (layl lv (.slice a1 P.y.length cap1) P hi) 55 := (block_sets (Blk.turns g11 (turns_sets _ ((W.heap.size + 1)) 0 (frl (⟨O.l, 0, O.w, H, ⟨orV K.mg.a 0, O.r, orV K.mg.c 0, O.l⟩, ⟨K.pd.a.n, K.pd.b.n, K.pd.c.n, K.pd.d.n⟩, bd4 s, !AU, CH⟩ : Fr))) (by omega)) 0 (layl lv (.slice a1 P.y.length cap1) P hi) (sets_all (layl (.slice none 0 0) (.slice none 0 0) zPi 0) (layl lv (.slice a1 P.y.length cap1) P hi) rfl))
              have z3 := (Seen.turns (Seen.turns gS (turns_sets _ ((W.heap.size + 1)) 0 (frl (⟨O.l, 0, O.w, H, ⟨orV K.mg.a 0, O.r, orV K.mg.c 0, O.l⟩, ⟨K.pd.a.n, K.pd.b.n, K.pd.c.n, K.pd.d.n⟩, bd4 s, !AU, CH⟩ : Fr))) (by omega)) (turns_sets _ ((W.heap.size + 1 + 1)) 0 (layl lv (.slice a1 P.y.length cap1) P hi)) (by omega))
              have z4 := (gr_turns (gr_turns gG g10 (by decide) (turns_sets _ ((W.heap.size + 1)) 0 (frl (⟨O.l, 0, O.w, H, ⟨orV K.mg.a 0, O.r, orV K.mg.c 0, O.l⟩, ⟨K.pd.a.n, K.pd.b.n, K.pd.c.n, K.pd.d.n⟩, bd4 s, !AU, CH⟩ : Fr)))) (Blk.turns g11 (turns_sets _ ((W.heap.size + 1)) 0 (frl (⟨O.l, 0, O.w, H, ⟨orV K.mg.a 0, O.r, orV K.mg.c 0, O.l⟩, ⟨K.pd.a.n, K.pd.b.n, K.pd.c.n, K.pd.d.n⟩, bd4 s, !AU, CH⟩ : Fr))) (by omega)) (by decide) (turns_sets _ ((W.heap.size + 1 + 1)) 0 (layl lv (.slice a1 P.y.length cap1) P hi)))
              have z5 := (rp_turns' (rp_turns' gR g10 (by decide) (turns_sets _ ((W.heap.size + 1)) 0 (frl (⟨O.l, 0, O.w, H, ⟨orV K.mg.a 0, O.r, orV K.mg.c 0, O.l⟩, ⟨K.pd.a.n, K.pd.b.n, K.pd.c.n, K.pd.d.n⟩, bd4 s, !AU, CH⟩ : Fr)))) (Blk.turns g11 (turns_sets _ ((W.heap.size + 1)) 0 (frl (⟨O.l, 0, O.w, H, ⟨orV K.mg.a 0, O.r, orV K.mg.c 0, O.l⟩, ⟨K.pd.a.n, K.pd.b.n, K.pd.c.n, K.pd.d.n⟩, bd4 s, !AU, CH⟩ : Fr))) (by omega)) (by decide) (turns_sets _ ((W.heap.size + 1 + 1)) 0 (layl lv (.slice a1 P.y.length cap1) P hi)))
              refine hKR _ _ (wp_ret ?_)
              show bodyPost Tryz.prog Tryz.f8 _ Exit.ret _ _
              refine bodyPost_ret (results_three (u := .bool true) rfl (by kernel_rfl) (by kernel_rfl) (by kernel_rfl) (run_loadFr z1) (run_loadLr z2)) rfl ?_
              exact ⟨z3, .inr ⟨⟨(⟨O.l, 0, O.w, H, ⟨orV K.mg.a 0, O.r, orV K.mg.c 0, O.l⟩, ⟨K.pd.a.n, K.pd.b.n, K.pd.c.n, K.pd.d.n⟩, bd4 s, !AU, CH⟩ : Fr), P, hi, b1.l⟩, lv, a1, cap1, HBO.out.trans HFIN.out, rfl, z4, z5⟩⟩
end Go.Proofs.YtngeaigkafamiaaGreat

