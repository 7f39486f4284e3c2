/- Contract of the law package's own check; no conditions beyond those written in each theorem. -/
import Derived.Test.YtmcjabbfhhdmmaaPStack
import Derived.Test.YtmcjabbfhhdmmaaFl
namespace Go.Proofs.Ytmcjabbfhhdmmaa
open Go.ChangeShapes Go.WideShapes Go.ChangeAt Go.RowKit
set_option maxRecDepth 100000
set_option linter.unusedVariables false
theorem cs_block {w : World} {B : Nat} {l : List Ch} {t : TypeId} (h : Blk w B (l.flatMap chl) t) : CS w (some ⟨B, 0, none⟩) l.length l := sl_of_block chl_length zeroC h
def twoL : List Ch := [⟨zS, ⟨5, 0⟩, zS, false, 10⟩, ⟨⟨7, 0⟩, zS, zS, false, 10⟩]
set_option maxHeartbeats 2000000 in
theorem awake_any (w : World) : Calls Try.prog 6 #[] w fun e w' => e = .returned (.bool true) ∧ Seen w w' := by
  have E : Hid (stkP twoL false = ⟨[0, 17], 27, ⟨0, 0⟩, ⟨0, 0⟩, false⟩ ∧ stkB twoL false = true) := ⟨by rfl, by rfl⟩
  obtain ⟨W, hW⟩ : ∃ W, W = w.alloc (.cells (twoL.flatMap chl).toArray 32) := ⟨_, rfl⟩
  have kW : Blk W w.heap.size (twoL.flatMap chl) 32 := by rw [hW]; exact Blk.new w _ _
  have st := stack_any _ 2 2 twoL false W (cs_block kW) (by decide)
  rw [E.out.1, E.out.2] at st
  have SW : Hid (Seen w W) := by rw [hW]; exact (Seen.refl w).alloc _
  simp only [twoL, zS, chl, List.flatMap_cons, List.flatMap_nil, List.cons_append, List.nil_append] at hW
  clear kW E
  go_enter Try.func6, Try.ntmps6
  go_upto_region 2 with (go_at_call 8; rw [← hW]; refine st.mono ?_; clear st; rintro e w1 ⟨v, rfl, hr, hs⟩; obtain ⟨a, c, hv, -⟩ := hr.slice; have hv' : v = .slice a 2 c := hv; clear hv; subst hv'; have HR := Lib.hid hr; have HS := Lib.hid hs; clear hr hs)
  obtain ⟨a', c', hv, hz, -⟩ := HR.out.slice
  obtain ⟨rfl, -⟩ : a = a' ∧ c = c' := by simpa using hv
  obtain ⟨b, off, rfl, hc⟩ := hz.2 (by decide)
  have y1 : w1.cell? ⟨b, off + 1, none⟩ = some (.int .i64 17) := hc 1 (by decide)
  obtain ⟨W2, hW2⟩ : ∃ W2, W2 = w1.alloc (.cells (pil (.slice (some ⟨b, off, none⟩) 2 c) ⟨[0, 17], 27, ⟨0, 0⟩, ⟨0, 0⟩, false⟩).toArray 35) := ⟨_, rfl⟩
  have kW2 : Blk W2 w1.heap.size (pil (.slice (some ⟨b, off, none⟩) 2 c) ⟨[0, 17], 27, ⟨0, 0⟩, ⟨0, 0⟩, false⟩) 35 := by rw [hW2]; exact Blk.new w1 _ _
  have s2 : Seen w1 W2 := by rw [hW2]; exact (Seen.refl w1).alloc _
  have y2 := s2.cell y1
  have c0 : W2.cell? ⟨w1.heap.size, 0, none⟩ = some (.slice (some ⟨b, off, none⟩) 2 c) := kW2.cell 0
  have HS2 := Lib.hid ((SW.out.trans HS.out).trans s2)
  simp only [pil] at hW2
  rw [← hW2]
  clear hW2 y1 hc hz s2 kW2 HR hv
  go_wp2_with fail
  go_ret
  exact ⟨rfl, HS2.out⟩
end Go.Proofs.Ytmcjabbfhhdmmaa
