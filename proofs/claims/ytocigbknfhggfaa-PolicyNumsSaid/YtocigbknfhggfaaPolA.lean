/-
  Contract of dotterellaw10's awake: it holds, and turns nothing that was there. No condition.
-/
import Derived.Test.YtocigbknfhggfaaPolAd
namespace Go.Proofs.Ytocigbknfhggfaa
open Go.ChangeShapes Go.WideShapes Go.ChangeAt Go.RowKit
set_option linter.unusedVariables false

theorem row_below {w w' : World} {g : Nat} {o : Obj} (h : w.heap[g]? = some o) (hb : Below w.heap.size w w') : w'.heap[g]? = some o := by
  rw [hb.block g (Array.getElem?_eq_some_iff.1 h).1]; exact h
def p1000 : Pol := ⟨1000, 1, 0, 0⟩
theorem p1000_in : InP p1000 := by unfold InP In64 p1000; simp
attribute [local go_sem ↓] ldPol_eq
set_option maxRecDepth 100000 in
set_option maxHeartbeats 2000000 in
theorem awake_any (w : World) : Calls Try.prog 7 #[] w fun e w' => e = .returned (.bool true) ∧ Below w.heap.size w w' := by
  go_enter Try.func7, Try.ntmps7
  go_wp2_with (refine wpList_store_row rfl 26 (.tmp 1) (.tmp 2) rfl w.heap.size #[.int .i64 1000, .int .i64 1, .int .i64 0, .int .i64 0] rfl rfl 26 _ (heap_alloc_new _ _) pol_info rfl (by simp [Value.oneCell']) ?_; rw [World.setRow_alloc_new]; obtain ⟨w1, hb1, hg1⟩ : ∃ w1, w.alloc (.cells #[.int .i64 1000, .int .i64 1, .int .i64 0, .int .i64 0] 26) = w1 ∧ Below w.heap.size w w1 ∧ w1.heap[w.heap.size]? = some (.cells #[.int .i64 1000, .int .i64 1, .int .i64 0, .int .i64 0] 26 (0, 0)) := ⟨_, rfl, below_box _ _, heap_alloc_new _ _⟩; rw [hb1]; have Hld := Lib.hid (fun (w' : World) (hb : Below w1.heap.size w1 w') => ldPol_run (p := p1000) (w := w') (pol_of_row (row_below hg1.2 hb) p1000_in)); simp only [p1000] at Hld; have hld := Hld.out w1 (Below.refl _ _); have Hg1 := Lib.hid hg1; clear hg1 hb1)
  refine (Admits_any 1 _ 1 1 [p1000] _ rfl (by unfold maxLen; omega) (pols_one (heap_alloc_new _ _) p1000_in) (by unfold In64; omega)).mono ?_
  rw [show admitsP 1 [p1000] = true by decide]
  rintro e w2 ⟨rfl, hb2⟩
  have Hb2 := Lib.hid ((below_box w1 (.cells #[.int .i64 1000, .int .i64 1, .int .i64 0, .int .i64 0] 26)).trans (hb2.mono (below_box w1 _).size))
  have hld := Hld.out w2 Hb2.out
  clear hb2
  go_wp2_with fail
  refine (Admits_any 1 _ 2 2 [p1000, p1000] _ rfl (by unfold maxLen; omega) (pols_two (heap_alloc_new _ _) p1000_in p1000_in) (by unfold In64; omega)).mono ?_
  rw [show admitsP 1 [p1000, p1000] = false by decide]
  rintro e w3 ⟨rfl, hb3⟩
  have Hb3 := Lib.hid (Hb2.out.trans (((below_box w2 _).trans (hb3.mono (below_box w2 _).size)).mono Hb2.out.size))
  have hld := Hld.out w3 Hb3.out
  clear hb3
  go_wp2_with fail
  refine (Load_any _ 1 1 [p1000] _ rfl (by omega) (pols_one (heap_alloc_new _ _) p1000_in)).mono ?_
  rw [show loadP [p1000] = 16777216 by decide]
  rintro e w4 ⟨rfl, hb4⟩
  have Hb4 := Lib.hid (Hb3.out.trans (((below_box w3 _).trans (hb4.mono (below_box w3 _).size)).mono Hb3.out.size))
  clear hb4
  go_wp2
  go_ret
  exact ⟨rfl, Hg1.out.1.trans (Hb4.out.mono Hg1.out.1.size)⟩
end Go.Proofs.Ytocigbknfhggfaa
