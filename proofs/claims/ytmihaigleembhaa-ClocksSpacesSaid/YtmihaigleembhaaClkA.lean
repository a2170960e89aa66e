/-
  Contract of dotterellaw11's awake: it holds, and turns nothing that was there. No condition.
-/
import Derived.Test.YtmihaigleembhaaClkC
namespace Go.Proofs.Ytmihaigleembhaa
open Go.ChangeShapes Go.WideShapes Go.ChangeAt Go.RowKit
set_option linter.unusedVariables false

theorem row_below {w w' : World} {g : Nat} {o : Obj} (h : w.heap[g]? = some o) (hb : Below w.heap.size w w') : w'.heap[g]? = some o := by
  rw [hb.block g (Array.getElem?_eq_some_iff.1 h).1]; exact h
def p1000 : Pol := ⟨1000, 1, 0, 0⟩
theorem p1000_in : InP p1000 := by unfold InP In64 p1000; simp
theorem zero_in : InC ⟨0, 0, 0⟩ := by unfold InC In64; simp
theorem awake1 (w : World) : Calls Try.prog 15 #[.agg #[.int .i64 1000, .int .i64 1, .int .i64 0, .int .i64 0], .agg #[.int .i64 0, .int .i64 0, .int .i64 0], .int .i64 0, .int .i64 1, .int .i64 0, .int .i64 0] w
    fun e w' => e = .returned (.agg #[.int .i64 65536, .int .i64 67108864, .int .i64 0]) ∧ Below w.heap.size w w' := by
  have h := Charge_any p1000 ⟨0, 0, 0⟩ 0 1 0 0 w p1000_in zero_in (by unfold inI; omega) (by unfold inI; omega) (by unfold inI; omega)
  rwa [show chargeF p1000 ⟨0, 0, 0⟩ 0 1 0 0 = ⟨65536, 67108864, 0⟩ by decide] at h
theorem awake2 (w : World) : Calls Try.prog 15 #[.agg #[.int .i64 1000, .int .i64 1, .int .i64 0, .int .i64 0], .agg #[.int .i64 0, .int .i64 0, .int .i64 0], .int .i64 0, .int .i64 2, .int .i64 0, .int .i64 0] w
    fun e w' => e = .returned (.agg #[.int .i64 0, .int .i64 67108864, .int .i64 0]) ∧ Below w.heap.size w w' := by
  have h := Charge_any p1000 ⟨0, 0, 0⟩ 0 2 0 0 w p1000_in zero_in (by unfold inI; omega) (by unfold inI; omega) (by unfold inI; omega)
  rwa [show chargeF p1000 ⟨0, 0, 0⟩ 0 2 0 0 = ⟨0, 67108864, 0⟩ by decide] at h
theorem awake3 (w : World) : Calls Try.prog 13 #[.agg #[.int .i64 1000, .int .i64 1, .int .i64 0, .int .i64 0], .agg #[.int .i64 0, .int .i64 0, .int .i64 0], .int .i64 0] w
    fun e w' => e = .returned (.bool true) ∧ Below w.heap.size w w' := by
  have h := ByReserve_any p1000 ⟨0, 0, 0⟩ 0 w p1000_in
  rwa [show byReserveF p1000 ⟨0, 0, 0⟩ 0 = true by decide] at h
attribute [local go_sem ↓] ldPol_eq ldClk_eq
set_option maxRecDepth 100000 in
set_option maxHeartbeats 2000000 in
theorem awake_any (w : World) : Calls Try.prog 8 #[] w fun e w' => e = .returned (.bool true) ∧ Below w.heap.size w w' := by
  have hP := heap_alloc_new w (.cells #[.int .i64 1000, .int .i64 1, .int .i64 0, .int .i64 0] 23)
  have hB := below_box w (.cells #[.int .i64 1000, .int .i64 1, .int .i64 0, .int .i64 0] 23)
  go_enter Try.func8, Try.ntmps8
  go_upto_region 2 with fail
  change Code.wp _ _ _ _ (w.alloc (.cells #[.int .i64 1000, .int .i64 1, .int .i64 0, .int .i64 0] 23))
  generalize w.alloc (.cells #[.int .i64 1000, .int .i64 1, .int .i64 0, .int .i64 0] 23) = w1 at hP hB ⊢
  have hld := ldPol_run (p := p1000) (pol_of_row hP p1000_in)
  simp only [p1000] at hld
  have HP := Lib.hid hP; have HB := Lib.hid hB
  clear hP hB
  go_upto_region 3 with (go_at_call 15; refine (awake1 _).mono ?_; rintro e w2 ⟨rfl, hb2⟩)
  change Code.wp _ _ _ _ (w2.alloc (.cells #[.int .i64 65536, .int .i64 67108864, .int .i64 0] 25))
  have Hb3 := Lib.hid (hb2.alloc hb2.size (.cells #[.int .i64 65536, .int .i64 67108864, .int .i64 0] 25))
  have HC : Hid (ClkAt (w2.alloc (.cells #[.int .i64 65536, .int .i64 67108864, .int .i64 0] 25)) w2.heap.size ⟨65536, 67108864, 0⟩) := Lib.hid (heap_alloc_new _ _)
  generalize w2.alloc (.cells #[.int .i64 65536, .int .i64 67108864, .int .i64 0] 25) = w3 at Hb3 HC ⊢
  clear hb2 hld
  have hld := ldPol_run (p := p1000) (pol_of_row (row_below HP.out Hb3.out) p1000_in)
  simp only [p1000] at hld
  go_upto_region 4 with (go_at_call 15; refine (awake2 _).mono ?_; rintro e w4 ⟨rfl, hb4⟩)
  change Code.wp _ _ _ _ (w4.alloc (.cells #[.int .i64 0, .int .i64 67108864, .int .i64 0] 25))
  have Hb5 := Lib.hid (hb4.alloc hb4.size (.cells #[.int .i64 0, .int .i64 67108864, .int .i64 0] 25))
  have HD : Hid (ClkAt (w4.alloc (.cells #[.int .i64 0, .int .i64 67108864, .int .i64 0] 25)) w4.heap.size ⟨0, 67108864, 0⟩) := Lib.hid (heap_alloc_new _ _)
  generalize w4.alloc (.cells #[.int .i64 0, .int .i64 67108864, .int .i64 0] 25) = w5 at Hb5 HD ⊢
  clear hb4 hld
  have Hb := Lib.hid (Hb3.out.trans (Hb5.out.mono Hb3.out.size))
  have hld := ldPol_run (p := p1000) (pol_of_row (row_below HP.out Hb.out) p1000_in)
  simp only [p1000] at hld
  have k1 := (HC.out.below Hb5.out).c0
  have k2 := HD.out.c0
  have k3 := HD.out.c1
  simp only at k1 k2 k3
  go_wp2_with (go_at_call 13; refine (awake3 _).mono ?_; rintro e w6 ⟨rfl, hb6⟩; have H6 := Lib.hid hb6; clear hb6)
  go_ret
  exact ⟨rfl, HB.out.trans ((Hb.out.trans (H6.out.mono Hb.out.size)).mono HB.out.size)⟩
end Go.Proofs.Ytmihaigleembhaa
