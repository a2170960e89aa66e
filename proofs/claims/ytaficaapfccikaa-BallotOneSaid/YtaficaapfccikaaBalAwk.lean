/-
  Contract of dotterellaw16's awake: it holds, and turns nothing that was there. No condition.
-/
import Derived.Test.YtaficaapfccikaaBalGr
namespace Go.Proofs.Ytaficaapfccikaa
open Go.ChangeShapes Go.WideShapes Go.ChangeAt Go.RowKit
set_option linter.unusedVariables false

theorem AsNew_below (t i u j : Int) (w : World) : Calls Try.prog 13 #[.int .i64 t, .int .i64 i, .int .i64 u, .int .i64 j] w fun e w' => e = .returned (.bool (decide (NewB t i u j))) ∧ Below w.heap.size w w' :=
  (AsNew_any t i u j w).mono fun e w' ⟨h, k⟩ => ⟨h, by subst k; exact Below.refl _ _⟩
theorem awake1 (w : World) : Calls Try.prog 7 #[.agg #[.int .i64 0, .int .i64 (-1)], .int .i64 3, .int .i64 1, .bool true] w fun e w' => e = .returned (.tuple #[.agg #[.int .i64 3, .int .i64 1], .bool true]) ∧ Below w.heap.size w w' := by
  have h := Grant_any ⟨0, -1⟩ 3 1 true w
  rwa [show GrantRet ⟨0, -1⟩ 3 1 true = .tuple #[.agg #[.int .i64 3, .int .i64 1], .bool true] from ret_yes (s := ⟨3, -1⟩) (by decide) ⟨rfl, rfl, by decide, by decide, .inl rfl⟩] at h
theorem awake2 (w : World) : Calls Try.prog 7 #[.agg #[.int .i64 3, .int .i64 1], .int .i64 3, .int .i64 2, .bool true] w fun e w' => e = .returned (.tuple #[.agg #[.int .i64 3, .int .i64 1], .bool false]) ∧ Below w.heap.size w w' := by
  have h := Grant_any ⟨3, 1⟩ 3 2 true w
  rwa [show GrantRet ⟨3, 1⟩ 3 2 true = .tuple #[.agg #[.int .i64 3, .int .i64 1], .bool false] from ret_no (s := ⟨3, 1⟩) (by decide) (by decide)] at h
attribute [local go_sem ↓] ldBal_eq
set_option maxRecDepth 100000 in
set_option maxHeartbeats 2000000 in
theorem awake_any (w : World) : Calls Try.prog 14 #[] w fun e w' => e = .returned (.bool true) ∧ Below w.heap.size w w' := by
  have KR := Lib.hid (fun w => Right_any ⟨3, 1⟩ w)
  rw [show decide (RightB ⟨3, 1⟩) = true by decide] at KR
  go_enter Try.func14, Try.ntmps14
  go_upto_region 2 with (go_at_call 7; refine (awake1 _).mono ?_; rintro e w2 ⟨rfl, hb2⟩)
  change Code.wp _ _ _ _ (w2.alloc (.cells #[.int .i64 3, .int .i64 1] 23))
  have Hb3 := Lib.hid (hb2.alloc hb2.size (.cells #[.int .i64 3, .int .i64 1] 23))
  have HC : Hid (BalAt (w2.alloc (.cells #[.int .i64 3, .int .i64 1] 23)) w2.heap.size ⟨3, 1⟩) := Lib.hid (heap_alloc_new _ _)
  generalize w2.alloc (.cells #[.int .i64 3, .int .i64 1] 23) = w3 at Hb3 HC ⊢
  clear hb2
  have hld := ldBal_run HC.out
  simp only at hld
  go_upto_region 3 with (go_at_call 7; refine (awake2 _).mono ?_; rintro e w4 ⟨rfl, hb4⟩)
  change Code.wp _ _ _ _ (w4.alloc (.cells #[.int .i64 3, .int .i64 1] 23))
  have Hb5 := Lib.hid (hb4.alloc hb4.size (.cells #[.int .i64 3, .int .i64 1] 23))
  generalize w4.alloc (.cells #[.int .i64 3, .int .i64 1] 23) = w5 at Hb5 ⊢
  clear hb4 hld
  have hld := ldBal_run (HC.out.below Hb5.out)
  simp only at hld
  go_wp2_with (go_at_call 9; refine (KR.out _).mono ?_; rintro e w6 ⟨rfl, hb6⟩; have H6 := Lib.hid hb6; clear hb6)
  go_ret
  have hb := Hb3.out.trans (Hb5.out.mono Hb3.out.size)
  exact ⟨rfl, hb.trans (H6.out.mono hb.size)⟩
end Go.Proofs.Ytaficaapfccikaa
