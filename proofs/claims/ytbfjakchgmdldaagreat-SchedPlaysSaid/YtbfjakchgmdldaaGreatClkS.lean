/-
  Contracts of clocks.elsewhere, grow, ahead, and of dotterelref11's done and Right. Conditions: that an int holds the numbers.
-/
import Derived.Test.YtbfjakchgmdldaaGreatClkMem
import Derived.Test.YtbfjakchgmdldaaGreatPolR
namespace Go.Proofs.YtbfjakchgmdldaaGreat
open Go.ChangeShapes Go.WideShapes Go.ChangeAt Go.RowKit
set_option linter.unusedVariables false

theorem elsewhere_any (n : Int) (w : World) (hn : inI n) : Calls Tryz.prog 57 #[.int .i64 n] w fun e w' => e = .returned (.int .i64 (elseF n)) ∧ w = w' := by
  obtain ⟨h1, h2⟩ := hn
  go_enter Tryz.func57, Tryz.ntmps57
  go_wp2
  all_goals
    go_ret
    exact ⟨int_eq (by unfold elseF; omega), rfl⟩
theorem done_any (n : Int) (w : World) (hn : inI n) : Calls Tryz.prog 40 #[.int .i64 n] w fun e w' => e = .returned (.int .i64 (elseF n)) ∧ w = w' := by
  obtain ⟨h1, h2⟩ := hn
  go_enter Tryz.func40, Tryz.ntmps40
  go_wp2
  all_goals
    go_ret
    exact ⟨int_eq (by unfold elseF; omega), rfl⟩
theorem ahead_any (now span : Int) (w : World) (h1 : inI now) (h2 : isTag span) : Calls Tryz.prog 61 #[.int .i64 now, .int .i64 span] w fun e w' => e = .returned (.int .i64 (aheadF now span)) ∧ w = w' := by
  obtain ⟨h3, h4⟩ := h2
  obtain ⟨h1, h2⟩ := h1
  by_cases h : now < span
  · go_enter Tryz.func61, Tryz.ntmps61
    go_wp2
    go_ret
    exact ⟨int_eq (by unfold aheadF; omega), rfl⟩
  · go_enter Tryz.func61, Tryz.ntmps61
    go_wp2
    go_ret
    exact ⟨int_eq (by unfold aheadF; omega), rfl⟩
theorem grow_any (t s n : Int) (w : World) (h1 : inI t) (h2 : inI s) (h3 : inI n) : Calls Tryz.prog 58 #[.int .i64 t, .int .i64 s, .int .i64 n] w fun e w' => e = .returned (.int .i64 (growF t s n)) ∧ w = w' := by
  have C1 := Lib.hid (fun w => times_any s n w h2 h3)
  have C2 := Lib.hid (fun w => add_any t (timesF s n) w h1 (tag_in (timesF_bd s n)))
  show Calls _ _ _ _ fun e w' => e = .returned (.int .i64 (addF t (timesF s n))) ∧ w = w'
  obtain ⟨z, hz⟩ : ∃ z, timesF s n = z := ⟨_, rfl⟩
  rw [hz] at C1 C2 ⊢
  clear hz
  go_enter Tryz.func58, Tryz.ntmps58
  go_wp2_with (first
    | (go_at_call 39; refine (C1.out _).mono ?_; rintro e w' ⟨rfl, rfl⟩)
    | (go_at_call 72; refine (C2.out _).mono ?_; rintro e w' ⟨rfl, rfl⟩))
  go_ret
  exact ⟨rfl, rfl⟩
end Go.Proofs.YtbfjakchgmdldaaGreat
