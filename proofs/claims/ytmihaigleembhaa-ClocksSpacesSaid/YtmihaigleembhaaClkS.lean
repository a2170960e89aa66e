/-
  Contracts of clocks.elsewhere, grow, ahead, and of dotterelref11's done and Right. Conditions: that an int holds the numbers.
-/
import Derived.Test.YtmihaigleembhaaClkMem
import Derived.Test.YtmihaigleembhaaPolR
namespace Go.Proofs.Ytmihaigleembhaa
open Go.ChangeShapes Go.WideShapes Go.ChangeAt Go.RowKit
set_option linter.unusedVariables false

theorem elsewhere_any (n : Int) (w : World) (hn : inI n) : Calls Try.prog 21 #[.int .i64 n] w fun e w' => e = .returned (.int .i64 (elseF n)) ∧ w = w' := by
  obtain ⟨h1, h2⟩ := hn
  go_enter Try.func21, Try.ntmps21
  go_wp2
  all_goals
    go_ret
    exact ⟨int_eq (by unfold elseF; omega), rfl⟩
theorem done_any (n : Int) (w : World) (hn : inI n) : Calls Try.prog 27 #[.int .i64 n] w fun e w' => e = .returned (.int .i64 (elseF n)) ∧ w = w' := by
  obtain ⟨h1, h2⟩ := hn
  go_enter Try.func27, Try.ntmps27
  go_wp2
  all_goals
    go_ret
    exact ⟨int_eq (by unfold elseF; omega), rfl⟩
theorem ahead_any (now span : Int) (w : World) (h1 : inI now) (h2 : isTag span) : Calls Try.prog 25 #[.int .i64 now, .int .i64 span] w fun e w' => e = .returned (.int .i64 (aheadF now span)) ∧ w = w' := by
  obtain ⟨h3, h4⟩ := h2
  obtain ⟨h1, h2⟩ := h1
  by_cases h : now < span
  · go_enter Try.func25, Try.ntmps25
    go_wp2
    go_ret
    exact ⟨int_eq (by unfold aheadF; omega), rfl⟩
  · go_enter Try.func25, Try.ntmps25
    go_wp2
    go_ret
    exact ⟨int_eq (by unfold aheadF; omega), rfl⟩
theorem grow_any (t s n : Int) (w : World) (h1 : inI t) (h2 : inI s) (h3 : inI n) : Calls Try.prog 22 #[.int .i64 t, .int .i64 s, .int .i64 n] w fun e w' => e = .returned (.int .i64 (growF t s n)) ∧ w = w' := by
  have C1 := Lib.hid (fun w => times_any s n w h2 h3)
  have C2 := Lib.hid (fun w => add_any t (timesF s n) w h1 (tag_in (timesF_bd s n)))
  show Calls _ _ _ _ fun e w' => e = .returned (.int .i64 (addF t (timesF s n))) ∧ w = w'
  obtain ⟨z, hz⟩ : ∃ z, timesF s n = z := ⟨_, rfl⟩
  rw [hz] at C1 C2 ⊢
  clear hz
  go_enter Try.func22, Try.ntmps22
  go_wp2_with (first
    | (go_at_call 26; refine (C1.out _).mono ?_; rintro e w' ⟨rfl, rfl⟩)
    | (go_at_call 31; refine (C2.out _).mono ?_; rintro e w' ⟨rfl, rfl⟩))
  go_ret
  exact ⟨rfl, rfl⟩
set_option maxRecDepth 100000 in
set_option maxHeartbeats 2000000 in
theorem Right11_any (c : Clk) (w : World) : Calls Try.prog 7 #[.agg #[.int .i64 c.r, .int .i64 c.p, .int .i64 c.l]] w fun e w' => e = .returned (.bool (tagsB c)) ∧ Below w.heap.size w w' := by
  obtain ⟨r, p, l⟩ := c
  have Hb := Lib.hid (below_box w (.cells #[.int .i64 r, .int .i64 p, .int .i64 l] 25))
  obtain ⟨b, hb⟩ : ∃ b, tagsB ⟨r, p, l⟩ = b := ⟨_, rfl⟩
  rw [hb]
  have E := Lib.hid hb; clear hb
  show Calls _ _ #[.agg #[.int .i64 r, .int .i64 p, .int .i64 l]] _ _
  by_cases c0 : 0 ≤ r
  case neg =>
    obtain rfl : b = false := by rw [← E.out]; unfold tagsB; simp; omega
    go_enter Try.func7, Try.ntmps7
    go_wp2
    go_ret
    exact ⟨rfl, Hb.out⟩
  by_cases c1 : r ≤ 2305843009213693952
  case neg =>
    obtain rfl : b = false := by rw [← E.out]; unfold tagsB; simp; omega
    go_enter Try.func7, Try.ntmps7
    go_wp2
    go_ret
    exact ⟨rfl, Hb.out⟩
  by_cases c2 : 0 ≤ p
  case neg =>
    obtain rfl : b = false := by rw [← E.out]; unfold tagsB; simp; omega
    go_enter Try.func7, Try.ntmps7
    go_wp2
    go_ret
    exact ⟨rfl, Hb.out⟩
  by_cases c3 : p ≤ 2305843009213693952
  case neg =>
    obtain rfl : b = false := by rw [← E.out]; unfold tagsB; simp; omega
    go_enter Try.func7, Try.ntmps7
    go_wp2
    go_ret
    exact ⟨rfl, Hb.out⟩
  by_cases c4 : 0 ≤ l
  case neg =>
    obtain rfl : b = false := by rw [← E.out]; unfold tagsB; simp; omega
    go_enter Try.func7, Try.ntmps7
    go_wp2
    go_ret
    exact ⟨rfl, Hb.out⟩
  by_cases c5 : l ≤ 2305843009213693952
  case neg =>
    obtain rfl : b = false := by rw [← E.out]; unfold tagsB; simp; omega
    go_enter Try.func7, Try.ntmps7
    go_wp2
    go_ret
    exact ⟨rfl, Hb.out⟩
  obtain rfl : b = true := by rw [← E.out]; unfold tagsB; simp; omega
  go_enter Try.func7, Try.ntmps7
  go_wp2
  go_ret
  exact ⟨rfl, Hb.out⟩
end Go.Proofs.Ytmihaigleembhaa
