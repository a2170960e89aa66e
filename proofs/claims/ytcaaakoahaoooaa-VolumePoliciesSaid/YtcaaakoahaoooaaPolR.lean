/-
  Contracts of policy.within, policy.Right and dotterelref10's Right. No condition but that an int holds the numbers.
-/
import Derived.Test.YtcaaakoahaoooaaPolMem
namespace Go.Proofs.Ytcaaakoahaoooaa
open Go.ChangeShapes Go.WideShapes Go.ChangeAt Go.RowKit
set_option linter.unusedVariables false

theorem within_any (n a b : Int) (w : World) :
    Calls Try.prog 28 #[.int .i64 n, .int .i64 a, .int .i64 b] w fun e w' => e = .returned (.bool (decide (a ≤ n ∧ n ≤ b))) ∧ w = w' := by
  by_cases h1 : a ≤ n
  · by_cases h2 : n ≤ b
    · go_enter Try.func28, Try.ntmps28
      go_wp2
      go_ret
      exact ⟨bool_eq (by simp <;> omega), rfl⟩
    · go_enter Try.func28, Try.ntmps28
      go_wp2
      go_ret
      exact ⟨bool_eq (by simp <;> omega), rfl⟩
  · go_enter Try.func28, Try.ntmps28
    go_wp2
    go_ret
    exact ⟨bool_eq (by simp <;> omega), rfl⟩

theorem below_box (w : World) (o : Obj) : Below w.heap.size w (w.alloc o) := (Below.refl _ _).alloc (Nat.le_refl _) o

set_option maxRecDepth 100000 in
set_option maxHeartbeats 2000000 in
theorem Right_any (p : Pol) (w : World) : Calls Try.prog 53 #[.agg #[.int .i64 p.re, .int .i64 p.we, .int .i64 p.li, .int .i64 p.bu]] w fun e w' => e = .returned (.bool (rightP p)) ∧ Below w.heap.size w w' := by
  obtain ⟨re, we, li, bu⟩ := p
  show Calls _ _ _ _ fun e w' => e = .returned (.bool (decide (0 ≤ re ∧ re ≤ 1048576) && decide (1 ≤ we ∧ we ≤ 1024) && decide (0 ≤ li ∧ li ≤ 1048576) && decide (0 ≤ bu ∧ bu ≤ 1024) && decide (li = 0 ∨ re ≤ li))) ∧ _
  have Hb := Lib.hid (below_box w (.cells #[.int .i64 re, .int .i64 we, .int .i64 li, .int .i64 bu] 29))
  obtain ⟨b1, e1⟩ : ∃ b, decide (0 ≤ re ∧ re ≤ 1048576) = b := ⟨_, rfl⟩
  obtain ⟨b2, e2⟩ : ∃ b, decide (1 ≤ we ∧ we ≤ 1024) = b := ⟨_, rfl⟩
  obtain ⟨b3, e3⟩ : ∃ b, decide (0 ≤ li ∧ li ≤ 1048576) = b := ⟨_, rfl⟩
  obtain ⟨b4, e4⟩ : ∃ b, decide (0 ≤ bu ∧ bu ≤ 1024) = b := ⟨_, rfl⟩
  rw [e1, e2, e3, e4]
  have E1 := Lib.hid e1; have E2 := Lib.hid e2; have E3 := Lib.hid e3; have E4 := Lib.hid e4
  clear e1 e2 e3 e4
  have C1 := Lib.hid (fun w => (within_any re 0 1048576 w)); have C2 := Lib.hid (fun w => within_any we 1 1024 w); have C3 := Lib.hid (fun w => within_any li 0 1048576 w); have C4 := Lib.hid (fun w => within_any bu 0 1024 w)
  by_cases h0 : li = 0
  · have hz : (li == 0) = true := by simpa using h0
    have h5 : decide (li = 0 ∨ re ≤ li) = true := decide_eq_true (.inl h0)
    rw [h5]; clear h5 h0
    go_enter Try.func53, Try.ntmps53
    rcases b1 <;> rcases b2 <;> rcases b3 <;> rcases b4
    all_goals
      go_wp2_with (first
        | (go_at_call_of 28 (Value.int .i64 re); refine (C1.out _).mono ?_; rw [E1.out]; rintro e w' ⟨rfl, rfl⟩)
        | (go_at_call_of 28 (Value.int .i64 we); refine (C2.out _).mono ?_; rw [E2.out]; rintro e w' ⟨rfl, rfl⟩)
        | (go_at_call_of 28 (Value.int .i64 li); refine (C3.out _).mono ?_; rw [E3.out]; rintro e w' ⟨rfl, rfl⟩)
        | (go_at_call_of 28 (Value.int .i64 bu); refine (C4.out _).mono ?_; rw [E4.out]; rintro e w' ⟨rfl, rfl⟩))
      go_ret
      exact ⟨rfl, Hb.out⟩
  · have hz : (li == 0) = false := by simpa using h0
    by_cases h6 : re ≤ li
    · have h5 : decide (li = 0 ∨ re ≤ li) = true := decide_eq_true (.inr h6)
      rw [h5]; clear h5 h0
      go_enter Try.func53, Try.ntmps53
      rcases b1 <;> rcases b2 <;> rcases b3 <;> rcases b4
      all_goals
        go_wp2_with (first
          | (go_at_call_of 28 (Value.int .i64 re); refine (C1.out _).mono ?_; rw [E1.out]; rintro e w' ⟨rfl, rfl⟩)
          | (go_at_call_of 28 (Value.int .i64 we); refine (C2.out _).mono ?_; rw [E2.out]; rintro e w' ⟨rfl, rfl⟩)
          | (go_at_call_of 28 (Value.int .i64 li); refine (C3.out _).mono ?_; rw [E3.out]; rintro e w' ⟨rfl, rfl⟩)
          | (go_at_call_of 28 (Value.int .i64 bu); refine (C4.out _).mono ?_; rw [E4.out]; rintro e w' ⟨rfl, rfl⟩))
        go_ret
        exact ⟨rfl, Hb.out⟩
    · have h5 : decide (li = 0 ∨ re ≤ li) = false := decide_eq_false (fun h => h.elim h0 h6)
      rw [h5]; clear h5 h0
      go_enter Try.func53, Try.ntmps53
      rcases b1 <;> rcases b2 <;> rcases b3 <;> rcases b4
      all_goals
        go_wp2_with (first
          | (go_at_call_of 28 (Value.int .i64 re); refine (C1.out _).mono ?_; rw [E1.out]; rintro e w' ⟨rfl, rfl⟩)
          | (go_at_call_of 28 (Value.int .i64 we); refine (C2.out _).mono ?_; rw [E2.out]; rintro e w' ⟨rfl, rfl⟩)
          | (go_at_call_of 28 (Value.int .i64 li); refine (C3.out _).mono ?_; rw [E3.out]; rintro e w' ⟨rfl, rfl⟩)
          | (go_at_call_of 28 (Value.int .i64 bu); refine (C4.out _).mono ?_; rw [E4.out]; rintro e w' ⟨rfl, rfl⟩))
        go_ret
        first | exact ⟨rfl, Hb.out⟩ | exact ⟨bool_eq (by simp <;> omega), Hb.out⟩

end Go.Proofs.Ytcaaakoahaoooaa
