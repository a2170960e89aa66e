/-
  Contracts of policy.within, policy.Right and dotterelref10's Right. No condition but that an int holds the numbers.
-/
import Derived.Test.YtmdmpliiiecmlaaGreatJA
namespace Go.Proofs.YtmdmpliiiecmlaaGreat
open Go.ChangeShapes Go.WideShapes Go.ChangeAt Go.RowKit
set_option linter.unusedVariables false

theorem within_any (n a b : Int) (w : World) :
    Calls Tryz.prog 94 #[.int .i64 n, .int .i64 a, .int .i64 b] w fun e w' => e = .returned (.bool (decide (a ≤ n ∧ n ≤ b))) ∧ w = w' := by
  by_cases h1 : a ≤ n
  · by_cases h2 : n ≤ b
    · go_enter Tryz.func94, Tryz.ntmps94
      go_wp2
      go_ret
      exact ⟨bool_eq (by simp <;> omega), rfl⟩
    · go_enter Tryz.func94, Tryz.ntmps94
      go_wp2
      go_ret
      exact ⟨bool_eq (by simp <;> omega), rfl⟩
  · go_enter Tryz.func94, Tryz.ntmps94
    go_wp2
    go_ret
    exact ⟨bool_eq (by simp <;> omega), rfl⟩

theorem below_box (w : World) (o : Obj) : Below w.heap.size w (w.alloc o) := (Below.refl _ _).alloc (Nat.le_refl _) o

set_option maxRecDepth 100000 in
set_option maxHeartbeats 2000000 in
theorem Right_any (p : Pol) (w : World) : Calls Tryz.prog 85 #[.agg #[.int .i64 p.re, .int .i64 p.we, .int .i64 p.li, .int .i64 p.bu]] w fun e w' => e = .returned (.bool (rightP p)) ∧ Below w.heap.size w w' := by
  obtain ⟨re, we, li, bu⟩ := p
  show Calls _ _ _ _ fun e w' => e = .returned (.bool (decide (0 ≤ re ∧ re ≤ 1048576) && decide (1 ≤ we ∧ we ≤ 1024) && decide (0 ≤ li ∧ li ≤ 1048576) && decide (0 ≤ bu ∧ bu ≤ 1024) && decide (li = 0 ∨ re ≤ li))) ∧ _
  have Hb := Lib.hid (below_box w (.cells #[.int .i64 re, .int .i64 we, .int .i64 li, .int .i64 bu] 36))
  obtain ⟨b1, e1⟩ : ∃ b, decide (0 ≤ re ∧ re ≤ 1048576) = b := ⟨_, rfl⟩
  obtain ⟨b2, e2⟩ : ∃ b, decide (1 ≤ we ∧ we ≤ 1024) = b := ⟨_, rfl⟩
  obtain ⟨b3, e3⟩ : ∃ b, decide (0 ≤ li ∧ li ≤ 1048576) = b := ⟨_, rfl⟩
  obtain ⟨b4, e4⟩ : ∃ b, decide (0 ≤ bu ∧ bu ≤ 1024) = b := ⟨_, rfl⟩
  rw [e1, e2, e3, e4]
  have E1 := Lib.hid e1; have E2 := Lib.hid e2; have E3 := Lib.hid e3; have E4 := Lib.hid e4
  clear e1 e2 e3 e4
  have C1 := Lib.hid (fun w => (within_any re 0 1048576 w)); have C2 := Lib.hid (fun w => within_any we 1 1024 w); have C3 := Lib.hid (fun w => within_any li 0 1048576 w); have C4 := Lib.hid (fun w => within_any bu 0 1024 w)
  by_cases h0 : li = 0
  · have hz : (li == 0) = true := by simpa using h0
    have h5 : decide (li = 0 ∨ re ≤ li) = true := decide_eq_true (.inl h0)
    rw [h5]; clear h5 h0
    go_enter Tryz.func85, Tryz.ntmps85
    rcases b1 <;> rcases b2 <;> rcases b3 <;> rcases b4
    all_goals
      go_wp2_with (first
        | (go_at_call_of 94 (Value.int .i64 re); refine (C1.out _).mono ?_; rw [E1.out]; rintro e w' ⟨rfl, rfl⟩)
        | (go_at_call_of 94 (Value.int .i64 we); refine (C2.out _).mono ?_; rw [E2.out]; rintro e w' ⟨rfl, rfl⟩)
        | (go_at_call_of 94 (Value.int .i64 li); refine (C3.out _).mono ?_; rw [E3.out]; rintro e w' ⟨rfl, rfl⟩)
        | (go_at_call_of 94 (Value.int .i64 bu); refine (C4.out _).mono ?_; rw [E4.out]; rintro e w' ⟨rfl, rfl⟩))
      go_ret
      exact ⟨rfl, Hb.out⟩
  · have hz : (li == 0) = false := by simpa using h0
    by_cases h6 : re ≤ li
    · have h5 : decide (li = 0 ∨ re ≤ li) = true := decide_eq_true (.inr h6)
      rw [h5]; clear h5 h0
      go_enter Tryz.func85, Tryz.ntmps85
      rcases b1 <;> rcases b2 <;> rcases b3 <;> rcases b4
      all_goals
        go_wp2_with (first
          | (go_at_call_of 94 (Value.int .i64 re); refine (C1.out _).mono ?_; rw [E1.out]; rintro e w' ⟨rfl, rfl⟩)
          | (go_at_call_of 94 (Value.int .i64 we); refine (C2.out _).mono ?_; rw [E2.out]; rintro e w' ⟨rfl, rfl⟩)
          | (go_at_call_of 94 (Value.int .i64 li); refine (C3.out _).mono ?_; rw [E3.out]; rintro e w' ⟨rfl, rfl⟩)
          | (go_at_call_of 94 (Value.int .i64 bu); refine (C4.out _).mono ?_; rw [E4.out]; rintro e w' ⟨rfl, rfl⟩))
        go_ret
        exact ⟨rfl, Hb.out⟩
    · have h5 : decide (li = 0 ∨ re ≤ li) = false := decide_eq_false (fun h => h.elim h0 h6)
      rw [h5]; clear h5 h0
      go_enter Tryz.func85, Tryz.ntmps85
      rcases b1 <;> rcases b2 <;> rcases b3 <;> rcases b4
      all_goals
        go_wp2_with (first
          | (go_at_call_of 94 (Value.int .i64 re); refine (C1.out _).mono ?_; rw [E1.out]; rintro e w' ⟨rfl, rfl⟩)
          | (go_at_call_of 94 (Value.int .i64 we); refine (C2.out _).mono ?_; rw [E2.out]; rintro e w' ⟨rfl, rfl⟩)
          | (go_at_call_of 94 (Value.int .i64 li); refine (C3.out _).mono ?_; rw [E3.out]; rintro e w' ⟨rfl, rfl⟩)
          | (go_at_call_of 94 (Value.int .i64 bu); refine (C4.out _).mono ?_; rw [E4.out]; rintro e w' ⟨rfl, rfl⟩))
        go_ret
        first | exact ⟨rfl, Hb.out⟩ | exact ⟨bool_eq (by simp <;> omega), Hb.out⟩

set_option maxRecDepth 100000 in
set_option maxHeartbeats 2000000 in
theorem RRight_any (p : Pol) (w : World) : Calls Tryz.prog 44 #[.agg #[.int .i64 p.re, .int .i64 p.we, .int .i64 p.li, .int .i64 p.bu]] w fun e w' => e = .returned (.bool (rightP p)) ∧ Below w.heap.size w w' := by
  have hright := rightP_iff p
  obtain ⟨re, we, li, bu⟩ := p
  simp only at hright
  obtain ⟨r, hr⟩ : ∃ b, rightP ⟨re, we, li, bu⟩ = b := ⟨_, rfl⟩
  rw [hr] at hright ⊢
  clear hr
  show Calls _ _ #[.agg #[.int .i64 re, .int .i64 we, .int .i64 li, .int .i64 bu]] _ _
  have Hr := Lib.hid hright; clear hright
  have Hb := Lib.hid (below_box w (.cells #[.int .i64 re, .int .i64 we, .int .i64 li, .int .i64 bu] 36))
  have no : ∀ P : Prop, P → (P → ¬ ((0 ≤ re ∧ re ≤ 1048576) ∧ (1 ≤ we ∧ we ≤ 1024) ∧ (0 ≤ li ∧ li ≤ 1048576) ∧ (0 ≤ bu ∧ bu ≤ 1024) ∧ (li = 0 ∨ re ≤ li))) → r = false := fun P h k => by
    cases hr : r with
    | false => rfl
    | true => exact absurd (Hr.out.1 hr) (k h)
  have No := Lib.hid no; clear no
  by_cases c1 : re < 0
  · obtain rfl := No.out _ c1 (by omega)
    go_enter Tryz.func44, Tryz.ntmps44
    go_wp2
    go_ret
    exact ⟨rfl, Hb.out⟩
  by_cases c2 : 1048576 < re
  · obtain rfl := No.out _ c2 (by omega)
    go_enter Tryz.func44, Tryz.ntmps44
    go_wp2
    go_ret
    exact ⟨rfl, Hb.out⟩
  by_cases c3 : li < 0
  · obtain rfl := No.out _ c3 (by omega)
    go_enter Tryz.func44, Tryz.ntmps44
    go_wp2
    go_ret
    exact ⟨rfl, Hb.out⟩
  by_cases c4 : 1048576 < li
  · obtain rfl := No.out _ c4 (by omega)
    go_enter Tryz.func44, Tryz.ntmps44
    go_wp2
    go_ret
    exact ⟨rfl, Hb.out⟩
  by_cases c5 : we < 1
  · obtain rfl := No.out _ c5 (by omega)
    go_enter Tryz.func44, Tryz.ntmps44
    go_wp2
    go_ret
    exact ⟨rfl, Hb.out⟩
  by_cases c6 : 1024 < we
  · obtain rfl := No.out _ c6 (by omega)
    go_enter Tryz.func44, Tryz.ntmps44
    go_wp2
    go_ret
    exact ⟨rfl, Hb.out⟩
  by_cases c7 : bu < 0
  · obtain rfl := No.out _ c7 (by omega)
    go_enter Tryz.func44, Tryz.ntmps44
    go_wp2
    go_ret
    exact ⟨rfl, Hb.out⟩
  by_cases c8 : 1024 < bu
  · obtain rfl := No.out _ c8 (by omega)
    go_enter Tryz.func44, Tryz.ntmps44
    go_wp2
    go_ret
    exact ⟨rfl, Hb.out⟩
  by_cases h0 : li = 0
  · have hz : (li == 0) = true := by simpa using h0
    obtain rfl : r = true := Hr.out.2 ⟨by omega, by omega, by omega, by omega, .inl h0⟩
    clear h0
    go_enter Tryz.func44, Tryz.ntmps44
    go_wp2
    go_ret
    exact ⟨rfl, Hb.out⟩
  · have hz : (li == 0) = false := by simpa using h0
    by_cases h6 : re ≤ li
    · obtain rfl : r = true := Hr.out.2 ⟨by omega, by omega, by omega, by omega, .inr h6⟩
      clear h0
      go_enter Tryz.func44, Tryz.ntmps44
      go_wp2
      go_ret
      exact ⟨rfl, Hb.out⟩
    · obtain rfl := No.out _ h6 (by omega)
      clear h0
      go_enter Tryz.func44, Tryz.ntmps44
      go_wp2
      go_ret
      exact ⟨rfl, Hb.out⟩
end Go.Proofs.YtmdmpliiiecmlaaGreat
