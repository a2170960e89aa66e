/-
  Contracts of within, right, maps.Copy (into a map that has nobody), with, Check, Put of the table. Conditions: what each names.
-/
import Derived.Test.YtkjfaijdmpnjkaaDupMem
import Derived.Test.YtkjfaijdmpnjkaaNums
import Derived.Lib.Hide
import Derived.StillTailTactics
import Derived.BigQuiet
import Derived.WalkSmall
namespace Go.Proofs.Ytkjfaijdmpnjkaa
open Go.ChangeShapes Go.WideShapes Go.ChangeAt Go.RowKit Go.Maps
set_option linter.unusedVariables false

theorem bool_eq {a b : Bool} (h : a = b) : Ending.returned (.bool a) = .returned (.bool b) := by rw [h]
theorem within_any (n a b : Int) (w : World) :
    Calls Try.prog 27 #[.int .i64 n, .int .i64 a, .int .i64 b] w fun e w' => e = .returned (.bool (decide (a ≤ n) && decide (n ≤ b))) ∧ w = w' := by
  obtain ⟨r1, e1⟩ : ∃ r, decide (a ≤ n) = r := ⟨_, rfl⟩
  obtain ⟨r2, e2⟩ : ∃ r, decide (n ≤ b) = r := ⟨_, rfl⟩
  rw [e1, e2]
  have E1 := Lib.hid e1; have E2 := Lib.hid e2
  cases r1 with
  | true =>
    have h1 := of_decide_eq_true e1
    cases r2 with
    | true =>
      have h2 := of_decide_eq_true e2
      go_enter Try.func27, Try.ntmps27
      go_wp2
      go_ret
      exact ⟨rfl, rfl⟩
    | false =>
      have h2 := of_decide_eq_false e2
      go_enter Try.func27, Try.ntmps27
      go_wp2
      go_ret
      exact ⟨rfl, rfl⟩
  | false =>
    have h1 := of_decide_eq_false e1
    go_enter Try.func27, Try.ntmps27
    go_wp2
    go_ret
    exact ⟨rfl, rfl⟩

set_option maxRecDepth 100000 in
theorem right_any (c n e : Int) (w : World) :
    Calls Try.prog 17 #[.int .i64 c, .int .i64 n, .int .i64 e] w fun en w' => en = .returned (.bool (rightL c n e)) ∧ w = w' := by
  unfold rightL
  obtain ⟨b1, e1⟩ : ∃ b, (decide (0 ≤ c) && decide (c ≤ 255)) = b := ⟨_, rfl⟩
  obtain ⟨b2, e2⟩ : ∃ b, (decide (1 ≤ n) && decide (n ≤ 1099511627776)) = b := ⟨_, rfl⟩
  obtain ⟨b3, e3⟩ : ∃ b, (decide (0 ≤ e) && decide (e ≤ 63)) = b := ⟨_, rfl⟩
  rw [e1, e2, e3]
  have E1 := Lib.hid e1; have E2 := Lib.hid e2; have E3 := Lib.hid e3
  clear e1 e2 e3
  go_enter Try.func17, Try.ntmps17
  rcases b1 <;> rcases b2 <;> rcases b3
  all_goals
    go_wp2_with (first
      | (go_at_call_of 27 (Value.int .i64 c); refine (within_any c 0 255 _).mono ?_; rw [E1.out]; rintro e w' ⟨rfl, rfl⟩)
      | (go_at_call_of 27 (Value.int .i64 n); refine (within_any n 1 1099511627776 _).mono ?_; rw [E2.out]; rintro e w' ⟨rfl, rfl⟩)
      | (go_at_call_of 27 (Value.int .i64 e); refine (within_any e 0 63 _).mono ?_; rw [E3.out]; rintro e w' ⟨rfl, rfl⟩))
    go_ret
    exact ⟨rfl, rfl⟩

/-! ### Check -/
theorem below_alloc (w : World) (o : Obj) : Below w.heap.size w (w.alloc o) := (Below.refl _ _).alloc (Nat.le_refl _) o
theorem new_ls (w : World) (a b : Int) : (w.alloc (.cells #[.int .i64 a, .int .i64 b] 54)).cell? ⟨w.heap.size, 0, none⟩ = some (.int .i64 a) ∧ (w.alloc (.cells #[.int .i64 a, .int .i64 b] 54)).cell? ⟨w.heap.size, 1, none⟩ = some (.int .i64 b) :=
  ⟨row_cell (heap_alloc_new w (.cells #[.int .i64 a, .int .i64 b] 54)) 0, row_cell (heap_alloc_new w (.cells #[.int .i64 a, .int .i64 b] 54)) 1⟩

set_option maxRecDepth 100000 in
set_option maxHeartbeats 2000000 in
theorem Check_any (g : Nat) (m : Option Nat) (x : List Lst) (c n : Int) (w : World) (H : TabAt w g m x) (h1 : -9223372036854775808 ≤ c) (h2 : c ≤ 9223372036854775807) :
    Calls Try.prog 11 #[.pointer (some ⟨g, 0, none⟩), .int .i64 c, .int .i64 n] w fun en w' => en = .returned (.tuple #[.int .i64 (chkL x c n).1, .int .i64 (chkL x c n).2]) ∧ Below w.heap.size w w' := by
  have hc0 : w.cell? ⟨g, 0, none⟩ = some (.map m) := row_cell H.1 0
  have hl := has_run H.2 h1 h2
  unfold chkL
  cases hat : atL x c with
  | none =>
    have e0 : lastOf x c = (0, 0) := by unfold lastOf; rw [hat]
    rw [hat, e0] at hl
    simp only [Option.isSome_none] at hl ⊢
    have Hb := Lib.hid (below_alloc w (.cells #[.int .i64 0, .int .i64 0] 54))
    clear H e0 hat
    go_enter Try.func11, Try.ntmps11
    go_wp2
    go_ret2
    exact ⟨rfl, Hb.out⟩
  | some l =>
    have e0 : lastOf x c = l.2 := by unfold lastOf; rw [hat]
    rw [hat, e0] at hl
    obtain ⟨lc, ln, le⟩ := l
    simp only [Option.isSome_some] at hl ⊢
    have Hb := Lib.hid (below_alloc w (.cells #[.int .i64 ln, .int .i64 le] 54))
    clear H e0 hat
    obtain ⟨W1, hW1⟩ : ∃ W1, w.alloc (.cells #[.int .i64 ln, .int .i64 le] 54) = W1 := ⟨_, rfl⟩
    have x0 : W1.cell? ⟨w.heap.size, 0, none⟩ = some (.int .i64 ln) := by rw [← hW1]; exact (new_ls _ _ _).1
    have x1 : W1.cell? ⟨w.heap.size, 1, none⟩ = some (.int .i64 le) := by rw [← hW1]; exact (new_ls _ _ _).2
    rw [hW1] at Hb
    by_cases q1 : ln = n
    · subst q1
      rw [if_pos rfl]
      go_enter Try.func11, Try.ntmps11
      go_wp2
      go_quiet (fail)
      go_wp2
      go_ret2
      exact ⟨rfl, below_drewN Hb.out _⟩
    · have k1 : (ln == n) = false := by simpa using q1
      by_cases q2 : n < ln
      · have k2 : ln > n := q2
        rw [if_neg q1, if_pos q2]
        clear q1 q2
        go_enter Try.func11, Try.ntmps11
        go_wp2
        go_ret2
        exact ⟨rfl, Hb.out⟩
      · have k2 : ¬ ln > n := q2
        rw [if_neg q1, if_neg q2]
        clear q1 q2
        go_enter Try.func11, Try.ntmps11
        go_wp2
        go_ret2
        exact ⟨rfl, Hb.out⟩
end Go.Proofs.Ytkjfaijdmpnjkaa
