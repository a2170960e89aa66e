/-
  Contracts of stripe's Where, Count, isWithin, Bytes and of the document's Count and Right, for any numbers. No condition but that an int holds them.
-/
import Derived.Test.YtmdmpliiiecmlaaStrMath
import Derived.Test.YtmdmpliiiecmlaaRows
import Derived.WalkLawsBesides
import Derived.WalkSpells
namespace Go.Proofs.Ytmdmpliiiecmlaa
open Go.ChangeShapes Go.WideShapes Go.ChangeAt Go.RowKit
set_option linter.unusedVariables false

def inI (a : Int) : Prop := -9223372036854775808 ≤ a ∧ a ≤ 9223372036854775807
theorem in_of {a : Int} (h : (Lit.int .i64 a).wf = true) : inI a := by
  simp [Lit.wf, IntKind.min, IntKind.max, IntKind.bits, IntKind.signed] at h; unfold inI; omega
theorem int_eq {a b : Int} (h : a = b) : Ending.returned (.int .i64 a) = .returned (.int .i64 b) := by rw [h]
theorem bool_eq {a b : Bool} (h : a = b) : Ending.returned (.bool a) = .returned (.bool b) := by rw [h]

theorem SWhere_yes (b : Int) (w : World) (h0 : 0 ≤ b) (h : inI b) : Calls Try.prog 8 #[.int .i64 b] w fun e w' => e = .returned (.tuple #[.int .i64 (b / 8), .int .i64 (b % 8)]) ∧ w = w' := by
  obtain ⟨h1, h2⟩ := h
  have g : ¬ b < 0 := by omega
  go_enter Try.func8, Try.ntmps8
  go_wp2
  go_ret2
  exact ⟨rfl, rfl⟩
theorem SWhere_no (b : Int) (w : World) (h0 : b < 0) : Calls Try.prog 8 #[.int .i64 b] w fun e w' => e = .returned (.tuple #[.int .i64 0, .int .i64 0]) ∧ w = w' := by
  go_enter Try.func8, Try.ntmps8
  go_wp2
  go_ret2
  exact ⟨rfl, rfl⟩
def countF (n : Int) : Int := if n < 1 then 0 else (n - 1) / 8 + 1
theorem SCount (n : Int) (w : World) (h : inI n) : Calls Try.prog 9 #[.int .i64 n] w fun e w' => e = .returned (.int .i64 (countF n)) ∧ w = w' := by
  obtain ⟨h1, h2⟩ := h
  by_cases hn : n < 1
  · have e : countF n = 0 := if_pos hn
    rw [e]
    clear e
    go_enter Try.func9, Try.ntmps9
    go_wp2
    go_ret
    exact ⟨rfl, rfl⟩
  · have e : countF n = (n - 1) / 8 + 1 := if_neg hn
    rw [e]
    have g1 : 0 ≤ n - 1 := by omega
    have g2 : inI (n - 1) := by unfold inI; omega
    clear e
    go_enter Try.func9, Try.ntmps9
    go_wp2_with (go_at_call 8; refine (SWhere_yes _ _ g1 g2).mono ?_; rintro e w' ⟨rfl, rfl⟩)
    go_ret
    exact ⟨int_eq (by omega), rfl⟩
theorem RCount (n : Int) (w : World) (h : inI n) : Calls Try.prog 10 #[.int .i64 n] w fun e w' => e = .returned (.int .i64 (countF n)) ∧ w = w' := by
  obtain ⟨h1, h2⟩ := h
  by_cases hn : n < 0
  · have e : countF n = 0 := if_pos (by omega)
    rw [e]
    clear e
    go_enter Try.func10, Try.ntmps10
    go_wp2
    go_ret
    exact ⟨rfl, rfl⟩
  · have hn0 : 0 ≤ n := by omega
    by_cases h8 : n % 8 = 0
    · have e : countF n = n / 8 := by unfold countF; split <;> omega
      rw [e]
      have b8 : (n % 8 == 0) = true := by rw [h8]; rfl
      clear e h8
      go_enter Try.func10, Try.ntmps10
      go_wp2
      all_goals first
        | (exfalso; omega)
        | (go_ret; exact ⟨rfl, rfl⟩)
    · have e : countF n = n / 8 + 1 := by unfold countF; split <;> omega
      rw [e]
      have b8 : (n % 8 == 0) = false := by simpa using h8
      have b9 : 0 ≤ n / 8 := by omega
      have b10 : n / 8 ≤ 1152921504606846975 := by omega
      clear e h8
      go_enter Try.func10, Try.ntmps10
      go_wp2
      all_goals first
        | (exfalso; omega)
        | (go_ret; exact ⟨rfl, rfl⟩)
def within (b f m : Int) : Bool := decide (0 ≤ b ∧ b ≤ 512 ∧ 0 ≤ f ∧ 1 ≤ m ∧ m ≤ b - f)
theorem SWithin (b f m : Int) (w : World) (h0 : inI b) (h1 : inI f) (h2 : inI m) : Calls Try.prog 15 #[.int .i64 b, .int .i64 f, .int .i64 m] w fun e w' => e = .returned (.bool (within b f m)) ∧ w = w' := by
  obtain ⟨b1, b2⟩ := h0
  obtain ⟨f1, f2⟩ := h1
  obtain ⟨m1, m2⟩ := h2
  go_enter Try.func15, Try.ntmps15
  go_wp2
  all_goals
    go_ret
    refine ⟨bool_eq ?_, rfl⟩
    unfold within
    first
    | exact (decide_eq_false (by omega)).symm
    | exact decide_eq_decide.2 (by omega)
theorem RRight (b f m : Int) (w : World) (h0 : inI b) (h1 : inI f) (h2 : inI m) : Calls Try.prog 11 #[.int .i64 b, .int .i64 f, .int .i64 m] w fun e w' => e = .returned (.bool (within b f m)) ∧ w = w' := by
  obtain ⟨b1, b2⟩ := h0
  obtain ⟨f1, f2⟩ := h1
  obtain ⟨m1, m2⟩ := h2
  go_enter Try.func11, Try.ntmps11
  go_wp2
  all_goals
    go_ret
    refine ⟨bool_eq ?_, rfl⟩
    unfold within
    first
    | exact (decide_eq_false (by omega)).symm
    | exact decide_eq_decide.2 (by omega)
/-- what Bytes says of a range of bytes that is right -/
theorem SBytes_yes (f m : Int) (w : World) (h0 : 0 ≤ f) (h1 : f ≤ 1099511627776) (h2 : 1 ≤ m) (h3 : m ≤ 1048576) :
    Calls Try.prog 14 #[.int .i64 f, .int .i64 m] w fun e w' => e = .returned (.tuple #[.int .i64 (f / 16), .int .i64 ((f + m - 1) / 16 - f / 16 + 1), .int .i64 0]) ∧ w = w' := by
  have g0 : 0 ≤ f + m - 1 := by omega
  have g1 : 0 ≤ f / 16 := by omega
  have g2 : f / 16 ≤ 1099511627776 := by omega
  have g3 : 0 ≤ (f + m - 1) / 16 := by omega
  have g4 : (f + m - 1) / 16 ≤ 1099511627776 := by omega
  go_enter Try.func14, Try.ntmps14
  go_wp2
  all_goals first
    | (exfalso; omega)
    | (go_ret3; exact ⟨rfl, rfl⟩)
theorem SBytes_no (f m : Int) (w : World) (h0 : f < 0 ∨ 1099511627776 < f ∨ m < 1 ∨ 1048576 < m) :
    Calls Try.prog 14 #[.int .i64 f, .int .i64 m] w fun e w' => e = .returned (.tuple #[.int .i64 0, .int .i64 0, .int .i64 5]) ∧ w = w' := by
  by_cases a0 : f < 0
  · clear h0
    go_enter Try.func14, Try.ntmps14
    go_wp2
    go_ret3
    exact ⟨rfl, rfl⟩
  · by_cases a1 : 1099511627776 < f
    · clear h0
      go_enter Try.func14, Try.ntmps14
      go_wp2
      go_ret3
      exact ⟨rfl, rfl⟩
    · by_cases a2 : m < 1
      · clear h0
        go_enter Try.func14, Try.ntmps14
        go_wp2
        go_ret3
        exact ⟨rfl, rfl⟩
      · have a3 : 1048576 < m := by omega
        clear h0
        go_enter Try.func14, Try.ntmps14
        go_wp2
        go_ret3
        exact ⟨rfl, rfl⟩
end Go.Proofs.Ytmdmpliiiecmlaa
