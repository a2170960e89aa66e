/-
  Plain contracts of the calls of package fixnum and of the document's answer (dotterelref01): what each returns, for any numbers that an int holds. No condition but that.
-/
import Derived.Test.YtcaaakoahaoooaaRows
import Derived.WalkKit
import Derived.ProofKit
import Derived.OpenShut
import Derived.WalkLawsBesides
import Derived.WalkSpells
import Derived.Deep.QuietTactic
import Derived.BigQuiet
import Derived.Lib.Hide
namespace Go.Proofs.Ytcaaakoahaoooaa
open Go.ChangeShapes Go.WideShapes Go.ChangeAt Go.RowKit
set_option linter.unusedVariables false

def inI (a : Int) : Prop := -9223372036854775808 ≤ a ∧ a ≤ 9223372036854775807

/-- The nearest tag. -/
def holdF (a : Int) : Int := if a < 0 then 0 else if 2305843009213693952 < a then 2305843009213693952 else a
theorem holdF_bd (a : Int) : 0 ≤ holdF a ∧ holdF a ≤ 2305843009213693952 := by unfold holdF; omega

theorem in_of {a : Int} (h : (Lit.int .i64 a).wf = true) : inI a := by
  simp [Lit.wf, IntKind.min, IntKind.max, IntKind.bits, IntKind.signed] at h; unfold inI; omega

theorem int_eq {a b : Int} (h : a = b) : Ending.returned (.int .i64 a) = .returned (.int .i64 b) := by rw [h]
theorem bool_eq {a b : Bool} (h : a = b) : Ending.returned (.bool a) = .returned (.bool b) := by rw [h]

/-- The sum of two tags. -/
def addF (a b : Int) : Int := if 2305843009213693952 < holdF a + holdF b then 2305843009213693952 else holdF a + holdF b
/-- A tag, n times. -/
def timesF (a n : Int) : Int := if 2305843009213693952 < holdF a * holdF n then 2305843009213693952 else holdF a * holdF n

theorem over_iff (x y : Int) (hy : 1 ≤ y) : 2305843009213693952 / y < x ↔ 2305843009213693952 < x * y := Int.ediv_lt_iff_lt_mul (by omega)

def rated (a : Int) : Prop := 1 ≤ a ∧ a ≤ 1048576
theorem isRate_yes (a : Int) (w : World) (ha : rated a) :
    Calls Try.prog 77 #[.int .i64 a] w fun e w' => e = .returned (.bool true) ∧ w = w' := by
  obtain ⟨h1, h2⟩ := ha
  go_enter Try.func77, Try.ntmps77
  go_wp2
  go_ret
  exact ⟨rfl, rfl⟩
theorem isRate_no (a : Int) (w : World) (ha : ¬ rated a) :
    Calls Try.prog 77 #[.int .i64 a] w fun e w' => e = .returned (.bool false) ∧ w = w' := by
  by_cases h : 1 ≤ a
  · have h2 : ¬ a ≤ 1048576 := fun h' => ha ⟨h, h'⟩
    clear ha
    go_enter Try.func77, Try.ntmps77
    go_wp2
    go_ret
    exact ⟨rfl, rfl⟩
  · clear ha
    go_enter Try.func77, Try.ntmps77
    go_wp2
    go_ret
    exact ⟨rfl, rfl⟩

theorem divideUp_any (n d : Int) (w : World) (h1 : 1 ≤ n) (h2 : n ≤ 9223372036854775807) (h3 : 1 ≤ d) (h4 : d ≤ 9223372036854775807) :
    Calls Try.prog 76 #[.int .i64 n, .int .i64 d] w fun e w' => e = .returned (.int .i64 ((n - 1) / d + 1)) ∧ w = w' := by
  have q0 : 0 ≤ (n - 1) / d := Int.ediv_nonneg (by omega) (by omega)
  have q1 : (n - 1) / d ≤ n - 1 := Int.ediv_le_self _ (by omega)
  have hz : (d == 0) = false := by simp; omega
  go_enter Try.func76, Try.ntmps76
  go_wp2
  go_ret
  exact ⟨rfl, rfl⟩

def spaceF (a : Int) : Int := if 1 ≤ a ∧ a ≤ 1048576 then 65536000 / a else 0
def wideF (a : Int) : Int := if 1 ≤ a ∧ a ≤ 1048576 then 65535999 / a + 1 else 0
def shareF (a : Int) : Int := if 1 ≤ a then 1099511627775 / a + 1 else 0

theorem space_any (a : Int) (w : World) :
    Calls Try.prog 55 #[.int .i64 a] w fun e w' => e = .returned (.int .i64 (spaceF a)) ∧ w = w' := by
  by_cases h : rated a
  · have hs : spaceF a = 65536000 / a := if_pos h
    rw [hs]; clear hs
    have h' := h
    obtain ⟨h1, h2⟩ := h'
    have hz : (a == 0) = false := by simp; omega
    go_enter Try.func55, Try.ntmps55
    go_wp2_with (go_at_call 77; refine (isRate_yes _ _ h).mono ?_; rintro e w' ⟨rfl, rfl⟩)
    go_ret
    exact ⟨rfl, rfl⟩
  · have hs : spaceF a = 0 := if_neg h
    rw [hs]; clear hs
    go_enter Try.func55, Try.ntmps55
    go_wp2_with (go_at_call 77; refine (isRate_no _ _ h).mono ?_; rintro e w' ⟨rfl, rfl⟩)
    go_ret
    exact ⟨rfl, rfl⟩

theorem share_any (a : Int) (w : World) (ha : inI a) :
    Calls Try.prog 54 #[.int .i64 a] w fun e w' => e = .returned (.int .i64 (shareF a)) ∧ w = w' := by
  obtain ⟨i1, i2⟩ := ha
  by_cases h : 1 ≤ a
  · have hs : shareF a = 1099511627775 / a + 1 := if_pos h
    rw [hs]; clear hs
    go_enter Try.func54, Try.ntmps54
    go_wp2_with (go_at_call 76; refine (divideUp_any _ _ _ (by omega) (by omega) (by omega) (by omega)).mono ?_; rintro e w' ⟨rfl, rfl⟩)
    go_ret
    exact ⟨rfl, rfl⟩
  · have hs : shareF a = 0 := if_neg h
    rw [hs]; clear hs
    go_enter Try.func54, Try.ntmps54
    go_wp2
    go_ret
    exact ⟨rfl, rfl⟩

/-! ### The document's answer -/
/-- Rounded up: by the rest, or by one less. -/
theorem up_div (n d : Int) (hd : 1 ≤ d) : (n - 1) / d + 1 = if n / d * d < n then n / d + 1 else n / d := by
  have h1 := Int.mul_ediv_add_emod n d
  have h2 := Int.emod_nonneg n (show d ≠ 0 by omega)
  have h3 := Int.emod_lt_of_pos n (show 0 < d by omega)
  have hc : n / d * d = d * (n / d) := Int.mul_comm _ _
  split
  · have h4 : 1 ≤ n % d := by omega
    have h5 : (n - 1) / d = n / d := by
      have e : n - 1 = (n % d - 1) + d * (n / d) := by omega
      rw [e, Int.add_mul_ediv_left _ _ (by omega), Int.ediv_eq_zero_of_lt (by omega) (by omega)]; omega
    omega
  · have h4 : n % d = 0 := by omega
    have h5 : (n - 1) / d = n / d - 1 := by
      have e : n - 1 = (d - 1) + d * (n / d - 1) := by rw [Int.mul_sub]; omega
      rw [e, Int.add_mul_ediv_left _ _ (by omega), Int.ediv_eq_zero_of_lt (by omega) (by omega)]; omega
    omega

end Go.Proofs.Ytcaaakoahaoooaa
