/-
  Plain contracts of the calls of package fixnum and of the document's answer (dotterelref01): what each returns, for any numbers that an int holds. No condition but that.
-/
import Derived.Test.YtbfjakchgmdldaaGreatRows
import Derived.WalkKit
import Derived.ProofKit
import Derived.OpenShut
import Derived.WalkLawsBesides
import Derived.WalkSpells
import Derived.Deep.QuietTactic
import Derived.BigQuiet
import Derived.Lib.Hide
namespace Go.Proofs.YtbfjakchgmdldaaGreat
open Go.ChangeShapes Go.WideShapes Go.ChangeAt Go.RowKit
set_option linter.unusedVariables false

def inI (a : Int) : Prop := -9223372036854775808 ≤ a ∧ a ≤ 9223372036854775807

/-- The nearest tag. -/
def holdF (a : Int) : Int := if a < 0 then 0 else if 2305843009213693952 < a then 2305843009213693952 else a
theorem holdF_bd (a : Int) : 0 ≤ holdF a ∧ holdF a ≤ 2305843009213693952 := by unfold holdF; omega

theorem in_of {a : Int} (h : (Lit.int .i64 a).wf = true) : inI a := by
  simp [Lit.wf, IntKind.min, IntKind.max, IntKind.bits, IntKind.signed] at h; unfold inI; omega

theorem int_eq {a b : Int} (h : a = b) : Ending.returned (.int .i64 a) = .returned (.int .i64 b) := by rw [h]
theorem bool_eq {a b : Bool} (h : a = b) : Ending.returned (.bool a) = .returned (.bool b) := by rw [h]

theorem tag_any (a : Int) (w : World) (ha : inI a) :
    Calls Tryz.prog 52 #[.int .i64 a] w fun e w' => e = .returned (.int .i64 (holdF a)) ∧ w = w' := by
  obtain ⟨h1, h2⟩ := ha
  by_cases h : a < 0
  · go_enter Tryz.func52, Tryz.ntmps52
    go_wp2
    go_ret
    exact ⟨int_eq (by unfold holdF; omega), rfl⟩
  · by_cases h' : 2305843009213693952 < a
    · go_enter Tryz.func52, Tryz.ntmps52
      go_wp2
      go_ret
      exact ⟨int_eq (by unfold holdF; omega), rfl⟩
    · go_enter Tryz.func52, Tryz.ntmps52
      go_wp2
      go_ret
      exact ⟨int_eq (by unfold holdF; omega), rfl⟩

theorem hold_any (a : Int) (w : World) (ha : inI a) :
    Calls Tryz.prog 38 #[.int .i64 a] w fun e w' => e = .returned (.int .i64 (holdF a)) ∧ w = w' := by
  obtain ⟨h1, h2⟩ := ha
  go_enter Tryz.func38, Tryz.ntmps38
  go_wp2
  all_goals
    go_ret
    exact ⟨int_eq (by unfold holdF; omega), rfl⟩

/-- The sum of two tags. -/
def addF (a b : Int) : Int := if 2305843009213693952 < holdF a + holdF b then 2305843009213693952 else holdF a + holdF b
/-- A tag, n times. -/
def timesF (a n : Int) : Int := if 2305843009213693952 < holdF a * holdF n then 2305843009213693952 else holdF a * holdF n

theorem add_any (a b : Int) (w : World) (ha : inI a) (hb : inI b) :
    Calls Tryz.prog 72 #[.int .i64 a, .int .i64 b] w fun e w' => e = .returned (.int .i64 (addF a b)) ∧ w = w' := by
  obtain ⟨a1, a2⟩ := holdF_bd a
  obtain ⟨b1, b2⟩ := holdF_bd b
  by_cases h : 2305843009213693952 - holdF b < holdF a
  · go_enter Tryz.func72, Tryz.ntmps72
    go_wp2_with (go_at_call 52; refine (tag_any _ _ (by assumption)).mono ?_; rintro e w' ⟨rfl, rfl⟩)
    go_ret
    exact ⟨int_eq (by unfold addF; omega), rfl⟩
  · go_enter Tryz.func72, Tryz.ntmps72
    go_wp2_with (go_at_call 52; refine (tag_any _ _ (by assumption)).mono ?_; rintro e w' ⟨rfl, rfl⟩)
    go_ret
    exact ⟨int_eq (by unfold addF; omega), rfl⟩

theorem over_iff (x y : Int) (hy : 1 ≤ y) : 2305843009213693952 / y < x ↔ 2305843009213693952 < x * y := Int.ediv_lt_iff_lt_mul (by omega)

theorem times_any (a n : Int) (w : World) (ha : inI a) (hn : inI n) :
    Calls Tryz.prog 39 #[.int .i64 a, .int .i64 n] w fun e w' => e = .returned (.int .i64 (timesF a n)) ∧ w = w' := by
  obtain ⟨a1, a2⟩ := holdF_bd a
  obtain ⟨n1, n2⟩ := holdF_bd n
  by_cases h0 : holdF n = 0
  · have h0' : ((holdF n) == 0) = true := by simpa using h0
    go_enter Tryz.func39, Tryz.ntmps39
    clear h0
    go_wp2_with (go_at_call 52; refine (tag_any _ _ (by assumption)).mono ?_; rintro e w' ⟨rfl, rfl⟩)
    go_ret
    have h0 : holdF n = 0 := by simpa using h0'
    exact ⟨int_eq (by unfold timesF; rw [h0]; omega), rfl⟩
  · have h0' : ((holdF n) == 0) = false := by simpa using h0
    have n3 : 1 ≤ holdF n := by omega
    have hq := over_iff (holdF a) (holdF n) n3
    have hq0 : 0 ≤ 2305843009213693952 / holdF n := Int.ediv_nonneg (by omega) (by omega)
    by_cases h : 2305843009213693952 / holdF n < holdF a
    · have HQ := Lib.hid (hq.1 h); clear hq
      go_enter Tryz.func39, Tryz.ntmps39
      go_wp2_with (go_at_call 52; refine (tag_any _ _ (by assumption)).mono ?_; rintro e w' ⟨rfl, rfl⟩)
      go_ret
      exact ⟨int_eq (by unfold timesF; rw [if_pos HQ.out]), rfl⟩
    · have hm : ¬ 2305843009213693952 < holdF a * holdF n := fun hc => h (hq.2 hc)
      have hm0 : 0 ≤ holdF a * holdF n := Int.mul_nonneg a1 n1
      have hm1 : holdF a * holdF n ≤ 2305843009213693952 := by omega
      clear hq
      go_enter Tryz.func39, Tryz.ntmps39
      go_wp2_with (go_at_call 52; refine (tag_any _ _ (by assumption)).mono ?_; rintro e w' ⟨rfl, rfl⟩)
      go_ret
      exact ⟨int_eq (by unfold timesF; rw [if_neg (by omega)]), rfl⟩

theorem at_any (a : Int) (w : World) (ha : inI a) :
    Calls Tryz.prog 27 #[.int .i64 a] w fun e w' => e = .returned (.int .i64 (timesF a 65536)) ∧ w = w' := by
  go_enter Tryz.func27, Tryz.ntmps27
  go_wp2_with (go_at_call 39; refine (times_any _ _ _ (by assumption) (by unfold inI; omega)).mono ?_; rintro e w' ⟨rfl, rfl⟩)
  go_ret
  exact ⟨rfl, rfl⟩

def rated (a : Int) : Prop := 1 ≤ a ∧ a ≤ 1048576
theorem isRate_yes (a : Int) (w : World) (ha : rated a) :
    Calls Tryz.prog 73 #[.int .i64 a] w fun e w' => e = .returned (.bool true) ∧ w = w' := by
  obtain ⟨h1, h2⟩ := ha
  go_enter Tryz.func73, Tryz.ntmps73
  go_wp2
  go_ret
  exact ⟨rfl, rfl⟩
theorem isRate_no (a : Int) (w : World) (ha : ¬ rated a) :
    Calls Tryz.prog 73 #[.int .i64 a] w fun e w' => e = .returned (.bool false) ∧ w = w' := by
  by_cases h : 1 ≤ a
  · have h2 : ¬ a ≤ 1048576 := fun h' => ha ⟨h, h'⟩
    clear ha
    go_enter Tryz.func73, Tryz.ntmps73
    go_wp2
    go_ret
    exact ⟨rfl, rfl⟩
  · clear ha
    go_enter Tryz.func73, Tryz.ntmps73
    go_wp2
    go_ret
    exact ⟨rfl, rfl⟩

theorem divideUp_any (n d : Int) (w : World) (h1 : 1 ≤ n) (h2 : n ≤ 9223372036854775807) (h3 : 1 ≤ d) (h4 : d ≤ 9223372036854775807) :
    Calls Tryz.prog 74 #[.int .i64 n, .int .i64 d] w fun e w' => e = .returned (.int .i64 ((n - 1) / d + 1)) ∧ w = w' := by
  have q0 : 0 ≤ (n - 1) / d := Int.ediv_nonneg (by omega) (by omega)
  have q1 : (n - 1) / d ≤ n - 1 := Int.ediv_le_self _ (by omega)
  have hz : (d == 0) = false := by simp; omega
  go_enter Tryz.func74, Tryz.ntmps74
  go_wp2
  go_ret
  exact ⟨rfl, rfl⟩

def spaceF (a : Int) : Int := if 1 ≤ a ∧ a ≤ 1048576 then 65536000 / a else 0
def wideF (a : Int) : Int := if 1 ≤ a ∧ a ≤ 1048576 then 65535999 / a + 1 else 0
def shareF (a : Int) : Int := if 1 ≤ a then 1099511627775 / a + 1 else 0

theorem space_any (a : Int) (w : World) :
    Calls Tryz.prog 59 #[.int .i64 a] w fun e w' => e = .returned (.int .i64 (spaceF a)) ∧ w = w' := by
  by_cases h : rated a
  · have hs : spaceF a = 65536000 / a := if_pos h
    rw [hs]; clear hs
    have h' := h
    obtain ⟨h1, h2⟩ := h'
    have hz : (a == 0) = false := by simp; omega
    go_enter Tryz.func59, Tryz.ntmps59
    go_wp2_with (go_at_call 73; refine (isRate_yes _ _ h).mono ?_; rintro e w' ⟨rfl, rfl⟩)
    go_ret
    exact ⟨rfl, rfl⟩
  · have hs : spaceF a = 0 := if_neg h
    rw [hs]; clear hs
    go_enter Tryz.func59, Tryz.ntmps59
    go_wp2_with (go_at_call 73; refine (isRate_no _ _ h).mono ?_; rintro e w' ⟨rfl, rfl⟩)
    go_ret
    exact ⟨rfl, rfl⟩

theorem wide_any (a : Int) (w : World) :
    Calls Tryz.prog 60 #[.int .i64 a] w fun e w' => e = .returned (.int .i64 (wideF a)) ∧ w = w' := by
  by_cases h : rated a
  · have hs : wideF a = 65535999 / a + 1 := if_pos h
    rw [hs]; clear hs
    have h' := h
    obtain ⟨h1, h2⟩ := h'
    go_enter Tryz.func60, Tryz.ntmps60
    go_wp2_with (first | (go_at_call 73; refine (isRate_yes _ _ h).mono ?_; rintro e w' ⟨rfl, rfl⟩) | (go_at_call 74; refine (divideUp_any _ _ _ (by omega) (by omega) (by omega) (by omega)).mono ?_; rintro e w' ⟨rfl, rfl⟩))
    go_ret
    exact ⟨rfl, rfl⟩
  · have hs : wideF a = 0 := if_neg h
    rw [hs]; clear hs
    go_enter Tryz.func60, Tryz.ntmps60
    go_wp2_with (go_at_call 73; refine (isRate_no _ _ h).mono ?_; rintro e w' ⟨rfl, rfl⟩)
    go_ret
    exact ⟨rfl, rfl⟩

/-! ### The document's answer -/
theorem refAdd_any (a b : Int) (w : World) (ha : inI a) (hb : inI b) :
    Calls Tryz.prog 41 #[.int .i64 a, .int .i64 b] w fun e w' => e = .returned (.int .i64 (addF a b)) ∧ w = w' := by
  obtain ⟨a1, a2⟩ := holdF_bd a
  obtain ⟨b1, b2⟩ := holdF_bd b
  by_cases h : 2305843009213693952 - holdF b < holdF a
  all_goals
    go_enter Tryz.func41, Tryz.ntmps41
    go_wp2_with (go_at_call 38; refine (hold_any _ _ (by assumption)).mono ?_; rintro e w' ⟨rfl, rfl⟩)
    go_ret
    exact ⟨int_eq (by unfold addF; omega), rfl⟩

theorem refTimes_any (a n : Int) (w : World) (ha : inI a) (hn : inI n) :
    Calls Tryz.prog 23 #[.int .i64 a, .int .i64 n] w fun e w' => e = .returned (.int .i64 (timesF a n)) ∧ w = w' := by
  obtain ⟨a1, a2⟩ := holdF_bd a
  obtain ⟨n1, n2⟩ := holdF_bd n
  by_cases ha0 : holdF a = 0
  · have ha0' : ((holdF a) == 0) = true := by simpa using ha0
    have HZ := Lib.hid ha0; clear ha0
    go_enter Tryz.func23, Tryz.ntmps23
    go_wp2_with (go_at_call 38; refine (hold_any _ _ (by assumption)).mono ?_; rintro e w' ⟨rfl, rfl⟩)
    go_ret
    exact ⟨int_eq (by unfold timesF; rw [HZ.out]; simp), rfl⟩
  have ha0' : ((holdF a) == 0) = false := by simpa using ha0
  by_cases h0 : holdF n = 0
  · have h0' : ((holdF n) == 0) = true := by simpa using h0
    have HZ := Lib.hid h0; clear h0 ha0
    go_enter Tryz.func23, Tryz.ntmps23
    go_wp2_with (go_at_call 38; refine (hold_any _ _ (by assumption)).mono ?_; rintro e w' ⟨rfl, rfl⟩)
    go_ret
    exact ⟨int_eq (by unfold timesF; rw [HZ.out]; simp), rfl⟩
  · have h0' : ((holdF n) == 0) = false := by simpa using h0
    have n3 : 1 ≤ holdF n := by omega
    have hq := over_iff (holdF a) (holdF n) n3
    have hq0 : 0 ≤ 2305843009213693952 / holdF n := Int.ediv_nonneg (by omega) (by omega)
    by_cases h : 2305843009213693952 / holdF n < holdF a
    · have HQ := Lib.hid (hq.1 h); clear hq
      go_enter Tryz.func23, Tryz.ntmps23
      go_wp2_with (go_at_call 38; refine (hold_any _ _ (by assumption)).mono ?_; rintro e w' ⟨rfl, rfl⟩)
      go_ret
      exact ⟨int_eq (by unfold timesF; rw [if_pos HQ.out]), rfl⟩
    · have hm : ¬ 2305843009213693952 < holdF a * holdF n := fun hc => h (hq.2 hc)
      have hm0 : 0 ≤ holdF a * holdF n := Int.mul_nonneg a1 n1
      have hm1 : holdF a * holdF n ≤ 2305843009213693952 := by omega
      clear hq
      go_enter Tryz.func23, Tryz.ntmps23
      go_wp2_with (go_at_call 38; refine (hold_any _ _ (by assumption)).mono ?_; rintro e w' ⟨rfl, rfl⟩)
      go_ret
      exact ⟨int_eq (by unfold timesF; rw [if_neg (by omega)]), rfl⟩

theorem refSpace_any (a : Int) (w : World) :
    Calls Tryz.prog 42 #[.int .i64 a] w fun e w' => e = .returned (.int .i64 (spaceF a)) ∧ w = w' := by
  by_cases h : rated a
  · have hs : spaceF a = 65536000 / a := if_pos h
    rw [hs]; clear hs
    obtain ⟨h1, h2⟩ := h
    have hz : (a == 0) = false := by simp; omega
    go_enter Tryz.func42, Tryz.ntmps42
    go_wp2
    go_ret
    exact ⟨rfl, rfl⟩
  · have hs : spaceF a = 0 := if_neg h
    rw [hs]; clear hs
    have h' : a < 1 ∨ 1048576 < a := by unfold rated at h; omega
    rcases h' with h' | h'
    · go_enter Tryz.func42, Tryz.ntmps42
      go_wp2
      go_ret
      exact ⟨rfl, rfl⟩
    · have h3 : ¬ a < 1 := by omega
      go_enter Tryz.func42, Tryz.ntmps42
      go_wp2
      go_ret
      exact ⟨rfl, rfl⟩

/-- Rounded up: by the rest, or by one less. -/
theorem up_div (n d : Int) (hd : 1 ≤ d) : (n - 1) / d + 1 = if n / d * d < n then n / d + 1 else n / d := by
  have h1 := Int.mul_ediv_add_emod n d
  have h2 := Int.emod_nonneg n (show d ≠ 0 by omega)
  have h3 := Int.emod_lt_of_pos n (show 0 < d by omega)
  have hc : n / d * d = d * (n / d) := Int.mul_comm _ _
  split
  · have h4 : 1 ≤ n % d := by omega
    have h5 : (n - 1) / d = n / d := by
      have e : n - 1 = (n % d - 1) + d * (n / d) := by omega
      rw [e, Int.add_mul_ediv_left _ _ (by omega), Int.ediv_eq_zero_of_lt (by omega) (by omega)]; omega
    omega
  · have h4 : n % d = 0 := by omega
    have h5 : (n - 1) / d = n / d - 1 := by
      have e : n - 1 = (d - 1) + d * (n / d - 1) := by rw [Int.mul_sub]; omega
      rw [e, Int.add_mul_ediv_left _ _ (by omega), Int.ediv_eq_zero_of_lt (by omega) (by omega)]; omega
    omega

theorem refWide_any (a : Int) (w : World) :
    Calls Tryz.prog 43 #[.int .i64 a] w fun e w' => e = .returned (.int .i64 (wideF a)) ∧ w = w' := by
  by_cases h : rated a
  · have hs : wideF a = 65535999 / a + 1 := if_pos h
    have hp : spaceF a = 65536000 / a := if_pos h
    obtain ⟨h1, h2⟩ := h
    have q0 : 62 ≤ 65536000 / a := (Int.le_ediv_iff_mul_le (by omega)).2 (by omega)
    have q1 : 65536000 / a ≤ 65536000 := Int.ediv_le_self _ (by omega)
    have q2 : 65536000 / a * a ≤ 65536000 := Int.ediv_mul_le _ (by omega)
    have q3 : 0 ≤ 65536000 / a * a := Int.mul_nonneg (by omega) (by omega)
    have hu := up_div 65536000 a h1
    rw [hs, show (65535999 : Int) = 65536000 - 1 from rfl, hu]
    have HP := Lib.hid hp; clear hs hu hp
    by_cases hl : 65536000 / a * a < 65536000
    · rw [if_pos hl]
      go_enter Tryz.func43, Tryz.ntmps43
      go_wp2_with (go_at_call 42; refine (refSpace_any _ _).mono ?_; rw [HP.out]; rintro e w' ⟨rfl, rfl⟩)
      go_ret
      exact ⟨rfl, rfl⟩
    · rw [if_neg hl]
      go_enter Tryz.func43, Tryz.ntmps43
      go_wp2_with (go_at_call 42; refine (refSpace_any _ _).mono ?_; rw [HP.out]; rintro e w' ⟨rfl, rfl⟩)
      go_ret
      exact ⟨rfl, rfl⟩
  · have hs : wideF a = 0 := if_neg h
    have hp : spaceF a = 0 := if_neg h
    rw [hs]; clear hs
    have HP := Lib.hid hp; clear hp
    have k1 : (0 : Int) * a = 0 := by omega
    by_cases hl : (0 : Int) * a < 65536000
    · go_enter Tryz.func43, Tryz.ntmps43
      go_wp2_with (go_at_call 42; refine (refSpace_any _ _).mono ?_; rw [HP.out]; rintro e w' ⟨rfl, rfl⟩)
      go_ret
      exact ⟨rfl, rfl⟩
    · omega

end Go.Proofs.YtbfjakchgmdldaaGreat
