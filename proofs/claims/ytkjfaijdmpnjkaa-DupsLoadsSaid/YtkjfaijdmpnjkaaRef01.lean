/-
  Contract of dotterelref01's Pick: for any ints; with Same. No condition but that.
-/
import Derived.Test.YtkjfaijdmpnjkaaSame
namespace Go.Proofs.Ytkjfaijdmpnjkaa
open Go.ChangeShapes Go.WideShapes Go.ChangeAt Go.RowKit
set_option linter.unusedVariables false

theorem pick_lo {a n : Int} (h3 : 1 ≤ n) (h : a.tmod n < 0) : a.tmod n + n = a % n := by
  have hm := Int.tmod_eq_emod (a := a) (b := n)
  have e1 := Int.emod_nonneg a (show n ≠ 0 by omega)
  split at hm
  · omega
  · omega
theorem pick_hi {a n : Int} (h3 : 1 ≤ n) (h : ¬ a.tmod n < 0) : a.tmod n = a % n := by
  have hm := Int.tmod_eq_emod (a := a) (b := n)
  have e2 := Int.emod_lt_of_pos a (show 0 < n by omega)
  split at hm
  · omega
  · omega
theorem tmod_bd {a n : Int} (h3 : 1 ≤ n) : -n < a.tmod n ∧ a.tmod n < n := by
  have hm := Int.tmod_eq_emod (a := a) (b := n)
  have e1 := Int.emod_nonneg a (show n ≠ 0 by omega)
  have e2 := Int.emod_lt_of_pos a (show 0 < n by omega)
  split at hm <;> omega

end Go.Proofs.Ytkjfaijdmpnjkaa
