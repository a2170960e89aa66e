/-
  Contract of dotterelref01's Pick: for any ints; beside nothing but Words. No condition but that.
-/
import Derived.Test.YtocigbknfhggfaaFix
import Derived.WalkLawsBesides
namespace Go.Proofs.Ytocigbknfhggfaa
open Go.ChangeShapes Go.WideShapes Go.ChangeAt Go.RowKit
set_option linter.unusedVariables false

theorem pick_lo {a n : Int} (h3 : 1 ≤ n) (h : a.tmod n < 0) : a.tmod n + n = a % n := by
  have hm := Int.tmod_eq_emod (a := a) (b := n)
  have e1 := Int.emod_nonneg a (show n ≠ 0 by omega)
  split at hm
  · omega
  · omega
theorem pick_hi {a n : Int} (h3 : 1 ≤ n) (h : ¬ a.tmod n < 0) : a.tmod n = a % n := by
  have hm := Int.tmod_eq_emod (a := a) (b := n)
  have e2 := Int.emod_lt_of_pos a (show 0 < n by omega)
  split at hm
  · omega
  · omega
theorem tmod_bd {a n : Int} (h3 : 1 ≤ n) : -n < a.tmod n ∧ a.tmod n < n := by
  have hm := Int.tmod_eq_emod (a := a) (b := n)
  have e1 := Int.emod_nonneg a (show n ≠ 0 by omega)
  have e2 := Int.emod_lt_of_pos a (show 0 < n by omega)
  split at hm <;> omega

theorem Pick_any (a n : Int) (w : World) (h1 : -9223372036854775808 ≤ a) (h2 : a ≤ 9223372036854775807) (h3 : 1 ≤ n) (h4 : n ≤ 4611686018427387904) :
    Calls Try.prog 17 #[.int .i64 a, .int .i64 n] w fun e w' => e = .returned (.int .i64 (a % n)) ∧ w = w' := by
  have hn : ¬ n < 1 := by omega
  obtain ⟨t1, t2⟩ := tmod_bd (a := a) h3
  by_cases h : a.tmod n < 0
  · have e := pick_lo h3 h
    have E := Lib.hid e; clear e
    go_enter Try.func17, Try.ntmps17
    go_wp2
    go_ret
    exact ⟨int_eq E.out, rfl⟩
  · have e := pick_hi h3 h
    have E := Lib.hid e; clear e
    go_enter Try.func17, Try.ntmps17
    go_wp2
    go_ret
    exact ⟨int_eq E.out, rfl⟩
end Go.Proofs.Ytocigbknfhggfaa
