/-
  Contract of dotterelref01's SameInts. Conditions: what each argument reads as.
-/
import Derived.Test.YtcaaakoahaoooaaNums
import Derived.BigQuiet
import Derived.Deep.QuietTactic
import Derived.Test.YtcaaakoahaoooaaProg
namespace Go.Proofs.Ytcaaakoahaoooaa
open Go.ChangeShapes Go.WideShapes Go.ChangeAt Go.RowKit
set_option linter.unusedVariables false

theorem bool_ret {a b : Bool} (h : a = b) : Ending.returned (.bool a) = Ending.returned (.bool b) := by rw [h]
theorem take_more_of {α : Type} {xs : List α} {k : Nat} {x : α} (h : xs[k]? = some x) : xs.take (k + 1) = xs.take k ++ [x] := by
  obtain ⟨hk, rfl⟩ := List.getElem?_eq_some_iff.1 h
  exact List.take_succ_eq_append_getElem hk
theorem differ_of {α : Type} {xs ys : List α} {k : Nat} {x y : α} (h1 : xs[k]? = some x) (h2 : ys[k]? = some y) (h : x ≠ y) : xs ≠ ys := fun e => by
  rw [e, h2] at h1
  injection h1 with h1
  exact h h1.symm
theorem alike_of {α : Type} {xs ys : List α} {k : Nat} (h : xs.take k = ys.take k) (h1 : xs.length = k) (h2 : ys.length = k) : xs = ys := by
  rw [List.take_of_length_le (by omega), List.take_of_length_le (by omega)] at h
  exact h

set_option maxRecDepth 100000 in
theorem SameInts_any (A C : Option Addr) (n m c d : Nat) (xs ys : List Int) (w : World) (hn : xs.length = n) (hm : ys.length = m) (ha : Seen w A (numsV xs)) (hb : Seen w C (numsV ys)) (hl : n ≤ maxLen) :
    Calls Try.prog 21 #[.slice A n c, .slice C m d] w fun e w' => e = .returned (.bool (decide (xs = ys))) ∧ Below w.heap.size w w' := by
  have Ha := Lib.hid ha; clear ha
  have Hb := Lib.hid hb; clear hb
  unfold maxLen at hl
  by_cases hnm : n = m
  · subst hnm
    have Hn := Lib.hid hn; clear hn
    have Hm := Lib.hid hm; clear hm
    go_enter Try.func21, Try.ntmps21
    go_wp2
    go_loopw [5] (fun i wr => ∃ k : Nat, k ≤ n ∧ i = .int .i64 k ∧ Below w.heap.size w wr ∧ xs.take k = ys.take k) (fun i _ => n - (intOf i).toNat)
    case atStart => exact ⟨0, by omega, rfl, Below.refl _ _, rfl⟩
    case round =>
      obtain ⟨k, hk, rfl, hbw, htk⟩ := hrel
      have Hbw := Lib.hid hbw; clear hbw
      have Htk := Lib.hid htk; clear htk
      by_cases hlt : k < n
      · obtain ⟨g, o, x, rfl, hx, hc⟩ := (Ha.out.below Hbw.out).num (j := k) (by have := Hn.out; omega)
        obtain ⟨g2, o2, y, rfl, hy, hc2⟩ := (Hb.out.below Hbw.out).num (j := k) (by have := Hm.out; omega)
        have Hx := Lib.hid hx; clear hx
        have Hy := Lib.hid hy; clear hy
        have b0 : (0 : Int) ≤ (k : Int) := by omega
        have b1 : (k : Int) < (n : Int) := by omega
        by_cases he : x = y
        · have hq : (x != y) = false := by rw [he]; simp
          have He := Lib.hid he; clear he
          go_wp2
          go_quiet (fail)
          go_wp2
          go_roundw
          case rel => exact ⟨k + 1, by omega, by go_num, below_drewN Hbw.out _, by rw [take_more_of Hx.out, take_more_of Hy.out, Htk.out, He.out]⟩
          case measure => simp [intOf]; omega
        · have hq : (x != y) = true := by simpa using he
          have He := Lib.hid he; clear he
          go_wp2
          go_quiet (fail)
          go_wp2
          go_ret
          exact ⟨bool_ret (by rw [decide_eq_false (differ_of Hx.out Hy.out He.out)]), below_drewN Hbw.out _⟩
      · obtain rfl : k = n := by omega
        go_wp2
        go_ret
        exact ⟨bool_ret (by rw [decide_eq_true (alike_of Htk.out Hn.out Hm.out)]), Hbw.out⟩
  · go_enter Try.func21, Try.ntmps21
    go_wp2
    go_ret
    exact ⟨bool_ret (by rw [decide_eq_false]; intro e; rw [e] at hn; omega), Below.refl _ _⟩
end Go.Proofs.Ytcaaakoahaoooaa
