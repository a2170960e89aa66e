/-
  Contract of dotterelref15's Has. Conditions: what the slice reads as.
-/
import Derived.Test.YtcaaakoahaoooaaVolAw2
namespace Go.Proofs.Ytcaaakoahaoooaa
open Go.ChangeShapes Go.WideShapes Go.ChangeAt Go.RowKit
set_option linter.unusedVariables false

theorem take_snoc {α : Type} {l : List α} {k : Nat} {x : α} (h : l[k]? = some x) : l.take (k + 1) = l.take k ++ [x] := by
  obtain ⟨h1, h2⟩ := List.getElem?_eq_some_iff.1 h
  rw [List.take_succ_eq_append_getElem h1, h2]
theorem bool_ret' {a b : Bool} (h : a = b) : Ending.returned (.bool a) = Ending.returned (.bool b) := by rw [h]
theorem not_take {us : List Int} {k : Nat} {x v : Int} (hx : us[k]? = some x) (h : ¬ v ∈ us.take k) (hne : x ≠ v) : ¬ v ∈ us.take (k + 1) := by
  rw [take_snoc hx]
  simp only [List.mem_append, List.mem_singleton, not_or]
  exact ⟨h, fun e => hne e.symm⟩
set_option maxRecDepth 100000 in
theorem Has_any (A : Option Addr) (n c : Nat) (us : List Int) (v : Int) (w : World) (hn : us.length = n) (hm : n ≤ maxLen) (hs : Seen w A (numsV us)) :
    Calls Try.prog 17 #[.slice A n c, .int .i64 v] w fun e w' => e = .returned (.bool (decide (v ∈ us))) ∧ w' = w := by
  unfold maxLen at hm
  have Hs := Lib.hid hs; have Hn := Lib.hid hn
  clear hs hn
  go_enter Try.func17, Try.ntmps17
  go_wp2
  go_loopw [5] (fun i wr => ∃ k : Nat, k ≤ n ∧ i = .int .i64 k ∧ w = wr ∧ ¬ v ∈ us.take k) (fun i _ => n - (intOf i).toNat)
  case atStart => exact ⟨0, by omega, rfl, rfl, by simp⟩
  case round =>
    obtain ⟨k, hk, rfl, rfl, hg⟩ := hrel
    have Hg := Lib.hid hg; clear hg
    by_cases hlt : k < n
    · obtain ⟨g, o, x, rfl, hx, hc⟩ := Hs.out.num (j := k) (by have := Hn.out; omega)
      have Hx := Lib.hid hx; clear hx
      have b0 : (0 : Int) ≤ (k : Int) := by omega
      have b1 : (k : Int) < (n : Int) := by omega
      by_cases he : x = v
      · subst he
        go_wp2
        go_ret
        exact ⟨bool_ret' (decide_eq_true (List.mem_of_getElem? Hx.out)).symm, rfl⟩
      · have hq : (x == v) = false := by simpa using he
        have He := Lib.hid he; clear he
        go_wp2
        go_roundw
        case rel => exact ⟨k + 1, by omega, by go_num, by first | trivial | rfl, not_take Hx.out Hg.out He.out⟩
        case measure => simp [intOf]; omega
    · obtain rfl : k = n := by omega
      go_wp2
      go_ret
      exact ⟨bool_ret' (decide_eq_false fun h => Hg.out (by rw [List.take_of_length_le (by have := Hn.out; omega)]; exact h)).symm, rfl⟩
end Go.Proofs.Ytcaaakoahaoooaa
