/-
  Contracts of policy.Admits and dotterelref10's Admits. Conditions: what the slice reads as, and how many it is at most.
-/
import Derived.Test.YtcaaakoahaoooaaPolL
namespace Go.Proofs.Ytcaaakoahaoooaa
open Go.ChangeShapes Go.WideShapes Go.ChangeAt Go.RowKit
set_option linter.unusedVariables false

theorem admitsP_eq (picks : Int) (l : List Pol) {n : Nat} (hn : l.length = n) : admitsP picks l = (decide (1 ≤ picks ∧ picks ≤ 64) && decide (n ≤ 4096) && allP l && decide (loadP l ≤ picks * 16777216)) := by rw [← hn]; rfl

set_option maxRecDepth 100000 in
set_option maxHeartbeats 2000000 in
theorem Admits_any (picks : Int) (A : Option Addr) (n c : Nat) (l : List Pol) (w : World) (hn : l.length = n) (hm : n ≤ maxLen) (hs : PolsAt w A l) (h1 : In64 picks) :
    Calls Try.prog 13 #[.int .i64 picks, .slice A n c] w fun e w' => e = .returned (.bool (admitsP picks l)) ∧ Below w.heap.size w w' := by
  unfold maxLen at hm
  obtain ⟨i1, i2⟩ := h1
  rw [admitsP_eq picks l hn]
  by_cases hp : 1 ≤ picks ∧ picks ≤ 64
  · rw [decide_eq_true hp]
    have C1 := Lib.hid (fun w => within_any picks 1 64 w)
    simp only [decide_eq_true hp] at C1
    obtain ⟨p1, p2⟩ := hp
    by_cases hle : n ≤ 4096
    · rw [decide_eq_true hle]
      have C2 := Lib.hid (fun w' (hb : Below w.heap.size w w') => allRight_any A n c l w' hn hle (hs.below hb))
      have C3 := Lib.hid (fun w' (hb : Below w.heap.size w w') => Load_any A n c l w' hn hle (hs.below hb))
      obtain ⟨z, hz⟩ : ∃ z, loadP l = z := ⟨_, rfl⟩
      have hz1 := loadP_bd l
      have hz2 : 0 ≤ z ∧ z ≤ 4503599627370496 := by rw [hz] at hz1; omega
      rw [hz] at C3 ⊢
      have hle' : (n : Int) ≤ 4096 := by omega
      clear hz hz1 hs hn hle
      obtain ⟨r, hr⟩ : ∃ r, allP l = r := ⟨_, rfl⟩
      rw [hr] at C2 ⊢
      clear hr
      cases r with
      | false =>
        go_enter Try.func13, Try.ntmps13
        go_wp2_with (first
          | (go_at_call 28; refine (C1.out _).mono ?_; rintro e w1 ⟨rfl, rfl⟩)
          | (go_at_call 29; refine (C2.out _ (Below.refl _ _)).mono ?_; rintro e w2 ⟨rfl, hb2⟩; have Hb2 := Lib.hid hb2; clear hb2))
        go_ret
        exact ⟨rfl, Hb2.out⟩
      | true =>
        by_cases hl : z ≤ picks * 16777216
        · rw [decide_eq_true hl]
          go_enter Try.func13, Try.ntmps13
          go_wp2_with (first
            | (go_at_call 28; refine (C1.out _).mono ?_; rintro e w1 ⟨rfl, rfl⟩)
            | (go_at_call 29; refine (C2.out _ (Below.refl _ _)).mono ?_; rintro e w2 ⟨rfl, hb2⟩; have Hb2 := Lib.hid hb2; clear hb2)
            | (go_at_call 30; refine (C3.out _ Hb2.out).mono ?_; rintro e w3 ⟨rfl, hb3⟩; have Hb3 := Lib.hid (Hb2.out.trans (hb3.mono Hb2.out.size)); clear hb3))
          go_ret
          exact ⟨rfl, Hb3.out⟩
        · rw [decide_eq_false hl]
          go_enter Try.func13, Try.ntmps13
          go_wp2_with (first
            | (go_at_call 28; refine (C1.out _).mono ?_; rintro e w1 ⟨rfl, rfl⟩)
            | (go_at_call 29; refine (C2.out _ (Below.refl _ _)).mono ?_; rintro e w2 ⟨rfl, hb2⟩; have Hb2 := Lib.hid hb2; clear hb2)
            | (go_at_call 30; refine (C3.out _ Hb2.out).mono ?_; rintro e w3 ⟨rfl, hb3⟩; have Hb3 := Lib.hid (Hb2.out.trans (hb3.mono Hb2.out.size)); clear hb3))
          go_ret
          exact ⟨bool_eq (by simp <;> omega), Hb3.out⟩
    · rw [decide_eq_false hle]
      have hle' : ¬ (n : Int) ≤ 4096 := by omega
      go_enter Try.func13, Try.ntmps13
      go_wp2_with (go_at_call 28; refine (C1.out _).mono ?_; rintro e w1 ⟨rfl, rfl⟩)
      go_ret
      exact ⟨bool_eq (by simp <;> omega), Below.refl _ _⟩
  · rw [decide_eq_false hp]
    have C1 := Lib.hid (fun w => within_any picks 1 64 w)
    simp only [decide_eq_false hp] at C1
    clear hp
    go_enter Try.func13, Try.ntmps13
    go_wp2_with (go_at_call 28; refine (C1.out _).mono ?_; rintro e w1 ⟨rfl, rfl⟩)
    go_ret
    exact ⟨rfl, Below.refl _ _⟩

attribute [local go_sem ↓] ldPol_eq
end Go.Proofs.Ytcaaakoahaoooaa
