/-
  Contracts of policy.Admits and dotterelref10's Admits. Conditions: what the slice reads as, and how many it is at most.
-/
import Derived.Test.YtbfjakchgmdldaaPolL
namespace Go.Proofs.Ytbfjakchgmdldaa
open Go.ChangeShapes Go.WideShapes Go.ChangeAt Go.RowKit
set_option linter.unusedVariables false

theorem admitsP_eq (picks : Int) (l : List Pol) {n : Nat} (hn : l.length = n) : admitsP picks l = (decide (1 ≤ picks ∧ picks ≤ 64) && decide (n ≤ 4096) && allP l && decide (loadP l ≤ picks * 16777216)) := by rw [← hn]; rfl

attribute [local go_sem ↓] ldPol_eq
set_option maxRecDepth 100000 in
set_option maxHeartbeats 2000000 in
theorem RAdmits_any (picks : Int) (A : Option Addr) (n c : Nat) (l : List Pol) (w : World) (hn : l.length = n) (hm : n ≤ maxLen) (hs : PolsAt w A l) (h1 : In64 picks) :
    Calls Try.prog 16 #[.int .i64 picks, .slice A n c] w fun e w' => e = .returned (.bool (admitsP picks l)) ∧ Below w.heap.size w w' := by
  unfold maxLen at hm
  obtain ⟨i1, i2⟩ := h1
  rw [admitsP_eq picks l hn]
  by_cases hp : picks < 1
  · rw [decide_eq_false (show ¬ (1 ≤ picks ∧ picks ≤ 64) by omega)]
    go_enter Try.func16, Try.ntmps16
    go_wp2
    go_ret
    exact ⟨rfl, Below.refl _ _⟩
  by_cases hq : 64 < picks
  · rw [decide_eq_false (show ¬ (1 ≤ picks ∧ picks ≤ 64) by omega)]
    go_enter Try.func16, Try.ntmps16
    go_wp2
    go_ret
    exact ⟨rfl, Below.refl _ _⟩
  rw [decide_eq_true (show 1 ≤ picks ∧ picks ≤ 64 by omega)]
  by_cases hle : 4096 < n
  · rw [decide_eq_false (show ¬ n ≤ 4096 by omega)]
    have hle' : 4096 < (n : Int) := by omega
    go_enter Try.func16, Try.ntmps16
    go_wp2
    go_ret
    exact ⟨rfl, Below.refl _ _⟩
  have hle2 : n ≤ 4096 := by omega
  rw [decide_eq_true hle2]
  have hle' : ¬ 4096 < (n : Int) := by omega
  have C3 := Lib.hid (fun w' (hb : Below w.heap.size w w') => RLoad_any A n c l w' hn hle2 (hs.below hb))
  obtain ⟨z, hz⟩ : ∃ z, loadP l = z := ⟨_, rfl⟩
  have hz1 := loadP_bd l
  have hz2 : 0 ≤ z ∧ z ≤ 4503599627370496 := by rw [hz] at hz1; omega
  rw [hz] at C3 ⊢
  have Hs := Lib.hid hs; have Hn := Lib.hid hn; have Hle := Lib.hid hle2
  clear hz hz1 hs hn hle hle2
  go_enter Try.func16, Try.ntmps16
  go_wp2
  go_loopw [5] (fun i wr => ∃ k : Nat, k ≤ n ∧ i = .int .i64 k ∧ allP (l.take k) = true ∧ Below w.heap.size w wr) (fun i _ => n - (intOf i).toNat)
  case atStart => exact ⟨0, by omega, rfl, rfl, Below.refl _ _⟩
  case round =>
    obtain ⟨k, hk, rfl, hall, hb⟩ := hrel
    have Hb := Lib.hid hb; have Hall := Lib.hid hall
    clear hb hall
    by_cases hlt : k < n
    · obtain ⟨g, o, p, rfl, hp, hat⟩ := Hs.out.get (k := k) (by rw [Hn.out]; exact hlt)
      have hld := ldPol_run (hat.below Hb.out)
      have C := Lib.hid (RRight_any p)
      obtain ⟨r, hr⟩ : ∃ r, rightP p = r := ⟨_, rfl⟩
      rw [hr] at C
      have Hr := Lib.hid hr; have Hp := Lib.hid hp
      clear hat hr hp
      have b0 : (0 : Int) ≤ (k : Int) := by omega
      have b1 : (k : Int) < (n : Int) := by omega
      obtain ⟨re, we, li, bu⟩ := p
      simp only at hld C
      cases r with
      | true =>
        go_wp2_with (go_at_call 10; refine (C.out _).mono ?_; rintro e w' ⟨rfl, hb3⟩; have Hb3 := Lib.hid (Hb.out.trans (hb3.mono Hb.out.size)); clear hb3)
        go_roundw
        case rel => exact ⟨k + 1, by omega, by go_num, allP_more Hp.out Hall.out Hr.out, Hb3.out⟩
        case measure => simp [intOf]; omega
      | false =>
        go_wp2_with (go_at_call 10; refine (C.out _).mono ?_; rintro e w' ⟨rfl, hb3⟩; have Hb3 := Lib.hid (Hb.out.trans (hb3.mono Hb.out.size)); clear hb3)
        go_ret
        exact ⟨bool_eq (by have h := allP_no Hp.out Hr.out; simp [h]), Hb3.out⟩
    · have hkn : k = n := by omega
      subst hkn
      have hall := Hall.out
      rw [List.take_of_length_le (by have := Hn.out; omega)] at hall
      have Hall2 := Lib.hid hall
      clear hall
      by_cases hl : z ≤ picks * 16777216
      · have hl2 : z ≤ 16777216 * picks := by omega
        clear hl
        go_wp2_with (go_at_call 27; refine (C3.out _ Hb.out).mono ?_; rintro e w3 ⟨rfl, hb3⟩; have Hb3 := Lib.hid (Hb.out.trans (hb3.mono Hb.out.size)); clear hb3)
        go_ret
        exact ⟨bool_eq (by have h := Hall2.out; simp [h] <;> omega), Hb3.out⟩
      · have hl2 : ¬ z ≤ 16777216 * picks := by omega
        clear hl
        go_wp2_with (go_at_call 27; refine (C3.out _ Hb.out).mono ?_; rintro e w3 ⟨rfl, hb3⟩; have Hb3 := Lib.hid (Hb.out.trans (hb3.mono Hb.out.size)); clear hb3)
        go_ret
        exact ⟨bool_eq (by have h := Hall2.out; simp [h] <;> omega), Hb3.out⟩
end Go.Proofs.Ytbfjakchgmdldaa
