/-
  Contracts of quorum's isId, Right and Majority. Conditions: what each argument reads as.
-/
import Derived.Test.YtpoooehnobfjfaaQuoMath
import Derived.Test.YtpoooehnobfjfaaNums
import Derived.BigQuiet
import Derived.Deep.QuietTactic
import Derived.IntWalk
import Derived.Test.YtpoooehnobfjfaaProg
namespace Go.Proofs.Ytpoooehnobfjfaa
open Go.ChangeShapes Go.WideShapes Go.ChangeAt Go.RowKit
set_option linter.unusedVariables false

theorem bool_ret' {a b : Bool} (h : a = b) : Ending.returned (.bool a) = Ending.returned (.bool b) := by rw [h]
theorem isId_any (n : Int) (w : World) : Calls Try.prog 22 #[.int .i64 n] w fun e w' => e = .returned (.bool (decide (InQ n))) ∧ w' = w := by
  by_cases h1 : 0 ≤ n
  · by_cases h2 : n ≤ 15
    · rw [show decide (InQ n) = true from decide_eq_true ⟨h1, h2⟩]
      go_enter Try.func22, Try.ntmps22
      go_wp2
      go_ret
      exact ⟨rfl, rfl⟩
    · rw [show decide (InQ n) = false from decide_eq_false (fun h => h2 h.2)]
      go_enter Try.func22, Try.ntmps22
      go_wp2
      go_ret
      exact ⟨rfl, rfl⟩
  · rw [show decide (InQ n) = false from decide_eq_false (fun h => h1 h.1)]
    go_enter Try.func22, Try.ntmps22
    go_wp2
    go_ret
    exact ⟨rfl, rfl⟩

/-- how many are more than half -/
def majQ (n : Nat) : Nat := if n < 1 then 0 else n / 2 + 1
theorem Majority_any (n : Nat) (w : World) (hn : n ≤ 1000000) : Calls Try.prog 21 #[.int .i64 (n : Int)] w fun e w' => e = .returned (.int .i64 (majQ n : Int)) ∧ w' = w := by
  unfold majQ
  by_cases h1 : n < 1
  · rw [if_pos h1]
    have h2 : (n : Int) < 1 := by omega
    go_enter Try.func21, Try.ntmps21
    go_wp2
    go_ret
    exact ⟨rfl, rfl⟩
  · rw [if_neg h1]
    have h2 : ¬ (n : Int) < 1 := by omega
    have h3 : ((n : Int).tdiv 2) = ((n / 2 : Nat) : Int) := by
      rw [Int.tdiv_eq_ediv_of_nonneg (by omega)]; omega
    have h4 : IntKind.i64.wrap ((n / 2 : Nat) : Int) = ((n / 2 : Nat) : Int) := by rw [IntKind.wrap_i64]; omega
    have h5 : IntKind.i64.wrap (((n / 2 : Nat) : Int) + 1) = ((n / 2 : Nat) : Int) + 1 := by rw [IntKind.wrap_i64]; omega
    go_enter Try.func21, Try.ntmps21
    go_wp2
    go_ret
    exact ⟨rfl, rfl⟩

theorem not_good {l : List Int} {k : Nat} (h : ¬ GoodQ (l.take k)) : decide (RightQ l) = false := decide_eq_false fun hr => h (good_take hr.2 k)
set_option maxRecDepth 100000 in
theorem Right_any (A : Option Addr) (n c : Nat) (us : List Int) (w : World) (hn : us.length = n) (hm : n ≤ maxLen) (hs : Seen w A (numsV us)) :
    Calls Try.prog 12 #[.slice A n c] w fun e w' => e = .returned (.bool (decide (RightQ us))) ∧ w' = w := by
  unfold maxLen at hm
  by_cases h1 : n < 1
  · rw [show decide (RightQ us) = false from decide_eq_false fun h => by have := h.1.1; omega]
    have h2 : (n : Int) < 1 := by omega
    clear hn hs
    go_enter Try.func12, Try.ntmps12
    go_wp2
    go_ret
    exact ⟨rfl, rfl⟩
  · by_cases h7 : 7 < n
    · rw [show decide (RightQ us) = false from decide_eq_false fun h => by have := h.1.2; omega]
      have h2 : ¬ (n : Int) < 1 := by omega
      have h3 : (7 : Int) < (n : Int) := by omega
      clear hn hs
      go_enter Try.func12, Try.ntmps12
      go_wp2
      go_ret
      exact ⟨rfl, rfl⟩
    · have h2 : ¬ (n : Int) < 1 := by omega
      have h3 : ¬ (7 : Int) < (n : Int) := by omega
      have Hs := Lib.hid hs; have Hn := Lib.hid hn
      clear hs hn
      go_enter Try.func12, Try.ntmps12
      go_wp2
      go_loopw [15] (fun i wr => ∃ k : Nat, k ≤ n ∧ i = .int .i64 k ∧ wr = w ∧ GoodQ (us.take k)) (fun i _ => n - (intOf i).toNat)
      case atStart => exact ⟨0, by omega, rfl, rfl, good_nil⟩
      case round =>
        obtain ⟨k, hk, rfl, rfl, hg⟩ := hrel
        have Hg := Lib.hid hg; clear hg
        by_cases hlt : k < n
        · obtain ⟨g, o, x, rfl, hx, hc⟩ := Hs.out.num (j := k) (by have := Hn.out; omega)
          have Hx := Lib.hid hx; clear hx
          have b0 : (0 : Int) ≤ (k : Int) := by omega
          have b1 : (k : Int) < (n : Int) := by omega
          rcases k with _ | k
          · have c0 : wr.cell? ⟨g, o, none⟩ = some (.int .i64 x) := hc
            by_cases hi : InQ x
            · have Hi := Lib.hid hi; clear hi
              go_wp2_with (go_at_call 22; refine (isId_any x _).mono ?_; rintro e w1 ⟨rfl, rfl⟩; rw [show decide (InQ x) = true from decide_eq_true Hi.out])
              go_roundw
              case rel => exact ⟨1, by omega, by go_num, by first | trivial | rfl, (good_step0 Hx.out).2 Hi.out⟩
              case measure => simp [intOf]; omega
            · have Hi := Lib.hid hi; clear hi
              go_wp2_with (go_at_call 22; refine (isId_any x _).mono ?_; rintro e w1 ⟨rfl, rfl⟩; rw [show decide (InQ x) = false from decide_eq_false Hi.out])
              go_ret
              exact ⟨bool_ret' (not_good (k := 1) fun h => Hi.out ((good_step0 Hx.out).1 h)).symm, rfl⟩
          · obtain ⟨g2, o2, y, e2, hy, hc2⟩ := Hs.out.num (j := k) (by have := Hn.out; omega)
            injection e2 with e2
            injection e2 with e2 e3 _
            subst e2; subst e3
            have Hy := Lib.hid hy; clear hy
            obtain ⟨K, hK⟩ : ∃ K, k + 1 = K := ⟨_, rfl⟩
            rw [hK] at hc b0 b1 hk hlt ⊢
            have s1 : IntKind.i64.wrap ((K : Int) - 1) = (k : Int) := by rw [IntKind.wrap_i64]; omega
            have b2 : (0 : Int) ≤ (k : Int) := by omega
            have b3 : (k : Int) < (n : Int) := by omega
            have b4 : (0 : Int) < (K : Int) := by omega
            have HK := Lib.hid hK; clear hK
            have step := good_step Hg.out Hy.out Hx.out
            rw [HK.out] at step
            have Hst := Lib.hid step; clear step
            by_cases hi : InQ x
            · have Hi := Lib.hid hi; clear hi
              by_cases hyx : y < x
              · have q1 : ¬ x ≤ y := by omega
                go_wp2_with (go_at_call 22; refine (isId_any x _).mono ?_; rintro e w1 ⟨rfl, rfl⟩; rw [show decide (InQ x) = true from decide_eq_true Hi.out])
                go_roundw
                case rel => exact ⟨K + 1, by omega, by go_num, by first | trivial | rfl, Hst.out.2 ⟨Hi.out, by omega⟩⟩
                case measure => simp [intOf]; omega
              · have q1 : x ≤ y := by omega
                go_wp2_with (go_at_call 22; refine (isId_any x _).mono ?_; rintro e w1 ⟨rfl, rfl⟩; rw [show decide (InQ x) = true from decide_eq_true Hi.out])
                go_ret
                exact ⟨bool_ret' (not_good (k := K + 1) fun h => by have := (Hst.out.1 h).2; omega).symm, rfl⟩
            · have Hi := Lib.hid hi; clear hi
              go_wp2_with (go_at_call 22; refine (isId_any x _).mono ?_; rintro e w1 ⟨rfl, rfl⟩; rw [show decide (InQ x) = false from decide_eq_false Hi.out])
              go_ret
              exact ⟨bool_ret' (not_good (k := K + 1) fun h => Hi.out (Hst.out.1 h).1).symm, rfl⟩
        · obtain rfl : k = n := by omega
          go_wp2
          go_ret
          exact ⟨bool_ret' (decide_eq_true ⟨⟨by have := Hn.out; omega, by have := Hn.out; omega⟩, by have := Hg.out; rwa [List.take_of_length_le (by have := Hn.out; omega)] at this⟩).symm, rfl⟩
end Go.Proofs.Ytpoooehnobfjfaa
