/-
  Contracts of dotterelref15's Has, Right and Won, and of the law's meet. Conditions: what each slice reads as.
-/
import Derived.Test.YtdlgihgdpdiglaaGreatJQuoA
import Derived.Lib.Hide
import Derived.Test.YtdlgihgdpdiglaaGreatJWords
namespace Go.Proofs.YtdlgihgdpdiglaaGreat.quo
open Go.ChangeShapes Go.WideShapes Go.ChangeAt Go.RowKit
set_option linter.unusedVariables false

theorem not_take {us : List Int} {k : Nat} {x v : Int} (hx : us[k]? = some x) (h : ¬ v ∈ us.take k) (hne : x ≠ v) : ¬ v ∈ us.take (k + 1) := by
  rw [take_snoc hx]
  simp only [List.mem_append, List.mem_singleton, not_or]
  exact ⟨h, fun e => hne e.symm⟩
/-- one of l is in both -/
def meetQ (l a b : List Int) : Bool := decide (∃ x ∈ l, x ∈ a ∧ x ∈ b)
attribute [local irreducible] wpQuiet in
set_option maxRecDepth 100000 in
set_option maxHeartbeats 2000000 in
theorem RRight_any (A : Option Addr) (n c : Nat) (us : List Int) (w : World) (hn : us.length = n) (hm : n ≤ maxLen) (hs : Seen w A (numsV us)) :
    Calls Tryz.prog 11 #[.slice A n c] w fun e w' => e = .returned (.bool (decide (RightQ us))) ∧ Below w.heap.size w w' := by
  unfold maxLen at hm
  by_cases h1 : n < 1
  · have hq : decide (RightQ us) = false := decide_eq_false fun h => by have := h.1.1; omega
    have Hq := Lib.hid hq
    have h2 : (n : Int) < 1 := by omega
    clear hn hs hq
    go_enter Tryz.func11, Tryz.ntmps11
    go_wp2
    go_ret
    exact ⟨bool_ret' Hq.out.symm, Below.refl _ _⟩
  · by_cases h7 : 7 < n
    · have hq : decide (RightQ us) = false := decide_eq_false fun h => by have := h.1.2; omega
      have Hq := Lib.hid hq
      have h2 : ¬ (n : Int) < 1 := by omega
      have h3 : (7 : Int) < (n : Int) := by omega
      clear hn hs hq
      go_enter Tryz.func11, Tryz.ntmps11
      go_wp2
      go_ret
      exact ⟨bool_ret' Hq.out.symm, Below.refl _ _⟩
    · have h2 : ¬ (n : Int) < 1 := by omega
      have h3 : ¬ (7 : Int) < (n : Int) := by omega
      have Hs := Lib.hid hs; have Hn := Lib.hid hn
      clear hs hn
      go_enter Tryz.func11, Tryz.ntmps11
      go_wp2
      go_loopw [3] (fun i wr => ∃ k : Nat, k ≤ n ∧ i = .int .i64 k ∧ Below w.heap.size w wr ∧ GoodQ (us.take k)) (fun i _ => n - (intOf i).toNat)
      case atStart => exact ⟨0, by omega, rfl, Below.refl _ _, good_nil⟩
      case round =>
        obtain ⟨k, hk, rfl, hbw, hg⟩ := hrel
        have Hg := Lib.hid hg; clear hg
        have Hbw := Lib.hid hbw; clear hbw
        by_cases hlt : k < n
        · obtain ⟨g, o, x, rfl, hx, hc⟩ := (Hs.out.below Hbw.out).num (j := k) (by have := Hn.out; omega)
          have Hx := Lib.hid hx; clear hx
          have b0 : (0 : Int) ≤ (k : Int) := by omega
          have b1 : (k : Int) < (n : Int) := by omega
          have low : ¬ InQ x → ¬ GoodQ (us.take (k + 1)) := fun h hh => h (hh.1 x (by rw [take_snoc Hx.out]; simp))
          have Low := Lib.hid low; clear low
          by_cases x0 : x < 0
          · go_wp2
            go_quiet (fail)
            go_wp2
            go_ret
            exact ⟨bool_ret' (not_good (Low.out fun h => by have := h.1; omega)).symm, below_drewN Hbw.out _⟩
          · by_cases x15 : 15 < x
            · go_wp2
              go_quiet (fail)
              go_wp2
              go_ret
              exact ⟨bool_ret' (not_good (Low.out fun h => by have := h.2; omega)).symm, below_drewN Hbw.out _⟩
            · have hi : InQ x := ⟨by omega, by omega⟩
              have Hi := Lib.hid hi; clear hi
              rcases k with _ | k
              · have c0 : wr.cell? ⟨g, o, none⟩ = some (.int .i64 x) := hc
                go_wp2
                go_quiet (fail)
                go_wp2
                go_roundw
                case rel => exact ⟨1, by omega, by go_num, below_drewN Hbw.out _, (good_step0 Hx.out).2 Hi.out⟩
                case measure => simp [intOf]; omega
              · obtain ⟨g2, o2, y, e2, hy, hc2⟩ := (Hs.out.below Hbw.out).num (j := k) (by have := Hn.out; omega)
                injection e2 with e2
                injection e2 with e2 e3 _
                subst e2; subst e3
                have Hy := Lib.hid hy; clear hy
                obtain ⟨K, hK⟩ : ∃ K, k + 1 = K := ⟨_, rfl⟩
                have step := good_step Hg.out Hy.out Hx.out
                rw [hK] at hc b0 b1 hk hlt step ⊢
                have s1 : IntKind.i64.wrap ((K : Int) - 1) = (k : Int) := by rw [IntKind.wrap_i64]; omega
                have b2 : (0 : Int) ≤ (k : Int) := by omega
                have b3 : (k : Int) < (n : Int) := by omega
                have b4 : (0 : Int) < (K : Int) := by omega
                have b5 : 0 < K := by omega
                have HK := Lib.hid hK; clear hK
                have Hst := Lib.hid step; clear step
                clear Hg
                by_cases hyx : y < x
                · have q1 : ¬ x ≤ y := by omega
                  go_wp2
                  go_quiet (fail)
                  go_wp2
                  go_roundw
                  case rel => exact ⟨K + 1, by omega, by go_num, below_drewN Hbw.out _, Hst.out.2 ⟨Hi.out, by omega⟩⟩
                  case measure => simp [intOf]; omega
                · have q1 : x ≤ y := by omega
                  go_wp2
                  go_quiet (fail)
                  go_wp2
                  go_ret
                  exact ⟨bool_ret' (not_good (k := K + 1) fun h => by have := (Hst.out.1 h).2; omega).symm, below_drewN Hbw.out _⟩
        · obtain rfl : k = n := by omega
          go_wp2
          go_ret
          exact ⟨bool_ret' (decide_eq_true ⟨⟨by have := Hn.out; omega, by have := Hn.out; omega⟩, by have := Hg.out; rwa [List.take_of_length_le (by have := Hn.out; omega)] at this⟩).symm, Hbw.out⟩

end Go.Proofs.YtdlgihgdpdiglaaGreat.quo
