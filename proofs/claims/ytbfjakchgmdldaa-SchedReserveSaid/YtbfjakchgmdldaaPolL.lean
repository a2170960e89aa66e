/-
  Contracts of policy.Load, policy.allRight, policy.Admits, and dotterelref10's Load and Admits. Conditions: what the slice reads as; of Load: at most 4,096 policies.
-/
import Derived.Test.YtbfjakchgmdldaaPolR
import Derived.Test.YtbfjakchgmdldaaWords
namespace Go.Proofs.Ytbfjakchgmdldaa
open Go.ChangeShapes Go.WideShapes Go.ChangeAt Go.RowKit
set_option linter.unusedVariables false

theorem rshare_space (re : Int) (w : World) : Calls Try.prog 34 #[.int .i64 (spaceF re)] w fun e w' => e = .returned (.int .i64 (shareF (spaceF re))) ∧ w = w' := refShare_any _ _ (spaceF_in re)

theorem load_k {l : List Pol} {k : Nat} {p : Pol} {z s : Int} (hp : l[k]? = some p) (hz : loadP (l.take k) = z) (hs : shareF (spaceF p.re) = s) : loadP (l.take (k + 1)) = z + s := by
  rw [loadP_more hp, hz, ← hs]
  rfl
theorem load_all {l : List Pol} {n : Nat} (hn : l.length = n) : loadP (l.take n) = loadP l := by rw [List.take_of_length_le (by omega)]

attribute [local go_sem ↓] ldPol_eq
set_option maxRecDepth 100000 in
theorem RLoad_any (A : Option Addr) (n c : Nat) (l : List Pol) (w : World) (hn : l.length = n) (hle : n ≤ 4096) (hs : PolsAt w A l) :
    Calls Try.prog 27 #[.slice A n c] w fun e w' => e = .returned (.int .i64 (loadP l)) ∧ Below w.heap.size w w' := by
  have Hs := Lib.hid hs; have Hn := Lib.hid hn; have Hle := Lib.hid hle
  clear hs hn
  go_enter Try.func27, Try.ntmps27
  go_wp2
  go_loopw [3, 4] (fun x i wr => ∃ k : Nat, k ≤ n ∧ i = .int .i64 k ∧ x = .int .i64 (loadP (l.take k)) ∧ Below w.heap.size w wr) (fun _ i _ => n - (intOf i).toNat)
  case atStart => exact ⟨0, by omega, rfl, rfl, Below.refl _ _⟩
  case round =>
    obtain ⟨k, hk, rfl, rfl, hb⟩ := hrel
    have Hb := Lib.hid hb
    clear hb
    by_cases hlt : k < n
    · obtain ⟨g, o, ⟨re, we, li, bu⟩, rfl, hp, hat⟩ := Hs.out.get (k := k) (by rw [Hn.out]; exact hlt)
      have hld := (hat.below Hb.out).1
      clear hat
      simp only at hld
      obtain ⟨z, hz⟩ : ∃ z, loadP (l.take k) = z := ⟨_, rfl⟩
      obtain ⟨s, hs⟩ : ∃ s, shareF (spaceF re) = s := ⟨_, rfl⟩
      have Hm := Lib.hid (load_k hp hz hs)
      have hz1 := loadP_part_bd (l := l) (by rw [Hn.out]; exact hle) k
      have hz2 := shareF_bd (spaceF re)
      rw [hz] at hz1 ⊢
      have C2 := Lib.hid (rshare_space re)
      rw [hs] at hz2 C2
      clear hz hs hp
      have b0 : (0 : Int) ≤ (k : Int) := by omega
      have b1 : (k : Int) < (n : Int) := by omega
      go_wp2_with (first
        | (go_at_call 17; refine (refSpace_any re _).mono ?_; rintro e w' ⟨rfl, rfl⟩)
        | (go_at_call 34; refine (C2.out _).mono ?_; rintro e w' ⟨rfl, rfl⟩))
      go_roundw
      case rel => exact ⟨k + 1, by omega, by go_num, by rw [Hm.out], Hb.out⟩
      case measure => simp [intOf]; omega
    · have hkn : k = n := by omega
      subst hkn
      have hall := load_all Hn.out
      rw [hall]
      clear hall
      go_wp2
      go_ret
      exact ⟨rfl, Hb.out⟩
end Go.Proofs.Ytbfjakchgmdldaa
