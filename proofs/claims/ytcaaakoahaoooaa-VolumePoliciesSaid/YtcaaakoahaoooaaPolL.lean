/-
  Contracts of policy.Load, policy.allRight, policy.Admits, and dotterelref10's Load and Admits. Conditions: what the slice reads as; of Load: at most 4,096 policies.
-/
import Derived.Test.YtcaaakoahaoooaaPolR
import Derived.Test.YtcaaakoahaoooaaWords
namespace Go.Proofs.Ytcaaakoahaoooaa
open Go.ChangeShapes Go.WideShapes Go.ChangeAt Go.RowKit
set_option linter.unusedVariables false

theorem share_space (re : Int) (w : World) : Calls Try.prog 54 #[.int .i64 (spaceF re)] w fun e w' => e = .returned (.int .i64 (shareF (spaceF re))) ∧ w = w' := share_any _ _ (spaceF_in re)
theorem load_k {l : List Pol} {k : Nat} {p : Pol} {z s : Int} (hp : l[k]? = some p) (hz : loadP (l.take k) = z) (hs : shareF (spaceF p.re) = s) : loadP (l.take (k + 1)) = z + s := by
  rw [loadP_more hp, hz, ← hs]
  rfl
theorem load_all {l : List Pol} {n : Nat} (hn : l.length = n) : loadP (l.take n) = loadP l := by rw [List.take_of_length_le (by omega)]

attribute [local go_sem ↓] ldPol_eq
set_option maxRecDepth 100000 in
theorem Load_any (A : Option Addr) (n c : Nat) (l : List Pol) (w : World) (hn : l.length = n) (hle : n ≤ 4096) (hs : PolsAt w A l) :
    Calls Try.prog 30 #[.slice A n c] w fun e w' => e = .returned (.int .i64 (loadP l)) ∧ Below w.heap.size w w' := by
  have Hs := Lib.hid hs; have Hn := Lib.hid hn; have Hle := Lib.hid hle
  clear hs hn
  go_enter Try.func30, Try.ntmps30
  go_wp2
  go_loopw [3, 8] (fun x i wr => ∃ k : Nat, k ≤ n ∧ i = .int .i64 k ∧ x = .int .i64 (loadP (l.take k)) ∧ Below w.heap.size w wr) (fun _ i _ => n - (intOf i).toNat)
  case atStart => exact ⟨0, by omega, rfl, rfl, Below.refl _ _⟩
  case round =>
    obtain ⟨k, hk, rfl, rfl, hb⟩ := hrel
    have Hb := Lib.hid hb
    clear hb
    by_cases hlt : k < n
    · obtain ⟨g, o, ⟨re, we, li, bu⟩, rfl, hp, hat⟩ := Hs.out.get (k := k) (by rw [Hn.out]; exact hlt)
      have hld := ldPol_run (hat.below Hb.out)
      clear hat
      simp only at hld
      obtain ⟨z, hz⟩ : ∃ z, loadP (l.take k) = z := ⟨_, rfl⟩
      obtain ⟨s, hs⟩ : ∃ s, shareF (spaceF re) = s := ⟨_, rfl⟩
      have Hm := Lib.hid (load_k hp hz hs)
      have hz1 := loadP_part_bd (l := l) (by rw [Hn.out]; exact hle) k
      have hz2 := shareF_bd (spaceF re)
      rw [hz] at hz1 ⊢
      have C2 := Lib.hid (share_space re)
      rw [hs] at hz2 C2
      clear hz hs hp
      have b0 : (0 : Int) ≤ (k : Int) := by omega
      have b1 : (k : Int) < (n : Int) := by omega
      go_wp2_with (first
        | (go_at_call 55; refine (space_any re _).mono ?_; rintro e w' ⟨rfl, rfl⟩)
        | (go_at_call 54; refine (C2.out _).mono ?_; rintro e w' ⟨rfl, rfl⟩))
      go_roundw
      case rel => exact ⟨k + 1, by omega, by go_num, by rw [Hm.out], Hb.out.alloc Hb.out.size _⟩
      case measure => simp [intOf]; omega
    · have hkn : k = n := by omega
      subst hkn
      have hall := load_all Hn.out
      rw [hall]
      clear hall
      go_wp2
      go_ret
      exact ⟨rfl, Hb.out⟩
set_option maxRecDepth 100000 in
theorem allRight_any (A : Option Addr) (n c : Nat) (l : List Pol) (w : World) (hn : l.length = n) (hle : n ≤ 4096) (hs : PolsAt w A l) :
    Calls Try.prog 29 #[.slice A n c] w fun e w' => e = .returned (.bool (allP l)) ∧ Below w.heap.size w w' := by
  have Hs := Lib.hid hs; have Hn := Lib.hid hn; have Hle := Lib.hid hle
  clear hs hn
  go_enter Try.func29, Try.ntmps29
  go_wp2
  go_loopw [7] (fun i wr => ∃ k : Nat, k ≤ n ∧ i = .int .i64 k ∧ allP (l.take k) = true ∧ Below w.heap.size w wr) (fun i _ => n - (intOf i).toNat)
  case atStart => exact ⟨0, by omega, rfl, rfl, Below.refl _ _⟩
  case round =>
    obtain ⟨k, hk, rfl, hall, hb⟩ := hrel
    have Hb := Lib.hid hb; have Hall := Lib.hid hall
    clear hb hall
    by_cases hlt : k < n
    · obtain ⟨g, o, p, rfl, hp, hat⟩ := Hs.out.get (k := k) (by rw [Hn.out]; exact hlt)
      have hld := ldPol_run (hat.below Hb.out)
      have Hin := Lib.hid hat.2.2.2.2
      have C := Lib.hid (Right_any p)
      obtain ⟨r, hr⟩ : ∃ r, rightP p = r := ⟨_, rfl⟩
      rw [hr] at C
      have Hr := Lib.hid hr; have Hp := Lib.hid hp
      clear hat hr hp
      have b0 : (0 : Int) ≤ (k : Int) := by omega
      have b1 : (k : Int) < (n : Int) := by omega
      obtain ⟨re, we, li, bu⟩ := p
      simp only at hld C
      obtain ⟨w2, hw2⟩ : ∃ w2, wr.alloc (.cells #[.int .i64 re, .int .i64 we, .int .i64 li, .int .i64 bu] 29) = w2 := ⟨_, rfl⟩
      have hld2 : (ldPol (.pointer (some ⟨wr.heap.size, 0, none⟩))).run Try.prog w2 = _ := ldPol_run (p := ⟨re, we, li, bu⟩) (by rw [← hw2]; exact pol_of_row (heap_alloc_new _ _) Hin.out)
      have Hb2 := Lib.hid (show Below w.heap.size w w2 by rw [← hw2]; exact Hb.out.alloc Hb.out.size _)
      simp only at hld2
      cases r with
      | true =>
        go_wp2_with (go_at_call 53; refine (C.out _).mono ?_; rintro e w' ⟨rfl, hb3⟩; have Hb3 := Lib.hid (Hb2.out.trans (hb3.mono Hb2.out.size)); clear hb3)
        go_roundw
        case rel => exact ⟨k + 1, by omega, by go_num, allP_more Hp.out Hall.out Hr.out, Hb3.out⟩
        case measure => simp [intOf]; omega
      | false =>
        go_wp2_with (go_at_call 53; refine (C.out _).mono ?_; rintro e w' ⟨rfl, hb3⟩; have Hb3 := Lib.hid (Hb2.out.trans (hb3.mono Hb2.out.size)); clear hb3)
        go_ret
        exact ⟨bool_eq (allP_no Hp.out Hr.out).symm, Hb3.out⟩
    · have hkn : k = n := by omega
      subst hkn
      go_wp2
      go_ret
      exact ⟨bool_eq (by have h := Hall.out; rw [List.take_of_length_le (by have := Hn.out; omega)] at h; exact h.symm), Hb.out⟩
end Go.Proofs.Ytcaaakoahaoooaa
