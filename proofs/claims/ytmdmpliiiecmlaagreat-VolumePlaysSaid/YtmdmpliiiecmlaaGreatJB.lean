/-
  Joined: PolL, PolAd, VolFn, VolNum, VolSrv, VolIdx, VolCmp. Conditions: each theorem's own.
-/
import Derived.Test.YtmdmpliiiecmlaaGreatPolR
import Derived.Test.YtmdmpliiiecmlaaGreatJA
import Derived.Lib.Small
import Derived.Lib.Walk
import Derived.Sort.Grow
import Derived.Deep.RegionHeld3

section
namespace Go.Proofs.YtmdmpliiiecmlaaGreat
open Go.ChangeShapes Go.WideShapes Go.ChangeAt Go.RowKit
set_option linter.unusedVariables false

theorem share_space (re : Int) (w : World) : Calls Tryz.prog 115 #[.int .i64 (spaceF re)] w fun e w' => e = .returned (.int .i64 (shareF (spaceF re))) ∧ w = w' := share_any _ _ (spaceF_in re)
theorem rshare_space (re : Int) (w : World) : Calls Tryz.prog 108 #[.int .i64 (spaceF re)] w fun e w' => e = .returned (.int .i64 (shareF (spaceF re))) ∧ w = w' := refShare_any _ _ (spaceF_in re)

theorem load_k {l : List Pol} {k : Nat} {p : Pol} {z s : Int} (hp : l[k]? = some p) (hz : loadP (l.take k) = z) (hs : shareF (spaceF p.re) = s) : loadP (l.take (k + 1)) = z + s := by
  rw [loadP_more hp, hz, ← hs]
  rfl
theorem load_all {l : List Pol} {n : Nat} (hn : l.length = n) : loadP (l.take n) = loadP l := by rw [List.take_of_length_le (by omega)]

attribute [local go_sem ↓] ldPol_eq
set_option maxRecDepth 100000 in
theorem Load_any (A : Option Addr) (n c : Nat) (l : List Pol) (w : World) (hn : l.length = n) (hle : n ≤ 4096) (hs : PolsAt w A l) :
    Calls Tryz.prog 96 #[.slice A n c] w fun e w' => e = .returned (.int .i64 (loadP l)) ∧ Below w.heap.size w w' := by
  have Hs := Lib.hid hs; have Hn := Lib.hid hn; have Hle := Lib.hid hle
  clear hs hn
  go_enter Tryz.func96, Tryz.ntmps96
  go_wp2
  go_loopw [3, 8] (fun x i wr => ∃ k : Nat, k ≤ n ∧ i = .int .i64 k ∧ x = .int .i64 (loadP (l.take k)) ∧ Below w.heap.size w wr) (fun _ i _ => n - (intOf i).toNat)
  case atStart => exact ⟨0, by omega, rfl, rfl, Below.refl _ _⟩
  case round =>
    obtain ⟨k, hk, rfl, rfl, hb⟩ := hrel
    have Hb := Lib.hid hb
    clear hb
    by_cases hlt : k < n
    · obtain ⟨g, o, ⟨re, we, li, bu⟩, rfl, hp, hat⟩ := Hs.out.get (k := k) (by rw [Hn.out]; exact hlt)
      have hld := ldPol_run (hat.below Hb.out)
      clear hat
      simp only at hld
      obtain ⟨z, hz⟩ : ∃ z, loadP (l.take k) = z := ⟨_, rfl⟩
      obtain ⟨s, hs⟩ : ∃ s, shareF (spaceF re) = s := ⟨_, rfl⟩
      have Hm := Lib.hid (load_k hp hz hs)
      have hz1 := loadP_part_bd (l := l) (by rw [Hn.out]; exact hle) k
      have hz2 := shareF_bd (spaceF re)
      rw [hz] at hz1 ⊢
      have C2 := Lib.hid (share_space re)
      rw [hs] at hz2 C2
      clear hz hs hp
      have b0 : (0 : Int) ≤ (k : Int) := by omega
      have b1 : (k : Int) < (n : Int) := by omega
      go_wp2_with (first
        | (go_at_call 116; refine (space_any re _).mono ?_; rintro e w' ⟨rfl, rfl⟩)
        | (go_at_call 115; refine (C2.out _).mono ?_; rintro e w' ⟨rfl, rfl⟩))
      go_roundw
      case rel => exact ⟨k + 1, by omega, by go_num, by rw [Hm.out], Hb.out.alloc Hb.out.size _⟩
      case measure => simp [intOf]; omega
    · have hkn : k = n := by omega
      subst hkn
      have hall := load_all Hn.out
      rw [hall]
      clear hall
      go_wp2
      go_ret
      exact ⟨rfl, Hb.out⟩
set_option maxRecDepth 100000 in
theorem RLoad_any (A : Option Addr) (n c : Nat) (l : List Pol) (w : World) (hn : l.length = n) (hle : n ≤ 4096) (hs : PolsAt w A l) :
    Calls Tryz.prog 82 #[.slice A n c] w fun e w' => e = .returned (.int .i64 (loadP l)) ∧ Below w.heap.size w w' := by
  have Hs := Lib.hid hs; have Hn := Lib.hid hn; have Hle := Lib.hid hle
  clear hs hn
  go_enter Tryz.func82, Tryz.ntmps82
  go_wp2
  go_loopw [3, 4] (fun x i wr => ∃ k : Nat, k ≤ n ∧ i = .int .i64 k ∧ x = .int .i64 (loadP (l.take k)) ∧ Below w.heap.size w wr) (fun _ i _ => n - (intOf i).toNat)
  case atStart => exact ⟨0, by omega, rfl, rfl, Below.refl _ _⟩
  case round =>
    obtain ⟨k, hk, rfl, rfl, hb⟩ := hrel
    have Hb := Lib.hid hb
    clear hb
    by_cases hlt : k < n
    · obtain ⟨g, o, ⟨re, we, li, bu⟩, rfl, hp, hat⟩ := Hs.out.get (k := k) (by rw [Hn.out]; exact hlt)
      have hld := (hat.below Hb.out).1
      clear hat
      simp only at hld
      obtain ⟨z, hz⟩ : ∃ z, loadP (l.take k) = z := ⟨_, rfl⟩
      obtain ⟨s, hs⟩ : ∃ s, shareF (spaceF re) = s := ⟨_, rfl⟩
      have Hm := Lib.hid (load_k hp hz hs)
      have hz1 := loadP_part_bd (l := l) (by rw [Hn.out]; exact hle) k
      have hz2 := shareF_bd (spaceF re)
      rw [hz] at hz1 ⊢
      have C2 := Lib.hid (rshare_space re)
      rw [hs] at hz2 C2
      clear hz hs hp
      have b0 : (0 : Int) ≤ (k : Int) := by omega
      have b1 : (k : Int) < (n : Int) := by omega
      go_wp2_with (first
        | (go_at_call 109; refine (refSpace_any re _).mono ?_; rintro e w' ⟨rfl, rfl⟩)
        | (go_at_call 108; refine (C2.out _).mono ?_; rintro e w' ⟨rfl, rfl⟩))
      go_roundw
      case rel => exact ⟨k + 1, by omega, by go_num, by rw [Hm.out], Hb.out⟩
      case measure => simp [intOf]; omega
    · have hkn : k = n := by omega
      subst hkn
      have hall := load_all Hn.out
      rw [hall]
      clear hall
      go_wp2
      go_ret
      exact ⟨rfl, Hb.out⟩
set_option maxRecDepth 100000 in
theorem allRight_any (A : Option Addr) (n c : Nat) (l : List Pol) (w : World) (hn : l.length = n) (hle : n ≤ 4096) (hs : PolsAt w A l) :
    Calls Tryz.prog 95 #[.slice A n c] w fun e w' => e = .returned (.bool (allP l)) ∧ Below w.heap.size w w' := by
  have Hs := Lib.hid hs; have Hn := Lib.hid hn; have Hle := Lib.hid hle
  clear hs hn
  go_enter Tryz.func95, Tryz.ntmps95
  go_wp2
  go_loopw [7] (fun i wr => ∃ k : Nat, k ≤ n ∧ i = .int .i64 k ∧ allP (l.take k) = true ∧ Below w.heap.size w wr) (fun i _ => n - (intOf i).toNat)
  case atStart => exact ⟨0, by omega, rfl, rfl, Below.refl _ _⟩
  case round =>
    obtain ⟨k, hk, rfl, hall, hb⟩ := hrel
    have Hb := Lib.hid hb; have Hall := Lib.hid hall
    clear hb hall
    by_cases hlt : k < n
    · obtain ⟨g, o, p, rfl, hp, hat⟩ := Hs.out.get (k := k) (by rw [Hn.out]; exact hlt)
      have hld := ldPol_run (hat.below Hb.out)
      have Hin := Lib.hid hat.2.2.2.2
      have C := Lib.hid (Right_any p)
      obtain ⟨r, hr⟩ : ∃ r, rightP p = r := ⟨_, rfl⟩
      rw [hr] at C
      have Hr := Lib.hid hr; have Hp := Lib.hid hp
      clear hat hr hp
      have b0 : (0 : Int) ≤ (k : Int) := by omega
      have b1 : (k : Int) < (n : Int) := by omega
      obtain ⟨re, we, li, bu⟩ := p
      simp only at hld C
      obtain ⟨w2, hw2⟩ : ∃ w2, wr.alloc (.cells #[.int .i64 re, .int .i64 we, .int .i64 li, .int .i64 bu] 36) = w2 := ⟨_, rfl⟩
      have hld2 : (ldPol (.pointer (some ⟨wr.heap.size, 0, none⟩))).run Tryz.prog w2 = _ := ldPol_run (p := ⟨re, we, li, bu⟩) (by rw [← hw2]; exact pol_of_row (heap_alloc_new _ _) Hin.out)
      have Hb2 := Lib.hid (show Below w.heap.size w w2 by rw [← hw2]; exact Hb.out.alloc Hb.out.size _)
      simp only at hld2
      cases r with
      | true =>
        go_wp2_with (go_at_call 85; refine (C.out _).mono ?_; rintro e w' ⟨rfl, hb3⟩; have Hb3 := Lib.hid (Hb2.out.trans (hb3.mono Hb2.out.size)); clear hb3)
        go_roundw
        case rel => exact ⟨k + 1, by omega, by go_num, allP_more Hp.out Hall.out Hr.out, Hb3.out⟩
        case measure => simp [intOf]; omega
      | false =>
        go_wp2_with (go_at_call 85; refine (C.out _).mono ?_; rintro e w' ⟨rfl, hb3⟩; have Hb3 := Lib.hid (Hb2.out.trans (hb3.mono Hb2.out.size)); clear hb3)
        go_ret
        exact ⟨bool_eq (allP_no Hp.out Hr.out).symm, Hb3.out⟩
    · have hkn : k = n := by omega
      subst hkn
      go_wp2
      go_ret
      exact ⟨bool_eq (by have h := Hall.out; rw [List.take_of_length_le (by have := Hn.out; omega)] at h; exact h.symm), Hb.out⟩
end Go.Proofs.YtmdmpliiiecmlaaGreat
end

section
namespace Go.Proofs.YtmdmpliiiecmlaaGreat
open Go.ChangeShapes Go.WideShapes Go.ChangeAt Go.RowKit
set_option linter.unusedVariables false

theorem admitsP_eq (picks : Int) (l : List Pol) {n : Nat} (hn : l.length = n) : admitsP picks l = (decide (1 ≤ picks ∧ picks ≤ 64) && decide (n ≤ 4096) && allP l && decide (loadP l ≤ picks * 16777216)) := by rw [← hn]; rfl

set_option maxRecDepth 100000 in
set_option maxHeartbeats 2000000 in
theorem Admits_any (picks : Int) (A : Option Addr) (n c : Nat) (l : List Pol) (w : World) (hn : l.length = n) (hm : n ≤ maxLen) (hs : PolsAt w A l) (h1 : In64 picks) :
    Calls Tryz.prog 59 #[.int .i64 picks, .slice A n c] w fun e w' => e = .returned (.bool (admitsP picks l)) ∧ Below w.heap.size w w' := by
  unfold maxLen at hm
  obtain ⟨i1, i2⟩ := h1
  rw [admitsP_eq picks l hn]
  by_cases hp : 1 ≤ picks ∧ picks ≤ 64
  · rw [decide_eq_true hp]
    have C1 := Lib.hid (fun w => within_any picks 1 64 w)
    simp only [decide_eq_true hp] at C1
    obtain ⟨p1, p2⟩ := hp
    by_cases hle : n ≤ 4096
    · rw [decide_eq_true hle]
      have C2 := Lib.hid (fun w' (hb : Below w.heap.size w w') => allRight_any A n c l w' hn hle (hs.below hb))
      have C3 := Lib.hid (fun w' (hb : Below w.heap.size w w') => Load_any A n c l w' hn hle (hs.below hb))
      obtain ⟨z, hz⟩ : ∃ z, loadP l = z := ⟨_, rfl⟩
      have hz1 := loadP_bd l
      have hz2 : 0 ≤ z ∧ z ≤ 4503599627370496 := by rw [hz] at hz1; omega
      rw [hz] at C3 ⊢
      have hle' : (n : Int) ≤ 4096 := by omega
      clear hz hz1 hs hn hle
      obtain ⟨r, hr⟩ : ∃ r, allP l = r := ⟨_, rfl⟩
      rw [hr] at C2 ⊢
      clear hr
      cases r with
      | false =>
        go_enter Tryz.func59, Tryz.ntmps59
        go_wp2_with (first
          | (go_at_call 94; refine (C1.out _).mono ?_; rintro e w1 ⟨rfl, rfl⟩)
          | (go_at_call 95; refine (C2.out _ (Below.refl _ _)).mono ?_; rintro e w2 ⟨rfl, hb2⟩; have Hb2 := Lib.hid hb2; clear hb2))
        go_ret
        exact ⟨rfl, Hb2.out⟩
      | true =>
        by_cases hl : z ≤ picks * 16777216
        · rw [decide_eq_true hl]
          go_enter Tryz.func59, Tryz.ntmps59
          go_wp2_with (first
            | (go_at_call 94; refine (C1.out _).mono ?_; rintro e w1 ⟨rfl, rfl⟩)
            | (go_at_call 95; refine (C2.out _ (Below.refl _ _)).mono ?_; rintro e w2 ⟨rfl, hb2⟩; have Hb2 := Lib.hid hb2; clear hb2)
            | (go_at_call 96; refine (C3.out _ Hb2.out).mono ?_; rintro e w3 ⟨rfl, hb3⟩; have Hb3 := Lib.hid (Hb2.out.trans (hb3.mono Hb2.out.size)); clear hb3))
          go_ret
          exact ⟨rfl, Hb3.out⟩
        · rw [decide_eq_false hl]
          go_enter Tryz.func59, Tryz.ntmps59
          go_wp2_with (first
            | (go_at_call 94; refine (C1.out _).mono ?_; rintro e w1 ⟨rfl, rfl⟩)
            | (go_at_call 95; refine (C2.out _ (Below.refl _ _)).mono ?_; rintro e w2 ⟨rfl, hb2⟩; have Hb2 := Lib.hid hb2; clear hb2)
            | (go_at_call 96; refine (C3.out _ Hb2.out).mono ?_; rintro e w3 ⟨rfl, hb3⟩; have Hb3 := Lib.hid (Hb2.out.trans (hb3.mono Hb2.out.size)); clear hb3))
          go_ret
          exact ⟨bool_eq (by simp <;> omega), Hb3.out⟩
    · rw [decide_eq_false hle]
      have hle' : ¬ (n : Int) ≤ 4096 := by omega
      go_enter Tryz.func59, Tryz.ntmps59
      go_wp2_with (go_at_call 94; refine (C1.out _).mono ?_; rintro e w1 ⟨rfl, rfl⟩)
      go_ret
      exact ⟨bool_eq (by simp <;> omega), Below.refl _ _⟩
  · rw [decide_eq_false hp]
    have C1 := Lib.hid (fun w => within_any picks 1 64 w)
    simp only [decide_eq_false hp] at C1
    clear hp
    go_enter Tryz.func59, Tryz.ntmps59
    go_wp2_with (go_at_call 94; refine (C1.out _).mono ?_; rintro e w1 ⟨rfl, rfl⟩)
    go_ret
    exact ⟨rfl, Below.refl _ _⟩

attribute [local go_sem ↓] ldPol_eq
set_option maxRecDepth 100000 in
set_option maxHeartbeats 2000000 in
theorem RAdmits_any (picks : Int) (A : Option Addr) (n c : Nat) (l : List Pol) (w : World) (hn : l.length = n) (hm : n ≤ maxLen) (hs : PolsAt w A l) (h1 : In64 picks) :
    Calls Tryz.prog 50 #[.int .i64 picks, .slice A n c] w fun e w' => e = .returned (.bool (admitsP picks l)) ∧ Below w.heap.size w w' := by
  unfold maxLen at hm
  obtain ⟨i1, i2⟩ := h1
  rw [admitsP_eq picks l hn]
  by_cases hp : picks < 1
  · rw [decide_eq_false (show ¬ (1 ≤ picks ∧ picks ≤ 64) by omega)]
    go_enter Tryz.func50, Tryz.ntmps50
    go_wp2
    go_ret
    exact ⟨rfl, Below.refl _ _⟩
  by_cases hq : 64 < picks
  · rw [decide_eq_false (show ¬ (1 ≤ picks ∧ picks ≤ 64) by omega)]
    go_enter Tryz.func50, Tryz.ntmps50
    go_wp2
    go_ret
    exact ⟨rfl, Below.refl _ _⟩
  rw [decide_eq_true (show 1 ≤ picks ∧ picks ≤ 64 by omega)]
  by_cases hle : 4096 < n
  · rw [decide_eq_false (show ¬ n ≤ 4096 by omega)]
    have hle' : 4096 < (n : Int) := by omega
    go_enter Tryz.func50, Tryz.ntmps50
    go_wp2
    go_ret
    exact ⟨rfl, Below.refl _ _⟩
  have hle2 : n ≤ 4096 := by omega
  rw [decide_eq_true hle2]
  have hle' : ¬ 4096 < (n : Int) := by omega
  have C3 := Lib.hid (fun w' (hb : Below w.heap.size w w') => RLoad_any A n c l w' hn hle2 (hs.below hb))
  obtain ⟨z, hz⟩ : ∃ z, loadP l = z := ⟨_, rfl⟩
  have hz1 := loadP_bd l
  have hz2 : 0 ≤ z ∧ z ≤ 4503599627370496 := by rw [hz] at hz1; omega
  rw [hz] at C3 ⊢
  have Hs := Lib.hid hs; have Hn := Lib.hid hn; have Hle := Lib.hid hle2
  clear hz hz1 hs hn hle hle2
  go_enter Tryz.func50, Tryz.ntmps50
  go_wp2
  go_loopw [5] (fun i wr => ∃ k : Nat, k ≤ n ∧ i = .int .i64 k ∧ allP (l.take k) = true ∧ Below w.heap.size w wr) (fun i _ => n - (intOf i).toNat)
  case atStart => exact ⟨0, by omega, rfl, rfl, Below.refl _ _⟩
  case round =>
    obtain ⟨k, hk, rfl, hall, hb⟩ := hrel
    have Hb := Lib.hid hb; have Hall := Lib.hid hall
    clear hb hall
    by_cases hlt : k < n
    · obtain ⟨g, o, p, rfl, hp, hat⟩ := Hs.out.get (k := k) (by rw [Hn.out]; exact hlt)
      have hld := ldPol_run (hat.below Hb.out)
      have C := Lib.hid (RRight_any p)
      obtain ⟨r, hr⟩ : ∃ r, rightP p = r := ⟨_, rfl⟩
      rw [hr] at C
      have Hr := Lib.hid hr; have Hp := Lib.hid hp
      clear hat hr hp
      have b0 : (0 : Int) ≤ (k : Int) := by omega
      have b1 : (k : Int) < (n : Int) := by omega
      obtain ⟨re, we, li, bu⟩ := p
      simp only at hld C
      cases r with
      | true =>
        go_wp2_with (go_at_call 44; refine (C.out _).mono ?_; rintro e w' ⟨rfl, hb3⟩; have Hb3 := Lib.hid (Hb.out.trans (hb3.mono Hb.out.size)); clear hb3)
        go_roundw
        case rel => exact ⟨k + 1, by omega, by go_num, allP_more Hp.out Hall.out Hr.out, Hb3.out⟩
        case measure => simp [intOf]; omega
      | false =>
        go_wp2_with (go_at_call 44; refine (C.out _).mono ?_; rintro e w' ⟨rfl, hb3⟩; have Hb3 := Lib.hid (Hb.out.trans (hb3.mono Hb.out.size)); clear hb3)
        go_ret
        exact ⟨bool_eq (by have h := allP_no Hp.out Hr.out; simp [h]), Hb3.out⟩
    · have hkn : k = n := by omega
      subst hkn
      have hall := Hall.out
      rw [List.take_of_length_le (by have := Hn.out; omega)] at hall
      have Hall2 := Lib.hid hall
      clear hall
      by_cases hl : z ≤ picks * 16777216
      · have hl2 : z ≤ 16777216 * picks := by omega
        clear hl
        go_wp2_with (go_at_call 82; refine (C3.out _ Hb.out).mono ?_; rintro e w3 ⟨rfl, hb3⟩; have Hb3 := Lib.hid (Hb.out.trans (hb3.mono Hb.out.size)); clear hb3)
        go_ret
        exact ⟨bool_eq (by have h := Hall2.out; simp [h] <;> omega), Hb3.out⟩
      · have hl2 : ¬ z ≤ 16777216 * picks := by omega
        clear hl
        go_wp2_with (go_at_call 82; refine (C3.out _ Hb.out).mono ?_; rintro e w3 ⟨rfl, hb3⟩; have Hb3 := Lib.hid (Hb.out.trans (hb3.mono Hb.out.size)); clear hb3)
        go_ret
        exact ⟨bool_eq (by have h := Hall2.out; simp [h] <;> omega), Hb3.out⟩
end Go.Proofs.YtmdmpliiiecmlaaGreat
end

section
namespace Go.Proofs.YtmdmpliiiecmlaaGreat
open Go.ChangeShapes Go.WideShapes Go.ChangeAt Go.RowKit
set_option linter.unusedVariables false

theorem Vwithin (n a b : Int) (w : World) :
    Calls Tryz.prog 66 #[.int .i64 n, .int .i64 a, .int .i64 b] w fun e w' => e = .returned (.bool (decide (a ≤ n ∧ n ≤ b))) ∧ w = w' := by
  by_cases h1 : a ≤ n
  · by_cases h2 : n ≤ b
    · go_enter Tryz.func66, Tryz.ntmps66
      go_wp2
      go_ret
      exact ⟨bool_eq (by simp <;> omega), rfl⟩
    · go_enter Tryz.func66, Tryz.ntmps66
      go_wp2
      go_ret
      exact ⟨bool_eq (by simp <;> omega), rfl⟩
  · go_enter Tryz.func66, Tryz.ntmps66
    go_wp2
    go_ret
    exact ⟨bool_eq (by simp <;> omega), rfl⟩
theorem Vcount (b : Int) (w : World) (h0 : 0 ≤ b) (h1 : b ≤ 512) : Calls Tryz.prog 73 #[.int .i64 b] w fun e w' => e = .returned (.int .i64 (countF b)) ∧ w = w' := by
  go_enter Tryz.func73, Tryz.ntmps73
  go_wp2
  go_ret
  exact ⟨int_eq (by unfold countF; omega), rfl⟩
theorem VareBlocks (b : Int) (w : World) : Calls Tryz.prog 84 #[.int .i64 b] w fun e w' => e = .returned (.bool (areB b)) ∧ w = w' := by
  have C := Lib.hid (fun w => Vwithin b 1 512 w)
  unfold areB
  go_enter Tryz.func84, Tryz.ntmps84
  go_wp2_with (go_at_call 66; refine (C.out _).mono ?_; rintro e w' ⟨rfl, rfl⟩)
  go_ret
  exact ⟨bool_eq (by simp), rfl⟩
theorem cap_eq (b : Int) : admitsP b [] = decide (1 ≤ b ∧ b ≤ 64) := by
  have h1 : allP [] = true := rfl
  have h2 : loadP [] = 0 := rfl
  unfold admitsP
  rw [h1, h2]
  by_cases h : 1 ≤ b ∧ b ≤ 64
  · rw [decide_eq_true h, decide_eq_true (show (0 : Int) ≤ b * 16777216 by omega)]
    rfl
  · rw [decide_eq_false h]
    rfl
theorem VisCapacity (b : Int) (w : World) (h : In64 b) : Calls Tryz.prog 83 #[.int .i64 b] w fun e w' => e = .returned (.bool (decide (1 ≤ b ∧ b ≤ 64))) ∧ Below w.heap.size w w' := by
  have C := Lib.hid (fun w => Admits_any b none 0 0 [] w rfl (Nat.zero_le _) (PolsAt.nil w none) h)
  rw [cap_eq] at C
  go_enter Tryz.func83, Tryz.ntmps83
  go_wp2_with (go_at_call 59; refine (C.out _).mono ?_; rintro e w' ⟨rfl, hb⟩; have Hb := Lib.hid hb; clear hb)
  go_ret
  exact ⟨bool_eq (by simp), Hb.out⟩

/-! ### a server, a volume -/
theorem VisServer (g : Nat) (s : St) (a : Int) (w : World) (h : StAt w g s) : Calls Tryz.prog 92 #[.pointer (some ⟨g, 0, none⟩), .int .i64 a] w fun e w' => e = .returned (.bool (isSrv s a)) ∧ w = w' := by
  obtain ⟨cs, K, X, h⟩ := h
  have C := Lib.hid (fun w => Vwithin a 0 15 w)
  unfold isSrv
  by_cases ha : 0 ≤ a ∧ a ≤ 15
  · rw [decide_eq_true ha] at C ⊢
    obtain ⟨n, rfl⟩ := Int.eq_ofNat_of_zero_le ha.1
    have hn : n < 16 := by omega
    have c0 : w.cell? ⟨g, n, none⟩ = some (.int .i64 (s.pk n)) := by rw [h.cell]; exact h.pk n hn
    have hn0 : (0 : Int) ≤ (n : Int) := by omega
    have hn1 : (n : Int) < 16 := by omega
    have et : ((n : Int).toNat) = n := by omega
    rw [et]
    obtain ⟨x, hx⟩ : ∃ x, s.pk n = x := ⟨_, rfl⟩
    rw [hx] at c0 ⊢
    clear ha hx et h
    by_cases hp : 0 < x
    · have hd : decide (0 < x) = true := decide_eq_true hp
      rw [hd]
      go_enter Tryz.func92, Tryz.ntmps92
      go_wp2_with (go_at_call 66; refine (C.out _).mono ?_; rintro e w' ⟨rfl, rfl⟩)
      go_ret
      exact ⟨rfl, rfl⟩
    · have hd : decide (0 < x) = false := decide_eq_false hp
      rw [hd]
      go_enter Tryz.func92, Tryz.ntmps92
      go_wp2_with (go_at_call 66; refine (C.out _).mono ?_; rintro e w' ⟨rfl, rfl⟩)
      go_ret
      exact ⟨rfl, rfl⟩
  · rw [decide_eq_false ha] at C ⊢
    clear ha h
    go_enter Tryz.func92, Tryz.ntmps92
    go_wp2_with (go_at_call 66; refine (C.out _).mono ?_; rintro e w' ⟨rfl, rfl⟩)
    go_ret
    exact ⟨rfl, rfl⟩
theorem Vvolume_yes (g : Nat) (s : St) (a : Nat) (w : World) (h : StAt w g s) (hv : isVol s a = true) :
    Calls Tryz.prog 29 #[.pointer (some ⟨g, 0, none⟩), .int .i64 (a : Int)] w fun e w' => e = .returned (.tuple #[.pointer (some ⟨g, 16 + a * 7, none⟩), .bool true]) ∧ w = w' := by
  obtain ⟨cs, K, X, h⟩ := h
  have C := Lib.hid (fun w => Vwithin a 0 63 w)
  simp only [isVol, Bool.and_eq_true, decide_eq_true_eq, Int.toNat_natCast] at hv
  obtain ⟨ha, hb⟩ := hv
  rw [decide_eq_true ha] at C
  have hn : a < 64 := by omega
  have c0 : w.cell? ⟨g, 16 + a * 7, none⟩ = some (.int .i64 (s.vs a).bl) := by rw [h.cell]; exact h.c0 a hn
  have hn0 : (0 : Int) ≤ (a : Int) := by omega
  have hn1 : (a : Int) < 64 := by omega
  obtain ⟨x, hx⟩ : ∃ x, (s.vs a).bl = x := ⟨_, rfl⟩
  rw [hx] at c0 hb
  have hd : (x == 0) = false := by simpa using hb
  clear ha hx h hb
  go_enter Tryz.func29, Tryz.ntmps29
  go_wp2_with (go_at_call 66; refine (C.out _).mono ?_; rintro e w' ⟨rfl, rfl⟩)
  go_ret2
  exact ⟨rfl, rfl⟩
theorem Vvolume_no (g : Nat) (s : St) (a : Int) (w : World) (h : StAt w g s) (hv : isVol s a = false) :
    Calls Tryz.prog 29 #[.pointer (some ⟨g, 0, none⟩), .int .i64 a] w fun e w' => e = .returned (.tuple #[.pointer none, .bool false]) ∧ w = w' := by
  obtain ⟨cs, K, X, h⟩ := h
  have C := Lib.hid (fun w => Vwithin a 0 63 w)
  unfold isVol at hv
  by_cases ha : 0 ≤ a ∧ a ≤ 63
  · rw [decide_eq_true ha] at C
    obtain ⟨n, rfl⟩ := Int.eq_ofNat_of_zero_le ha.1
    have hn : n < 64 := by omega
    have c0 : w.cell? ⟨g, 16 + n * 7, none⟩ = some (.int .i64 (s.vs n).bl) := by rw [h.cell]; exact h.c0 n hn
    have hn0 : (0 : Int) ≤ (n : Int) := by omega
    have hn1 : (n : Int) < 64 := by omega
    simp only [decide_eq_true ha, Bool.true_and, decide_eq_false_iff_not, Int.toNat_natCast, ne_eq, Decidable.not_not] at hv
    rw [hv] at c0
    clear ha h hv
    go_enter Tryz.func29, Tryz.ntmps29
    go_wp2_with (go_at_call 66; refine (C.out _).mono ?_; rintro e w' ⟨rfl, rfl⟩)
    go_ret2
    exact ⟨rfl, rfl⟩
  · rw [decide_eq_false ha] at C
    clear ha h hv
    go_enter Tryz.func29, Tryz.ntmps29
    go_wp2_with (go_at_call 66; refine (C.out _).mono ?_; rintro e w' ⟨rfl, rfl⟩)
    go_ret2
    exact ⟨rfl, rfl⟩
end Go.Proofs.YtmdmpliiiecmlaaGreat
end

section
namespace Go.Proofs.YtmdmpliiiecmlaaGreat
open Go.ChangeShapes Go.WideShapes Go.ChangeAt Go.RowKit
set_option linter.unusedVariables false

theorem int_info : (Tryz.prog.info? 3).map (fun i => (i.zero, i.size, i.bytes)) = some (some (.int .i64 0), 1, 8) := by kernel_rfl
section
variable {P : Program} {w : World}
theorem wpList_app3 {ops : Array Oper} {rest : List Oper} {o : Oper} {a : Act} {Q : Exit → Act → World → Prop} (hgd : o.guard = none) (s x : Operand) (t : TypeId)
    (ho : o.op = .call { callee := .builtin .append, args := #[s, x], argTypes := #[t, t] })
    (e : TypeId) (z : Value) (size bytes : Nat) (ht : P.underlying t = some (.slice e)) (hinfo : (P.info? e).map (fun i => (i.zero, i.size, i.bytes)) = some (some z, size, bytes)) (hz1 : z.cells.size = size) (hsz : 0 < size)
    (base : Nat) (A : Option Addr) (n c : Nat) (xs : List Value) (hs : a.eval s = .slice A n c) (hown : w.ownsRow base e size (.slice A n c) n xs)
    (g2 o2 m c2 : Nat) (news : List Value) (hx : a.eval x = .slice (some ⟨g2, o2, none⟩) m c2) (hm : news.length = m * size) (hsee : Seen w (some ⟨g2, o2, none⟩) news) (h1 : ∀ u ∈ news, u.oneCell' = true)
    (h63 : n + m ≤ maxLen) (hbytes : (n + m) * bytes ≤ 140737488355328) (hbase : base ≤ w.heap.size)
    (h : ∀ A' c' w', w'.ownsRow base e size (.slice A' (n + m) c') (n + m) (xs ++ news) → w.grownBy w' (Value.slice A n c).ownBlock → (∀ k, (Value.slice A' (n + m) c').ownBlock = some k → (Value.slice A n c).ownBlock = some k ∨ k = w.heap.size) →
      wpList P ops Q rest (a.put o.dst (.slice A' (n + m) c')) w') : wpList P ops Q (o :: rest) a w :=
  wpList_plain hgd fun K hK => by
    obtain ⟨i, hi, hz, hss, hb⟩ := info_parts hinfo
    have hcells : ∀ (j : Nat) u, news[j]? = some u → w.cell? ((⟨g2, o2, none⟩ : Addr).add j) = some u := by
      intro j u hu
      rcases hsee with rfl | ⟨g, o, hA, hc⟩
      · simp at hu
      · injection hA with hA
        rw [hA, Addr.add_lit]
        exact hc j u hu
    obtain ⟨v', w', hrun, hown', hg, _, hblk⟩ := run_append_own_at (P := P) w base t o.type e i z size bytes ht hi hz hss hb hz1 hsz _ n xs hown ⟨g2, o2, none⟩ m c2 news hm hcells h1 h63 hbytes hbase
    obtain ⟨A', c', rfl⟩ := own_formM hown'
    unfold Oper.wp execOp
    simp only [ho, resolve, invoke, builtin, Sem.run_bind, Sem.run_pure, Result.andThen_ok, List.map_toArray, List.map_cons, List.map_nil, hs, hx, hrun]
    refine hK _ _ (h A' c' w' hown' hg fun k hk => ?_)
    rcases hblk with h | h
    · exact .inl (by rw [← h]; exact hk)
    · rw [h] at hk
      injection hk with hk
      exact .inr hk.symm
end

/-- the numbers of chunks -/
def idsK (l : List Chk) : List Int := l.map (·.id)
theorem idsK_more {l : List Ck} {i : Nat} {k : Ck} (h : l[i]? = some k) : idsK ((l.take (i + 1)).map Ck.dat) = idsK ((l.take i).map Ck.dat) ++ [k.id] := by
  obtain ⟨hk, rfl⟩ := List.getElem?_eq_some_iff.1 h
  unfold idsK
  rw [List.take_succ_eq_append_getElem hk, List.map_append, List.map_append]
  rfl
attribute [local go_sem ↓] ldCk_eq
set_option maxRecDepth 100000 in
set_option maxHeartbeats 1000000 in
theorem Vnumbers_at (g q : Nat) (S : Sl) (X : List Ck) (w : World) (hc : w.cell? ⟨g, q + 6, none⟩ = some (.slice S.A S.n S.c)) (hk : KsT w S X) (hl : X.length ≤ 64) :
    Calls Tryz.prog 30 #[.pointer (some ⟨g, q, none⟩)] w (OwnRet 3 (numsV (idsK (X.map Ck.dat))) w) := by
  obtain ⟨A0, n, c0⟩ := S
  simp only at hc
  have hlen := hk.len
  simp only at hlen
  have Hk := Lib.hid hk; have Hn := Lib.hid hlen
  have hn6 : n ≤ 64 := by omega
  clear hk hlen hl
  go_enter Tryz.func30, Tryz.ntmps30
  go_wp2
  go_loopw [3, 11] (fun sv iv wr => ∃ (i : Nat) (A' : Option Addr) (c' : Nat), i ≤ n ∧ iv = .int .i64 (i : Int) ∧ sv = .slice A' i c' ∧ wr.ownsRow w.heap.size 3 1 (.slice A' i c') i (numsV (idsK ((X.take i).map Ck.dat))) ∧ Below w.heap.size w wr) (fun _ iv _ => n - (intOf iv).toNat)
  case atStart => exact ⟨0, _, _, by omega, rfl, rfl, World.ownsRow_nil _ _ _ _, Below.refl _ _⟩
  case round =>
    obtain ⟨i, A', c', hin, rfl, rfl, ho, hb⟩ := hrel
    by_cases hi : i < n
    · obtain ⟨k, hx⟩ : ∃ r, X[i]? = some r := ⟨_, List.getElem?_eq_getElem (by have := Hn.out; omega)⟩
      obtain ⟨g1, o1, hA, hat⟩ := (Hk.out.below hb).get hx
      simp only at hA
      subst hA
      have hld := ldCk_run hat
      obtain ⟨Wa, hWa, hba, hrow⟩ := ck_box wr k
      have d0 : Wa.cell? ⟨wr.heap.size, 0, none⟩ = some (.int .i64 k.id) := row_cell hrow 0
      obtain ⟨Wb, hWb⟩ : ∃ Wb, Wa.alloc (.cells #[.int .i64 k.id] 3) = Wb := ⟨_, rfl⟩
      have hbb : Below wr.heap.size wr Wb := by rw [← hWb]; exact hba.trans (((Below.refl _ _).alloc (Nat.le_refl _) _).mono hba.size)
      have hsb : Seen Wb (some ⟨Wa.heap.size, 0, none⟩) [.int .i64 k.id] := by rw [← hWb]; exact Seen.of_cells (heap_alloc_new Wa _)
      have Ho := Lib.hid (own_belowM ho hbb); have Hb := Lib.hid (hb.trans (hbb.mono hb.size)); have Hsb := Lib.hid hsb; have Hx := Lib.hid hx
      have i0 : (0 : Int) ≤ (i : Int) := by omega
      have i1 : (i : Int) < (n : Int) := by omega
      clear ho hb hba hbb hsb hx hat hrow
      go_wp2_with (at_builtin; refine wpList_app2 rfl (.tmp 15) (.tmp 18) _ rfl 3 _ 8 Tryz.underlying27 int_info rfl w.heap.size A' i c' (numsV (idsK ((X.take i).map Ck.dat))) rfl Ho.out (some ⟨Wa.heap.size, 0, none⟩) 1 1 [.int .i64 k.id] rfl rfl Hsb.out (fun u hu => by simp at hu; subst hu; rfl) (by unfold maxLen; omega) (by omega) Hb.out.size ?_; intro A4 c4 w4 hown4 hg4 hbk4; have Hown4 := Lib.hid hown4; have Hg4 := Lib.hid hg4; clear hown4 hg4 hbk4)
      go_roundw
      case rel =>
        have tg : Turned (fun k => (Value.slice A' i c').ownBlock = some k) Wb w4 := Turned.of_grown Hg4.out fun k e => e
        refine ⟨i + 1, A4, c4, by omega, by go_num, rfl, ?_, ?_⟩
        · have := Hown4.out
          rw [idsK_more Hx.out, numsV_append]
          exact this
        · exact Hb.out.trans (tg.below (fun k e => (Ho.out.lt k e).1) Hb.out.size)
      case measure => simp [intOf]; omega
    · obtain rfl : i = n := by omega
      have i1 : ¬ (i : Int) < (i : Int) := by omega
      have hty : X.take i = X := List.take_of_length_le (by rw [Hn.out]; exact Nat.le_refl _)
      rw [hty] at ho
      have Ho := Lib.hid ho; have Hb := Lib.hid hb
      clear ho hb hty
      go_wp2
      go_ret
      have el : (numsV (idsK (X.map Ck.dat))).length = i := by simp [numsV, idsK, Hn.out]
      unfold OwnRet
      rw [el]
      exact ⟨A', c', rfl, Ho.out, Hb.out⟩
theorem Vnumbers (g i : Nat) (s : St) (w : World) (h : StAt w g s) (hi : i < 64) (hl : (s.vs i).ks.length ≤ 64) :
    Calls Tryz.prog 30 #[.pointer (some ⟨g, 16 + i * 7, none⟩)] w (OwnRet 3 (numsV (idsK (s.vs i).ks)) w) := by
  obtain ⟨cs, K, X, h⟩ := h
  have := Vnumbers_at g (16 + i * 7) (K i) (X i) w (by rw [h.cell]; exact h.c6 i hi) (h.ks i hi) (by have := h.dat i hi; rw [← this] at hl; simpa using hl)
  rwa [h.dat i hi] at this
end Go.Proofs.YtmdmpliiiecmlaaGreat
end

section
namespace Go.Proofs.YtmdmpliiiecmlaaGreat
open Go.ChangeShapes Go.WideShapes Go.ChangeAt Go.RowKit
set_option linter.unusedVariables false

/-- a call's own row of elements of several cells, n of them -/
def OwnRetM (e : TypeId) (size n : Nat) (xs : List Value) (w : World) (en : Ending) (w' : World) : Prop :=
  ∃ A c, en = .returned (.slice A n c) ∧ w'.ownsRow w.heap.size e size (.slice A n c) n xs ∧ Below w.heap.size w w'
def pkL (s : St) : List Value := (List.range 16).map fun i => .int .i64 (s.pk i)
theorem pkL_get (s : St) {i : Nat} (hi : i < 16) : (pkL s)[i]? = some (.int .i64 (s.pk i)) := by
  unfold pkL
  rw [List.getElem?_map, List.getElem?_range hi]
  rfl
theorem pkL_length (s : St) : (pkL s).length = 16 := by simp [pkL]
theorem pk_info : (Tryz.prog.info? 56).map (·.size) = some 16 := by kernel_rfl
/-- the capacities as an array -/
def pkA (s : St) : Array Value := (pkL s).toArray
def ldPk (p : Value) : Sem Value := Instr.loadAt 56 p
theorem ldPk_eq (p : Value) : Instr.loadAt 56 p = ldPk p := rfl
theorem ldPk_run {w : World} {g : Nat} {cs : Array Value} {s : St} {K : Nat → Sl} {X : Nat → List Ck} (h : StC w g cs s K X) : (ldPk (.pointer (some ⟨g, 0, none⟩))).run Tryz.prog w = .ok (.agg (pkA s)) w := by
  have hr : w.rangeAt g 0 (pkL s) := fun j v hv => by
    have hj : j < 16 := by have := (List.getElem?_eq_some_iff.1 hv).1; rwa [pkL_length] at this
    rw [pkL_get s hj] at hv
    rw [Nat.zero_add, h.cell, h.pk j hj]
    exact hv
  exact run_loadAt_mid w g 0 56 (pkL s) _ hr Tryz.underlying56 rfl (by rw [pkL_length]; exact pk_info)
theorem ix_run {cs : Array Value} {i : Nat} {x : Int} (hi : i < 16) (hx : cs[i]? = some (.int .i64 x)) (w : World) : (Instr.index 56 (.agg cs) (.int .i64 (i : Int))).run Tryz.prog w = .ok (.int .i64 x) w := by
  have h1 : (0 : Int) ≤ (i : Int) ∧ (i : Int) < 16 := by omega
  have z : (Go.sizeOf 3).run Tryz.prog w = .ok 1 w := by kernel_rfl
  have hn : ¬ 16 ≤ i := by omega
  simp [Instr.index, run_underlying Tryz.underlying56, asIntOf, part, h1, hx, z, hi, go_sem]
/-- servers below n -/
def srvL (pk : Nat → Int) (n : Nat) : List Nat := (List.range n).filter fun i => decide (0 < pk i)
theorem srvL_yes {pk : Nat → Int} {n : Nat} (h : 0 < pk n) : srvL pk (n + 1) = srvL pk n ++ [n] := by simp [srvL, List.range_succ, h]
theorem srvL_no {pk : Nat → Int} {n : Nat} (h : ¬ 0 < pk n) : srvL pk (n + 1) = srvL pk n := by
  unfold srvL
  rw [List.range_succ, List.filter_append]
  simp [h]
theorem srvL_len (pk : Nat → Int) (n : Nat) : (srvL pk n).length ≤ n := by
  have := List.length_filter_le (fun i => decide (0 < pk i)) (List.range n)
  simpa [srvL] using this
def loadsV (pk : Nat → Int) (l : List Nat) : List Value := l.flatMap fun (i : Nat) => [.int .i64 (i : Int), .int .i64 (pk i)]
theorem loadsV_append (pk : Nat → Int) (a b : List Nat) : loadsV pk (a ++ b) = loadsV pk a ++ loadsV pk b := by simp [loadsV]
theorem loadsV_get (pk : Nat → Int) : ∀ {l : List Nat} {i : Nat} {p : Nat}, l[i]? = some p → (loadsV pk l)[i * 2]? = some (.int .i64 (p : Int)) ∧ (loadsV pk l)[i * 2 + 1]? = some (.int .i64 (pk p))
  | [], _, _, h => by simp at h
  | q :: r, 0, p, h => by
    simp at h
    subst h
    exact ⟨rfl, rfl⟩
  | q :: r, i + 1, p, h => by
    have := loadsV_get pk (l := r) (i := i) (p := p) (by simpa using h)
    have e1 : (i + 1) * 2 = (i * 2) + 1 + 1 := by omega
    rw [e1]
    exact this
theorem load_info : (Tryz.prog.info? 74).map (fun i => (i.zero, i.size, i.bytes)) = some (some (.agg #[.int .i64 0, .int .i64 0]), 2, 16) := by kernel_rfl
attribute [local go_sem ↓] ldPk_eq
set_option maxRecDepth 100000 in
set_option maxHeartbeats 1000000 in
theorem Servers_any (g : Nat) (s : St) (w : World) (h : StAt w g s) :
    Calls Tryz.prog 24 #[.pointer (some ⟨g, 0, none⟩)] w (OwnRetM 74 2 (serversL s.pk).length (loadsV s.pk (serversL s.pk)) w) := by
  obtain ⟨cs, K, X, h⟩ := h
  have hld := ldPk_run h
  have hix := fun i hi W => ix_run (cs := pkA s) (i := i) (x := s.pk i) hi (by unfold pkA; rw [List.getElem?_toArray]; exact pkL_get s hi) W
  have HX := Lib.hid hix
  clear h hix
  go_enter Tryz.func24, Tryz.ntmps24
  go_wp2
  go_loopw [3, 10] (fun sv iv wr => ∃ (i : Nat) (A' : Option Addr) (c' : Nat), i ≤ 16 ∧ iv = .int .i64 (i : Int) ∧ sv = .slice A' (srvL s.pk i).length c' ∧ wr.ownsRow w.heap.size 74 2 (.slice A' (srvL s.pk i).length c') (srvL s.pk i).length (loadsV s.pk (srvL s.pk i)) ∧ Below w.heap.size w wr) (fun _ iv _ => 16 - (intOf iv).toNat)
  case atStart => exact ⟨0, _, _, by omega, rfl, rfl, World.ownsRow_nil _ _ _ _, Below.refl _ _⟩
  case round =>
    obtain ⟨i, A', c', hin, rfl, rfl, ho, hb⟩ := hrel
    by_cases hi : i < 16
    · have hxi := HX.out i hi
      obtain ⟨n, hn⟩ : ∃ n, (srvL s.pk i).length = n := ⟨_, rfl⟩
      have hn6 : n ≤ 16 := by have := srvL_len s.pk i; omega
      rw [hn] at ho
      have i0 : (0 : Int) ≤ (i : Int) := by omega
      have i1 : (i : Int) < 16 := by omega
      obtain ⟨x, hx⟩ : ∃ x, s.pk i = x := ⟨_, rfl⟩
      by_cases hp : 0 < s.pk i
      · have hs := srvL_yes hp
        rw [hx] at hxi hp
        obtain ⟨Wb, hWb⟩ : ∃ Wb, wr.alloc (.cells #[.int .i64 (i : Int), .int .i64 x] 74) = Wb := ⟨_, rfl⟩
        have hbb : Below wr.heap.size wr Wb := by rw [← hWb]; exact below_box _ _
        have hsb : Seen Wb (some ⟨wr.heap.size, 0, none⟩) [.int .i64 (i : Int), .int .i64 x] := by rw [← hWb]; exact Seen.of_cells (heap_alloc_new wr _)
        have Ho := Lib.hid (own_belowM ho hbb); have Hb := Lib.hid (hb.trans (hbb.mono hb.size)); have Hsb := Lib.hid hsb; have Hs := Lib.hid hs; have Hn := Lib.hid hn; have Hx := Lib.hid hx
        clear ho hb hbb hsb hs hx
        rw [hn]
        clear hn
        go_wp2_with (at_builtin; refine wpList_app3 rfl (.tmp 16) (.tmp 20) _ rfl 74 _ 2 16 Tryz.underlying69 load_info rfl (by omega) w.heap.size A' n c' (loadsV s.pk (srvL s.pk i)) rfl Ho.out wr.heap.size 0 1 1 [.int .i64 (i : Int), .int .i64 x] rfl rfl Hsb.out (fun u hu => by simp at hu; rcases hu with rfl | rfl <;> rfl) (by unfold maxLen; omega) (by omega) Hb.out.size ?_; intro A4 c4 w4 hown4 hg4 hbk4; have Hown4 := Lib.hid hown4; have Hg4 := Lib.hid hg4; clear hown4 hg4 hbk4)
        go_roundw
        case rel =>
          have tg : Turned (fun k => (Value.slice A' n c').ownBlock = some k) Wb w4 := Turned.of_grown Hg4.out fun k e => e
          have el : (srvL s.pk (i + 1)).length = n + 1 := by rw [Hs.out, List.length_append, Hn.out]; rfl
          refine ⟨i + 1, A4, c4, by omega, by go_num, by rw [el], ?_, ?_⟩
          · have := Hown4.out
            rw [el, Hs.out, loadsV_append]
            rw [← Hx.out] at this
            exact this
          · exact Hb.out.trans (tg.below (fun k e => (Ho.out.lt k e).1) Hb.out.size)
        case measure => simp [intOf]; omega
      · have hs := srvL_no hp
        rw [hx] at hxi hp
        have Ho := Lib.hid ho; have Hb := Lib.hid hb; have Hs := Lib.hid hs; have Hn := Lib.hid hn
        clear ho hb hs hx
        rw [hn]
        clear hn
        go_wp2
        go_roundw
        case rel => exact ⟨i + 1, A', c', by omega, by go_num, by rw [Hs.out, Hn.out], by rw [Hs.out, Hn.out]; exact Ho.out, Hb.out⟩
        case measure => simp [intOf]; omega
    · obtain rfl : i = 16 := by omega
      have i1 : ¬ ((16 : Nat) : Int) < 16 := by omega
      obtain ⟨n, hn⟩ : ∃ n, (srvL s.pk 16).length = n := ⟨_, rfl⟩
      rw [hn] at ho ⊢
      have Ho := Lib.hid ho; have Hb := Lib.hid hb; have Hn := Lib.hid hn
      clear ho hb hn
      go_wp2
      go_ret
      refine ⟨A', c', ?_, ?_, Hb.out⟩
      · show _ = Ending.returned (.slice A' (srvL s.pk 16).length c')
        rw [Hn.out]; rfl
      · show World.ownsRow _ _ _ _ (.slice A' (srvL s.pk 16).length c') (srvL s.pk 16).length _
        rw [Hn.out]
        exact Ho.out
end Go.Proofs.YtmdmpliiiecmlaaGreat
end

section
namespace Go.Proofs.YtmdmpliiiecmlaaGreat
open Go.ChangeShapes Go.WideShapes Go.ChangeAt Go.RowKit
set_option linter.unusedVariables false

def ckA (k : Ck) : Value := .agg #[.int .i64 k.id, .int .i64 k.vo, .int .i64 k.ep, .slice k.m.A k.m.n k.m.c, .slice k.j.A k.j.n k.j.c]
/-- what a predicate says of chunks, from a world on -/
def PredK (fn : Nat) (lb : Array Value) (p : Chk → Bool) (X : List Ck) (w : World) : Prop :=
  ∀ W k, Below w.heap.size w W → k ∈ X → Calls Tryz.prog fn (#[ckA k] ++ lb) W fun e W' => e = .returned (.bool (p k.dat)) ∧ Below W.heap.size W W'
def IxRet (p : Chk → Bool) (X : List Ck) (w : World) (e : Ending) (w' : World) : Prop :=
  ∃ i : Int, e = .returned (.int .i64 i) ∧ (0 ≤ i ↔ (X.map Ck.dat).any p = true) ∧ -1 ≤ i ∧ i ≤ 1000 ∧ Below w.heap.size w w'
attribute [local go_sem ↓] ldCk_eq
set_option maxRecDepth 100000 in
set_option maxHeartbeats 1000000 in
theorem VIndexFunc (S : Sl) (X : List Ck) (fn : Nat) (a0 : Value) (p : Chk → Bool) (w : World) (h : KsT w S X) (hl : X.length ≤ 64) (hp : PredK fn #[a0] p X w) (eg : ∀ args w, (callFunc fn args).run Tryz.prog w = .ok (.enter fn args) w) :
    Calls Tryz.prog 99 #[.slice S.A S.n S.c, .func (.func fn) #[] #[a0]] w (IxRet p X w) := by
  obtain ⟨A0, n, c0⟩ := S
  have hlen := h.len
  simp only at hlen ⊢
  have Hk := Lib.hid h; have Hn := Lib.hid hlen; have Hp := Lib.hid hp
  have hn6 : n ≤ 64 := by omega
  clear h hlen hl hp
  go_enter Tryz.func99, Tryz.ntmps99
  go_wp2
  go_loopw [8] (fun iv wr => ∃ i : Nat, i ≤ n ∧ iv = .int .i64 (i : Int) ∧ ((X.take i).map Ck.dat).any p = false ∧ Below w.heap.size w wr) (fun iv _ => n - (intOf iv).toNat)
  case atStart => exact ⟨0, by omega, rfl, rfl, Below.refl _ _⟩
  case round =>
    obtain ⟨i, hin, rfl, hno, hb⟩ := hrel
    by_cases hi : i < n
    · obtain ⟨k, hx⟩ : ∃ r, X[i]? = some r := ⟨_, List.getElem?_eq_getElem (by have := Hn.out; omega)⟩
      obtain ⟨g1, o1, hA, hat⟩ := (Hk.out.below hb).get hx
      simp only at hA
      subst hA
      have hld := ldCk_run hat
      have i0 : (0 : Int) ≤ (i : Int) := by omega
      have i1 : (i : Int) < (n : Int) := by omega
      have C := Lib.hid (Hp.out wr k hb (List.mem_of_getElem? hx))
      have htk : X.take (i + 1) = X.take i ++ [k] := by
        obtain ⟨h1, h2⟩ := List.getElem?_eq_some_iff.1 hx
        rw [List.take_succ_eq_append_getElem h1, h2]
      obtain ⟨b, hb0⟩ : ∃ b, p k.dat = b := ⟨_, rfl⟩
      rw [hb0] at C
      have Hb := Lib.hid hb; have Hno := Lib.hid hno; have Htk := Lib.hid htk; have Hb0 := Lib.hid hb0; have Hm := Lib.hid (List.mem_of_getElem? hx)
      clear hb hno htk hb0 hx hat
      cases b with
      | true =>
        go_wp2_with (refine C.out.mono ?_; rintro e w' ⟨rfl, hb3⟩; have Hb3 := Lib.hid (Hb.out.trans (hb3.mono Hb.out.size)); clear hb3)
        go_ret
        refine ⟨(i : Int), rfl, ⟨fun _ => ?_, fun _ => i0⟩, by omega, by omega, Hb3.out⟩
        rw [List.any_eq_true]
        exact ⟨k.dat, List.mem_map.2 ⟨k, Hm.out, rfl⟩, Hb0.out⟩
      | false =>
        go_wp2_with (refine C.out.mono ?_; rintro e w' ⟨rfl, hb3⟩; have Hb3 := Lib.hid (Hb.out.trans (hb3.mono Hb.out.size)); clear hb3)
        go_roundw
        case rel => exact ⟨i + 1, by omega, by go_num, by rw [Htk.out, List.map_append, List.any_append, Hno.out]; simp [Hb0.out], Hb3.out⟩
        case measure => simp [intOf]; omega
    · obtain rfl : i = n := by omega
      have i1 : ¬ (i : Int) < (i : Int) := by omega
      have hty : X.take i = X := List.take_of_length_le (by rw [Hn.out]; exact Nat.le_refl _)
      rw [hty] at hno
      have Hno := Lib.hid hno; have Hb := Lib.hid hb
      clear hno hb hty
      go_wp2
      go_ret
      exact ⟨-1, rfl, ⟨fun h => by omega, fun h => by rw [Hno.out] at h; cases h⟩, by omega, by omega, Hb.out⟩
set_option maxRecDepth 100000 in
set_option maxHeartbeats 1000000 in
theorem VContainsFunc (S : Sl) (X : List Ck) (fn : Nat) (a0 : Value) (p : Chk → Bool) (w : World) (h : KsT w S X) (hl : X.length ≤ 64) (hp : PredK fn #[a0] p X w) (eg : ∀ args w, (callFunc fn args).run Tryz.prog w = .ok (.enter fn args) w) :
    Calls Tryz.prog 62 #[.slice S.A S.n S.c, .func (.func fn) #[] #[a0]] w fun e w' => e = .returned (.bool ((X.map Ck.dat).any p)) ∧ Below w.heap.size w w' := by
  have C := Lib.hid (VIndexFunc S X fn a0 p w h hl hp eg)
  clear h hl hp
  obtain ⟨b, hb⟩ : ∃ b, (X.map Ck.dat).any p = b := ⟨_, rfl⟩
  have Hb := Lib.hid hb
  rw [hb]
  clear hb
  go_enter Tryz.func62, Tryz.ntmps62
  go_wp2_with (go_at_call 99; refine C.out.mono ?_; rintro e w' ⟨i, rfl, hi, h1, h2, hb3⟩; have Hi := Lib.hid hi; have Hb3 := Lib.hid hb3; clear hi hb3)
  go_ret
  refine ⟨bool_eq ?_, Hb3.out⟩
  have := Hi.out
  rw [Hb.out] at this
  rw [Bool.eq_iff_iff, decide_eq_true_eq]
  exact this
end Go.Proofs.YtmdmpliiiecmlaaGreat
end

section
namespace Go.Proofs.YtmdmpliiiecmlaaGreat
open Go.ChangeShapes Go.WideShapes Go.ChangeAt Go.RowKit Go.Sort
set_option linter.unusedVariables false

theorem i64_eq {a b : Int} (h : a = b) : Ending.returned (.int .i64 a) = Ending.returned (.int .i64 b) := by rw [h]
theorem isNaN_any (x : Int) (w : World) : Calls Tryz.prog 100 #[.int .i64 x] w fun e w' => e = .returned (.bool false) ∧ w = w' := by
  go_enter Tryz.func100, Tryz.ntmps100
  go_wp2
  go_ret
  exact ⟨by simp, rfl⟩
theorem Compare_any (x y : Int) (w : World) : Calls Tryz.prog 69 #[.int .i64 x, .int .i64 y] w fun e w' => e = .returned (.int .i64 (Lib.compareInt x y)) ∧ w = w' := by
  go_enter Tryz.func69, Tryz.ntmps69
  go_wp2_with (go_at_call 100; refine (isNaN_any _ _).mono ?_; rintro e w' ⟨rfl, rfl⟩)
  all_goals (go_ret; refine ⟨?_, rfl⟩; unfold Lib.compareInt; (repeat' split) <;> first | rfl | (exfalso; omega))
theorem Or_two (a b : Int) (g : Nat) (w : World) (h0 : w.cell? ⟨g, 0, none⟩ = some (.int .i64 a)) (h1 : w.cell? ⟨g, 1, none⟩ = some (.int .i64 b)) :
    Calls Tryz.prog 134 #[.slice (some ⟨g, 0, none⟩) 2 2] w fun e w' => e = .returned (.int .i64 (if a = 0 then b else a)) ∧ w = w' := by
  have H0 := Lib.hid h0; have H1 := Lib.hid h1
  clear h0 h1
  go_enter Tryz.func134, Tryz.ntmps134
  go_wp2
  go_loopw [8] (fun iv wr => ∃ i : Nat, i ≤ 2 ∧ iv = .int .i64 (i : Int) ∧ (1 ≤ i → a = 0) ∧ (2 ≤ i → b = 0) ∧ wr = w) (fun iv _ => 2 - (intOf iv).toNat)
  case atStart => exact ⟨0, by omega, rfl, fun h => by omega, fun h => by omega, rfl⟩
  case round =>
    obtain ⟨i, hi, rfl, ha, hb, rfl⟩ := hrel
    rcases (by omega : i = 0 ∨ i = 1 ∨ i = 2) with rfl | rfl | rfl
    · have h0 := H0.out
      clear ha hb
      by_cases hz : a = 0
      · have hq : (a != 0) = false := by simp [hz]
        have Hz := Lib.hid hz
        clear hz
        go_wp2
        go_roundw
        case rel => exact ⟨1, by omega, by go_num, fun _ => Hz.out, fun h => by omega, trivial⟩
        case measure => simp [intOf]
      · have hq : (a != 0) = true := by simp [hz]
        have Hz := Lib.hid hz
        clear hz
        go_wp2
        go_ret
        exact ⟨i64_eq rfl, rfl⟩
    · have h1 := H1.out
      have Ha := Lib.hid (ha (by omega))
      clear ha hb
      by_cases hz : b = 0
      · have hq : (b != 0) = false := by simp [hz]
        have Hz := Lib.hid hz
        clear hz
        go_wp2
        go_roundw
        case rel => exact ⟨2, by omega, by go_num, fun _ => Ha.out, fun _ => Hz.out, trivial⟩
        case measure => simp [intOf]
      · have hq : (b != 0) = true := by simp [hz]
        have Hz := Lib.hid hz
        clear hz
        go_wp2
        go_ret
        exact ⟨i64_eq rfl, rfl⟩
    · have Ha := Lib.hid (ha (by omega)); have Hb := Lib.hid (hb (by omega))
      clear ha hb
      go_wp2
      go_ret
      exact ⟨i64_eq Hb.out.symm, rfl⟩

end Go.Proofs.YtmdmpliiiecmlaaGreat
end
