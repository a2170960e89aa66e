/-
  What a command leaves of chunks' epochs and volumes' versions: neither falls; new chunks have new numbers. Plain lists and integers. Conditions: a right state, a command of numbers that an int holds.
-/
import Derived.Test.YtcaaakoahaoooaaVolGood
namespace Go.Proofs.Ytcaaakoahaoooaa
open Go.ChangeShapes Go.WideShapes Go.ChangeAt Go.RowKit
set_option linter.unusedVariables false
set_option linter.unusedSimpArgs false

structure Newer (s s' : St) : Prop where
  md : s.md ≤ s'.md
  ep : ∀ i, i < 64 → ∀ k' ∈ (s'.vs i).ks, (∃ j, j < 64 ∧ ∃ k ∈ (s.vs j).ks, k.id = k'.id ∧ k.ep ≤ k'.ep) ∨ s.md < k'.id
theorem Newer.refl (s : St) : Newer s s := ⟨Int.le_refl _, fun i hi k hk => .inl ⟨i, hi, k, hk, rfl, Int.le_refl _⟩⟩
theorem newer_setV {s : St} {i : Nat} {v : Vol} (hi : i < 64) (h : ∀ k' ∈ v.ks, ∃ k ∈ (s.vs i).ks, k.id = k'.id ∧ k.ep ≤ k'.ep) : Newer s (setV s i v) := by
  refine ⟨Int.le_refl _, fun j hj k' hk' => ?_⟩
  by_cases e : j = i
  · subst e
    rw [setV_same] at hk'
    obtain ⟨k, hk, h2⟩ := h k' hk'
    exact .inl ⟨j, hj, k, hk, h2⟩
  · rw [setV_other e] at hk'
    exact .inl ⟨j, hj, k', hk', rfl, Int.le_refl _⟩
theorem fillK_new (ids : List Nat) (vo : Int) (copies : Nat) (md : Int) (hv : List Int) : ∀ q, ∀ k ∈ fillK ids vo copies md hv q, md < k.id
  | 0, k, hk => by cases hk
  | q + 1, k, hk => by
    rw [fillK, List.mem_append, List.mem_singleton] at hk
    rcases hk with hk | rfl
    · exact fillK_new ids vo copies md hv q k hk
    · show md < md + q + 1
      omega
theorem newer_fill {s : St} {i copies : Nat} {v : Vol} (hi : i < 64) (h : ∀ k' ∈ v.ks, ∃ k ∈ (s.vs i).ks, k.id = k'.id ∧ k.ep ≤ k'.ep) : Newer s (fillS (setV s i v) i copies) := by
  have h0 := newer_setV hi h
  unfold fillS
  obtain ⟨q, hq⟩ : ∃ q, (countF ((setV s i v).vs i).bl).toNat - ((setV s i v).vs i).ks.length = q := ⟨_, rfl⟩
  rw [hq]
  refine ⟨by show s.md ≤ s.md + (q : Int); omega, fun j hj k' hk' => ?_⟩
  by_cases e : j = i
  · subst e
    have hk2 : k' ∈ ((fillQ (setV s j v) j copies q).vs j).ks := hk'
    rw [fillQ_ks, List.mem_append] at hk2
    rcases hk2 with hk2 | hk2
    · exact h0.ep j hj k' hk2
    · exact .inr (fillK_new _ _ _ _ _ q k' hk2)
  · have hk2 : k' ∈ ((fillQ (setV s i v) i copies q).vs j).ks := hk'
    rw [fillQ_other _ _ _ _ _ e] at hk2
    exact h0.ep j hj k' hk2
theorem chunkF_ep {k k' : Chk} {c : Cmd} (hf : chunkF c k = .inl k') : k'.id = k.id ∧ k'.ep = k.ep := by
  unfold chunkF at hf
  split at hf
  · split at hf
    · cases hf
    split at hf
    · cases hf
    injection hf with hf
    subst hf
    exact ⟨rfl, rfl⟩
  split at hf
  · split at hf
    · cases hf
    split at hf
    · cases hf
    injection hf with hf
    subst hf
    exact ⟨rfl, rfl⟩
  split at hf
  · injection hf with hf
    subst hf
    exact ⟨rfl, rfl⟩
  · cases hf
theorem newer_renew {s : St} {i j : Nat} {k k' : Chk} (hi : i < 64) (hj : (s.vs i).ks[j]? = some k) (hid : k'.id = k.id) (hep : k'.ep = k.ep) : Newer s (renewS s i j k') := by
  refine newer_setV hi fun x hx => ?_
  rcases List.mem_or_eq_of_mem_set hx with h | rfl
  · exact ⟨x, h, rfl, Int.le_refl _⟩
  · exact ⟨k, List.mem_of_getElem? hj, hid.symm, by show k.ep ≤ k'.ep + 1; omega⟩
theorem newer_chunk (s : St) (c : Cmd) : Newer s (chunkS s c).1 := by
  unfold chunkS
  split
  · exact Newer.refl s
  split
  · exact Newer.refl s
  · rename_i i j k hfs
    obtain ⟨hi, hj, hid⟩ := findS_some hfs
    split
    · exact Newer.refl s
    split
    · exact Newer.refl s
    · rename_i k' hk'
      obtain ⟨e1, e2⟩ := chunkF_ep hk'
      exact newer_renew hi hj e1 e2
theorem doS_newer (s : St) (c : Cmd) : Newer s (doS s c).1 := by
  unfold doS
  by_cases h1 : c.k = 1
  · rw [if_pos h1]
    split
    · exact ⟨Int.le_refl _, fun i hi k hk => .inl ⟨i, hi, k, hk, rfl, Int.le_refl _⟩⟩
    · exact Newer.refl s
  rw [if_neg h1]
  by_cases h2 : c.k = 2
  · rw [if_pos h2]
    split
    · exact Newer.refl s
    rename_i ht
    split
    · exact Newer.refl s
    split
    · exact Newer.refl s
    simp only [Bool.not_eq_true', Bool.not_eq_false, Bool.and_eq_true, decide_eq_true_eq] at ht
    exact newer_fill (by omega) (fun k hk => by cases hk)
  rw [if_neg h2]
  by_cases h3 : c.k = 3
  · rw [if_pos h3]
    split
    · rename_i hv
      obtain ⟨m, hm, hm64, _⟩ := isVol_nat hv
      exact newer_setV (by omega) (fun k hk => by cases hk)
    · exact Newer.refl s
  rw [if_neg h3]
  by_cases h4 : c.k = 4
  · rw [if_pos h4]
    split
    · exact Newer.refl s
    split
    · exact Newer.refl s
    rename_i hv
    rw [Bool.not_eq_false] at hv
    obtain ⟨m, hm, hm64, hm0⟩ := isVol_nat hv
    exact newer_fill (by omega) (fun k hk => ⟨k, List.mem_of_mem_take hk, rfl, Int.le_refl _⟩)
  rw [if_neg h4]
  by_cases h5 : c.k = 5
  · rw [if_pos h5]
    split
    · exact Newer.refl s
    split
    · exact Newer.refl s
    rename_i hv
    rw [Bool.not_eq_false] at hv
    obtain ⟨m, hm, hm64, hm0⟩ := isVol_nat hv
    exact newer_setV (by omega) (fun k hk => ⟨k, hk, rfl, Int.le_refl _⟩)
  rw [if_neg h5]
  exact newer_chunk s c
theorem applyS_newer (s : St) (c : Cmd) : Newer s (applyS s c).1 := by
  unfold applyS
  split
  · split
    · exact Newer.refl s
    split
    · exact doS_newer s c
    · exact Newer.refl s
  · exact Newer.refl s
/-! ### versions -/
theorem fill_ver (s : St) (i copies j : Nat) : ((fillS s i copies).vs j).ver = (s.vs j).ver := by
  unfold fillS fillQ
  show ((setV s i _).vs j).ver = _
  by_cases e : j = i
  · subst e; rw [setV_same]
  · rw [setV_other e]
theorem renew_ver (s : St) (i j a : Nat) (k : Chk) : ((renewS s i j k).vs a).ver = (s.vs a).ver := by
  unfold renewS
  by_cases e : a = i
  · subst e; rw [setV_same]
  · rw [setV_other e]
/-- a volume's version doesn't fall, unless it is deleted, or made -/
theorem doS_ver {n : Int} {s : St} {c : Cmd} {a : Nat} (h : GoodD n s) (hv : isVol s (a : Int) = true) (h3 : c.k ≠ 3) : (s.vs a).ver ≤ ((doS s c).1.vs a).ver := by
  simp only [isVol, Bool.and_eq_true, decide_eq_true_eq, Int.toNat_natCast] at hv
  have ha0 : (s.vs a).bl ≠ 0 := hv.2
  have hge := (h.vs a (by omega)).bl.1
  unfold doS
  by_cases h1 : c.k = 1
  · rw [if_pos h1]
    split
    · exact Int.le_refl _
    · exact Int.le_refl _
  rw [if_neg h1]
  by_cases h2 : c.k = 2
  · rw [if_pos h2]
    split
    · exact Int.le_refl _
    split
    · exact Int.le_refl _
    rename_i hb
    split
    · exact Int.le_refl _
    show _ ≤ ((fillS _ _ _).vs a).ver
    rw [fill_ver]
    by_cases e : a = c.a.toNat
    · subst e
      omega
    · rw [setV_other e]
      exact Int.le_refl _
  rw [if_neg h2, if_neg h3]
  by_cases h4 : c.k = 4
  · rw [if_pos h4]
    split
    · exact Int.le_refl _
    split
    · exact Int.le_refl _
    show _ ≤ ((fillS _ _ _).vs a).ver
    rw [fill_ver]
    by_cases e : a = c.a.toNat
    · subst e
      rw [setV_same]
      exact Int.le_refl _
    · rw [setV_other e]
      exact Int.le_refl _
  rw [if_neg h4]
  by_cases h5 : c.k = 5
  · rw [if_pos h5]
    split
    · exact Int.le_refl _
    split
    · exact Int.le_refl _
    show _ ≤ ((setV s _ _).vs a).ver
    by_cases e : a = c.a.toNat
    · subst e
      rw [setV_same]
      show _ ≤ _ + 1
      omega
    · rw [setV_other e]
      exact Int.le_refl _
  rw [if_neg h5]
  unfold chunkS
  split
  · exact Int.le_refl _
  split
  · exact Int.le_refl _
  · split
    · exact Int.le_refl _
    split
    · exact Int.le_refl _
    · show _ ≤ ((renewS _ _ _ _).vs a).ver
      rw [renew_ver]
      exact Int.le_refl _
end Go.Proofs.Ytcaaakoahaoooaa
