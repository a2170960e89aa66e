/-
  The reservation, as numbers: who is due is picked by the least moment; if a tick has room for all that is reserved, no one falls behind by more than as many operations as there are flows. s: the spaces (0: nothing is reserved), c: how many were picked by reservation, m flows. It speaks of no program. No condition but what each lemma names.
-/
import Derived.Lib.Hide
namespace Go.Proofs.Ytbfjakchgmdldaa
set_option linter.unusedVariables false

/-- a share: 2^40 by a space, rounded up -/
def shN (s : Nat) : Nat := if s = 0 then 0 else 1099511627775 / s + 1
def loadN (s : Nat → Nat) : Nat → Nat
  | 0 => 0
  | m + 1 => loadN s m + shN (s m)
/-- how many of the operations whose moment is at most r were picked -/
def earlyN (s c : Nat → Nat) (r : Nat) : Nat → Nat
  | 0 => 0
  | m + 1 => earlyN s c r m + (if s m = 0 then 0 else min (c m) (r / s m + 1))
/-- one waits whose moment is at most x -/
def Pend (s c : Nat → Nat) (m x : Nat) : Prop := ∃ j, j < m ∧ 0 < s j ∧ c j * s j ≤ x
def bump (c : Nat → Nat) (j : Nat) : Nat → Nat := fun k => if k = j then c k + 1 else c k
/-- a pick at the moment x: the least that is due, if one is -/
def PickN (s c c' : Nat → Nat) (m x : Nat) : Prop :=
  (¬ Pend s c m x ∧ c' = c) ∨ ∃ j, j < m ∧ 0 < s j ∧ c j * s j ≤ x ∧ (∀ k, k < m → 0 < s k → c j * s j ≤ c k * s k) ∧ c' = bump c j

theorem earlyN_other {s c : Nat → Nat} {r j : Nat} : ∀ m, m ≤ j → earlyN s (bump c j) r m = earlyN s c r m
  | 0, _ => rfl
  | m + 1, h => by
    unfold earlyN
    rw [earlyN_other m (by omega)]
    have : bump c j m = c m := if_neg (by omega)
    rw [this]
theorem earlyN_bump {s c : Nat → Nat} {r j : Nat} (hs : 0 < s j) (hc : c j * s j ≤ r) : ∀ m, j < m → earlyN s (bump c j) r m = earlyN s c r m + 1
  | 0, h => by omega
  | m + 1, h => by
    unfold earlyN
    by_cases hj : j = m
    · subst hj
      rw [earlyN_other j (Nat.le_refl _), if_neg (by omega), if_neg (by omega)]
      have h1 : bump c j j = c j + 1 := if_pos rfl
      have h2 : c j ≤ r / s j := (Nat.le_div_iff_mul_le hs).2 hc
      rw [h1]
      omega
    · rw [earlyN_bump hs hc m (by omega)]
      have : bump c j m = c m := if_neg (by omega)
      rw [this]
      omega
theorem bump_le (c : Nat → Nat) (j k : Nat) : c k ≤ bump c j k := by unfold bump; split <;> omega
theorem PickN.le {s c c' : Nat → Nat} {m x : Nat} (h : PickN s c c' m x) (k : Nat) : c k ≤ c' k := by
  rcases h with ⟨_, rfl⟩ | ⟨j, _, _, _, _, rfl⟩
  · exact Nat.le_refl _
  · exact bump_le _ _ _
theorem Pend.of_later {s c c' : Nat → Nat} {m x : Nat} (hle : ∀ k, c k ≤ c' k) (h : Pend s c' m x) : Pend s c m x := by
  obtain ⟨j, hj, hs, hc⟩ := h
  exact ⟨j, hj, hs, Nat.le_trans (Nat.mul_le_mul_right _ (hle j)) hc⟩
/-- at the end of tick t -/
def AtEnd (s c : Nat → Nat) (m t : Nat) : Prop := ∀ r, ¬ Pend s c m r ∨ loadN s m * t ≤ 16777216 * earlyN s c r m + 16777216
/-- within tick t + 1, p picks having been tried -/
def Within (s c : Nat → Nat) (m t p : Nat) : Prop := ∀ r, ¬ Pend s c m (min r (65536 * (t + 1))) ∨ loadN s m * t + 16777216 * p ≤ 16777216 * earlyN s c r m + 16777216
theorem atEnd_zero (s c : Nat → Nat) (m : Nat) : AtEnd s c m 0 := fun r => .inr (by omega)
theorem within_zero {s c : Nat → Nat} {m t : Nat} (h : AtEnd s c m t) : Within s c m t 0 := fun r => by
  rcases h r with h | h
  · refine .inl fun hp => h ?_
    obtain ⟨j, hj, hs, hc⟩ := hp
    exact ⟨j, hj, hs, by omega⟩
  · exact .inr (by omega)
theorem within_pick {s c c' : Nat → Nat} {m t p : Nat} (h : Within s c m t p) (hp : PickN s c c' m (65536 * (t + 1))) : Within s c' m t (p + 1) := fun r => by
  by_cases hq : Pend s c' m (min r (65536 * (t + 1)))
  · right
    have hb := Pend.of_later hp.le hq
    rcases h r with h | h
    · exact absurd hb h
    · rcases hp with ⟨hn, rfl⟩ | ⟨j, hj, hs, hc, hl, rfl⟩
      · exfalso
        apply hn
        obtain ⟨j, hj, hs, hc⟩ := hb
        exact ⟨j, hj, hs, by omega⟩
      · obtain ⟨k, hk, hsk, hck⟩ := hb
        have := hl k hk hsk
        rw [earlyN_bump hs (by omega) m hj]
        omega
  · exact .inl hq
/-- all that was due is picked: then as many as the load asks for were -/
theorem share_floor {s t : Nat} (hs : 0 < s) : shN s * t ≤ 16777216 * (65536 * t / s + 1) + t := by
  unfold shN
  rw [if_neg (by omega)]
  obtain ⟨g, hg⟩ : ∃ g, 1099511627775 / s = g := ⟨_, rfl⟩
  obtain ⟨f, hf⟩ : ∃ f, 65536 * t / s = f := ⟨_, rfl⟩
  have h1 : g * s ≤ 1099511627775 := by rw [← hg]; exact Nat.div_mul_le_self _ _
  have h2 := Nat.lt_mul_div_succ (65536 * t) hs
  rw [hf, Nat.mul_comm s (f + 1)] at h2
  rw [hg, hf]
  refine Nat.le_of_mul_le_mul_right ?_ hs
  have e1 : (g + 1) * t * s = g * s * t + t * s := by rw [Nat.add_mul, Nat.one_mul, Nat.add_mul, Nat.mul_right_comm]
  have e2 : (16777216 * (f + 1) + t) * s = 16777216 * ((f + 1) * s) + t * s := by rw [Nat.add_mul, Nat.mul_assoc]
  have e3 : g * s * t ≤ 1099511627775 * t := Nat.mul_le_mul_right _ h1
  rw [e1, e2]
  omega
theorem load_floor {s c : Nat → Nat} {r t : Nat} : ∀ m, (∀ j, j < m → 0 < s j → 65536 * t < c j * s j) → 65536 * t ≤ r → loadN s m * t ≤ 16777216 * earlyN s c r m + m * t
  | 0, _, _ => by unfold loadN earlyN; omega
  | m + 1, h, hr => by
    have ih := load_floor (r := r) m (fun j hj => h j (by omega)) hr
    unfold loadN earlyN
    rw [Nat.add_mul, Nat.add_mul, Nat.one_mul]
    by_cases hs : s m = 0
    · rw [if_pos hs]
      unfold shN
      rw [if_pos hs]
      omega
    · rw [if_neg hs]
      have h1 := share_floor (s := s m) (t := t) (by omega)
      have h2 : 65536 * t / s m + 1 ≤ c m := by
        have := h m (by omega) (by omega)
        exact (Nat.div_lt_iff_lt_mul (by omega)).2 this
      have h3 : 65536 * t / s m ≤ r / s m := Nat.div_le_div_right hr
      omega
theorem atEnd_of {s c : Nat → Nat} {m t p n : Nat} (h : Within s c m t p) (hn : n ≤ p) (hl : loadN s m ≤ n * 16777216) (hm : m * (t + 1) ≤ 16777216) : AtEnd s c m (t + 1) := fun r => by
  by_cases hq : Pend s c m r
  · right
    rcases h r with h | h
    · have hr : 65536 * (t + 1) ≤ r := by
        refine Nat.not_lt.1 fun hlt => h ?_
        rw [Nat.min_eq_left (by omega)]
        exact hq
      rw [Nat.min_eq_right hr] at h
      have := load_floor (s := s) (c := c) (r := r) (t := t + 1) m (fun j hj hs => Nat.not_le.1 fun hc => h ⟨j, hj, hs, hc⟩) hr
      omega
    · rw [Nat.mul_add, Nat.mul_one]
      omega
  · exact .inl hq
/-- how many can have been picked at most -/
theorem early_le {s c : Nat → Nat} {r : Nat} : ∀ m, 1099511627776 * earlyN s c r m ≤ r * loadN s m + 1099511627776 * m
  | 0 => by unfold loadN earlyN; omega
  | m + 1 => by
    have ih := early_le (s := s) (c := c) (r := r) m
    unfold loadN earlyN
    rw [Nat.mul_add r]
    by_cases hs : s m = 0
    · rw [if_pos hs]
      unfold shN
      rw [if_pos hs]
      omega
    · rw [if_neg hs]
      have h1 := floor_share (s := s m) (r := r) (by omega)
      omega
where
  floor_share {s r : Nat} (hs : 0 < s) : 1099511627776 * (r / s) ≤ r * shN s := by
    unfold shN
    rw [if_neg (by omega)]
    have h2 : 1099511627775 < (1099511627775 / s + 1) * s := by rw [Nat.mul_comm]; exact Nat.lt_mul_div_succ _ hs
    have h3 : r / s * s ≤ r := Nat.div_mul_le_self _ _
    have h4 : r / s * ((1099511627775 / s + 1) * s) ≤ r * (1099511627775 / s + 1) := by
      rw [Nat.mul_comm (1099511627775 / s + 1) s, ← Nat.mul_assoc]
      exact Nat.mul_le_mul_right _ h3
    have h5 : r / s * 1099511627776 ≤ r / s * ((1099511627775 / s + 1) * s) := Nat.mul_le_mul_left _ (by omega)
    omega
theorem share_up {s : Nat} (hs : 0 < s) : 1099511627776 ≤ shN s * s := by
  unfold shN
  rw [if_neg (by omega)]
  have h2 : 1099511627775 < (1099511627775 / s + 1) * s := by rw [Nat.mul_comm]; exact Nat.lt_mul_div_succ _ hs
  omega
theorem load_has {s : Nat → Nat} {i : Nat} : ∀ m, i < m → shN (s i) ≤ loadN s m
  | 0, h => by omega
  | m + 1, h => by
    unfold loadN
    by_cases hi : i = m
    · subst hi; omega
    · have := load_has (s := s) (i := i) m (by omega)
      omega
/-- no one falls behind by more than as many operations as there are flows, and one -/
theorem not_behind {s c : Nat → Nat} {m t i : Nat} (h : AtEnd s c m t) (hi : i < m) (hs : 0 < s i) : 65536 * t ≤ c i * s i + (m + 1) * s i := by
  rcases h (c i * s i) with h | h
  · exact absurd ⟨i, hi, hs, Nat.le_refl _⟩ h
  · have h1 := early_le (s := s) (c := c) (r := c i * s i) m
    have h2 := share_up hs
    have h3 := load_has (s := s) m hi
    obtain ⟨G, hG⟩ : ∃ G, loadN s m = G := ⟨_, rfl⟩
    rw [hG] at h h1 h3
    refine Nat.not_lt.1 fun hlt => ?_
    have h4 : 1099511627776 ≤ G * s i := Nat.le_trans h2 (Nat.mul_le_mul_right _ h3)
    have h5 : G * (65536 * t) ≤ 65536 * (16777216 * earlyN s c (c i * s i) m + 16777216) := by
      rw [Nat.mul_left_comm]
      exact Nat.mul_le_mul_left _ h
    have h6 : G * (c i * s i + (m + 1) * s i + 1) ≤ G * (65536 * t) := Nat.mul_le_mul_left _ hlt
    have e1 : G * (c i * s i + (m + 1) * s i + 1) = c i * s i * G + (m + 1) * (G * s i) + G := by
      rw [Nat.mul_add, Nat.mul_add, Nat.mul_one, Nat.mul_comm G (c i * s i), Nat.mul_left_comm G (m + 1)]
    have h7 : (m + 1) * 1099511627776 ≤ (m + 1) * (G * s i) := Nat.mul_le_mul_left _ h4
    have h8 : 0 < G := Nat.pos_of_ne_zero fun h0 => by rw [h0] at h4; omega
    omega
/-- none is picked ahead of its moment -/
theorem pick_within {s c c' : Nat → Nat} {m x : Nat} (hp : PickN s c c' m x) (h : ∀ k, k < m → c k * s k ≤ x + s k) : ∀ k, k < m → c' k * s k ≤ x + s k := by
  intro k hk
  rcases hp with ⟨_, rfl⟩ | ⟨j, hj, hs, hc, hl, rfl⟩
  · exact h k hk
  · unfold bump
    split
    · rename_i e
      subst e
      rw [Nat.add_mul, Nat.one_mul]
      omega
    · exact h k hk
/-- between the ends of two ticks -/
theorem span_has {m t a s x y : Nat} (hs : 0 < s) (ha : x * s ≤ 65536 * a + s) (ht : 65536 * t ≤ y * s + (m + 1) * s) (hat : a ≤ t) : (65536 * (t - a) / s : Nat) ≤ y - x + (m + 2) := by
  have h1 : 65536 * (t - a) / s ≤ (y + (m + 2)) - x := by
    have h2 : 65536 * (t - a) + x * s ≤ (y + (m + 2)) * s := by
      have e : (y + (m + 2)) * s = y * s + (m + 1) * s + s := by rw [Nat.add_mul, show m + 2 = (m + 1) + 1 from rfl, Nat.add_mul (m + 1) 1, Nat.one_mul]; omega
      rw [e]
      omega
    rw [Nat.div_le_iff_le_mul_add_pred hs]
    have h3 : 65536 * (t - a) ≤ (y + (m + 2)) * s - x * s := by omega
    rw [← Nat.sub_mul, Nat.mul_comm _ s] at h3
    omega
  omega
end Go.Proofs.Ytbfjakchgmdldaa
