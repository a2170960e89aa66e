/-
  Loads that are told one by one: counts of servers 0, 1, 2 ..; who is chosen of them, and that they stay even. Conditions: what each names.
-/
import Derived.Test.YtfigohlgckandaaPlcOrd
import Derived.Test.YtfigohlgckandaaPlcRef
namespace Go.Proofs.Ytfigohlgckandaa
open Go.ChangeShapes Go.WideShapes Go.ChangeAt Go.RowKit Go.Sort
set_option linter.unusedVariables false

/-- servers 0 .. n-1, with so many chunks -/
def entsN (N : Nat → Nat) (n : Nat) : List Ent := (List.range n).map fun (i : Nat) => (((i : Int), (N i : Int)) : Ent)
theorem entsN_length (N : Nat → Nat) (n : Nat) : (entsN N n).length = n := by simp [entsN]
theorem entsN_get (N : Nat → Nat) {n i : Nat} (h : i < n) : (entsN N n)[i]? = some ((i : Int), (N i : Int)) := by
  unfold entsN
  rw [List.getElem?_map, List.getElem?_range h]
  rfl
theorem entsN_mem {N : Nat → Nat} {n : Nat} {x : Ent} (h : x ∈ entsN N n) : ∃ i : Nat, i < n ∧ x = ((i : Int), (N i : Int)) := by
  unfold entsN at h
  obtain ⟨i, hi, rfl⟩ := List.mem_map.1 h
  exact ⟨i, List.mem_range.1 hi, rfl⟩
theorem entsN_snoc (n : Nat) : entsN (fun _ => 0) (n + 1) = entsN (fun _ => 0) n ++ [((n : Int), 0)] := by
  simp [entsN, List.range_succ]
theorem entsN_set (N : Nat → Nat) {n d : Nat} (v : Nat) (h : d < n) : (entsN N n).set d ((d : Int), (v : Int)) = entsN (fun j => if j = d then v else N j) n := by
  apply List.ext_getElem?
  intro j
  rw [List.getElem?_set]
  by_cases hj : j < n
  · rw [entsN_get _ hj]
    by_cases e : d = j
    · subst e
      rw [if_pos rfl, if_pos (by rw [entsN_length]; exact hj), entsN_get _ hj]
      simp
    · rw [if_neg e, entsN_get _ hj, if_neg (fun k => e k.symm)]
  · have h1 : ∀ M : Nat → Nat, (entsN M n)[j]? = none := fun M => by rw [List.getElem?_eq_none_iff, entsN_length]; omega
    rw [h1, h1, if_neg (by omega)]
/-- one more for each that is named -/
def bump (N : Nat → Nat) (xs : List Int) (j : Nat) : Nat := if (j : Int) ∈ xs then N j + 1 else N j
theorem bump_nil (N : Nat → Nat) : bump N [] = N := by funext j; simp [bump]
theorem bump_snoc (N : Nat → Nat) (xs : List Int) (d : Nat) (h : (d : Int) ∉ xs) : (fun j => if j = d then bump N xs d + 1 else bump N xs j) = bump N (xs ++ [(d : Int)]) := by
  funext j
  unfold bump
  by_cases e : j = d
  · subst e
    simp [h]
  · rw [if_neg e]
    have : ((j : Int) ∈ xs ++ [(d : Int)]) ↔ (j : Int) ∈ xs := by
      simp only [List.mem_append, List.mem_singleton]
      constructor
      · rintro (h | h)
        · exact h
        · exact absurd (by omega) e
      · exact .inl
    simp [this]
/-- no count is more than one above another one -/
def EvenN (N : Nat → Nat) (n : Nat) : Prop := ∀ i j, i < n → j < n → N i ≤ N j + 1
theorem nodup_ids {N : Nat → Nat} {n : Nat} (k : Nat) : (idsE ((sortE (entsN N n)).take k)).Nodup := by
  have h1 : (idsE (sortE (entsN N n))).Nodup := by
    have hp : (idsE (sortE (entsN N n))).Perm (idsE (entsN N n)) := (sortE_perm _).map _
    rw [hp.nodup_iff]
    unfold idsE entsN
    rw [List.map_map]
    refine List.pairwise_map.2 ((List.nodup_range (n := n)).imp ?_)
    intro a b h e
    exact h (Int.ofNat_inj.1 e)
  unfold idsE at h1 ⊢
  rw [List.map_take]
  exact h1.sublist (List.take_sublist _ _)
theorem ids_mem {N : Nat → Nat} {n k : Nat} {v : Int} (h : v ∈ idsE ((sortE (entsN N n)).take k)) : ∃ d : Nat, v = (d : Int) ∧ d < n := by
  unfold idsE at h
  obtain ⟨x, hx, rfl⟩ := List.mem_map.1 h
  have h1 : x ∈ entsN N n := (sortE_perm _).mem_iff.1 (List.mem_of_mem_take hx)
  obtain ⟨i, hi, rfl⟩ := entsN_mem h1
  exact ⟨i, rfl, hi⟩
/-- who isn't chosen has at least as many as each that is -/
theorem ids_least {N : Nat → Nat} {n k i j : Nat} (hi : ((i : Nat) : Int) ∈ idsE ((sortE (entsN N n)).take k)) (hj : j < n) (hn : ((j : Nat) : Int) ∉ idsE ((sortE (entsN N n)).take k)) : N i ≤ N j := by
  obtain ⟨L, hL⟩ : ∃ L, sortE (entsN N n) = L := ⟨_, rfl⟩
  have hp := sortE_perm (entsN N n)
  rw [hL] at hi hn hp
  have hjm : ((j : Int), (N j : Int)) ∈ L := hp.mem_iff.2 (List.mem_of_getElem? (entsN_get N hj))
  obtain ⟨b, hb⟩ := List.mem_iff_getElem?.1 hjm
  unfold idsE at hi hn
  obtain ⟨x, hx, hxi⟩ := List.mem_map.1 hi
  obtain ⟨a, ha⟩ := List.mem_iff_getElem?.1 hx
  have hak : a < k := by
    have := (List.getElem?_eq_some_iff.1 ha).1
    rw [List.length_take] at this
    omega
  rw [List.getElem?_take, if_pos hak] at ha
  obtain ⟨i', hi', rfl⟩ := entsN_mem (hp.mem_iff.1 (List.mem_of_getElem? ha))
  have e : i' = i := by simp only at hxi; omega
  subst e
  have hbk : k ≤ b := by
    rcases Nat.lt_or_ge b k with h | h
    · exfalso
      apply hn
      refine List.mem_map.2 ⟨((j : Int), (N j : Int)), ?_, rfl⟩
      refine List.mem_of_getElem? (i := b) ?_
      rw [List.getElem?_take, if_pos h]
      exact hb
    · exact h
  rw [← hL] at ha hb
  have := sortE_getElem ha hb (by omega)
  unfold ahead at this
  simp only at this
  omega
theorem EvenN.bump {N : Nat → Nat} {n : Nat} (h : EvenN N n) (k : Nat) : EvenN (bump N (idsE ((sortE (entsN N n)).take k))) n := by
  intro i j hi hj
  have h1 := h i j hi hj
  unfold Go.Proofs.Ytfigohlgckandaa.bump
  by_cases ei : ((i : Nat) : Int) ∈ idsE ((sortE (entsN N n)).take k)
  · by_cases ej : ((j : Nat) : Int) ∈ idsE ((sortE (entsN N n)).take k)
    · rw [if_pos ei, if_pos ej]; omega
    · rw [if_pos ei, if_neg ej]
      have := ids_least ei hj ej
      omega
  · rw [if_neg ei]
    split <;> omega
theorem bump_most {N : Nat → Nat} {t : Nat} (h : ∀ j, N j ≤ t) (xs : List Int) (j : Nat) : bump N xs j ≤ t + 1 := by
  have := h j
  unfold bump
  split <;> omega
/-- a count stored in a row of loads -/
theorem own_setN {w : World} {B g n c i : Nat} {t : List Ent} {x : Ent} (h : w.ownsRow B 31 2 (.slice (some ⟨g, 0, none⟩) n c) n (entsV t)) (hi : t[i]? = some x) (v : Int) :
    (w.setCell ⟨g, i * 2 + 1, none⟩ (.int .i64 v)).ownsRow B 31 2 (.slice (some ⟨g, 0, none⟩) n c) n (entsV (t.set i (x.1, v))) ∧ w.frozen? ⟨g, i * 2 + 1, none⟩ = false ∧ w.cell? ⟨g, i * 2 + 1, none⟩ = some (.int .i64 x.2) ∧ B ≤ g ∧ g < w.heap.size := by
  have hl := h.1
  rw [entsV_length] at hl
  have hil := (List.getElem?_eq_some_iff.1 hi).1
  obtain ⟨e0, e1⟩ := entsV_get hi
  have hc := h.cellAt (i * 2 + 1) (by omega)
  rcases h.2 with ⟨hv, _⟩ | ⟨g', cap, cur, hv, hg, hh, h1, h2, h3, h4⟩
  · cases hv
  · injection hv with hv _ hcc
    injection hv with hv
    injection hv with hv
    subst hv; subst hcc
    refine ⟨⟨by rw [entsV_length, List.length_set]; omega, .inr ⟨g, c, _, rfl, hg, row_set hh (i * 2 + 1) _, h1, h2, by simp [h3], ?_⟩⟩, row_frozen hh _, hc.trans e1, hg, (Array.getElem?_eq_some_iff.1 hh).1⟩
    rw [Array.toList_setIfInBounds, List.take_set, h4, ← entsV_set t i (x.1, v)]
    congr 1
    obtain ⟨hk, e⟩ := List.getElem?_eq_some_iff.1 e0
    rw [← e, List.set_getElem_self]
end Go.Proofs.Ytfigohlgckandaa
