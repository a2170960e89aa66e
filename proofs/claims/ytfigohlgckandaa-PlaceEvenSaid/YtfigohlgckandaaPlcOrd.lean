/-
  Loads in their order, as mathematics: sorted as place.compare tells, and the first ones of them. No condition but what each lemma names.
-/
import Derived.Test.YtfigohlgckandaaPlcCmp
import Derived.Sort.Grow
import Derived.Shelf.SlSortCmp.Insertion
namespace Go.Proofs.Ytfigohlgckandaa
open Go.ChangeShapes Go.WideShapes Go.ChangeAt Go.RowKit Go.Sort
set_option linter.unusedVariables false

theorem ltOf_cmpE (x y : Ent) : ltOf cmpE x y = decide (ahead x y) := by
  unfold ltOf
  exact decide_eq_decide.2 (cmpE_lt x y)
theorem swo_cmpE : SWO (ltOf cmpE) := by
  refine ⟨fun x => ?_, fun x y z h1 h2 => ?_, fun x y z h1 h2 => ?_⟩
  · rw [ltOf_cmpE]; exact decide_eq_false (ahead_irr x)
  · rw [ltOf_cmpE, decide_eq_true_eq] at *
    exact ahead_trans h1 h2
  · rw [ltOf_cmpE, decide_eq_false_iff_not] at *
    exact le_trans_E h2 h1
/-- entries sorted as place.compare tells -/
def sortE (t : List Ent) : List Ent := t.mergeSort fun x y => !(ltOf cmpE) y x
theorem sortE_perm (t : List Ent) : (sortE t).Perm t := List.mergeSort_perm _ _
theorem sortE_length (t : List Ent) : (sortE t).length = t.length := (sortE_perm t).length_eq
theorem sortE_up (t : List Ent) : (sortE t).Pairwise fun x y => ¬ ahead y x := by
  have := List.pairwise_mergeSort (le := fun x y => !(ltOf cmpE) y x) (by
    intro a b c h1 h2
    simp only [ltOf_cmpE, Bool.not_eq_true', decide_eq_false_iff_not] at *
    exact le_trans_E h1 h2) (by
    intro a b
    simp only [ltOf_cmpE, Bool.or_eq_true, Bool.not_eq_true', decide_eq_false_iff_not]
    by_cases h : ahead b a
    · exact .inr (ahead_asymm h)
    · exact .inl h) t
  exact this.imp fun {a b} h => by simpa only [ltOf_cmpE, Bool.not_eq_true', decide_eq_false_iff_not] using h
theorem sortE_of {t x : List Ent} (hp : t.Perm x) (hx : x.Pairwise fun a b => ¬ ahead b a) : sortE t = x :=
  List.Perm.eq_of_pairwise (le := fun x y => ¬ ahead y x) (fun a b _ _ h1 h2 => antisymm_E h1 h2) (sortE_up t) hx ((sortE_perm t).trans hp)
theorem sortE_same {t x : List Ent} (hp : t.Perm x) : sortE t = sortE x := sortE_of (hp.trans (sortE_perm x).symm) (sortE_up x)
/-- the document's choice: the first ones, in their order -/
def chooseF (t : List Ent) (copies : Int) : List Int := ((sortE t).take copies.toNat).map (·.1)

theorem sortE_getElem {t : List Ent} {i j : Nat} {x y : Ent} (hi : (sortE t)[i]? = some x) (hj : (sortE t)[j]? = some y) (hij : i < j) : ¬ ahead y x := by
  obtain ⟨h1, rfl⟩ := List.getElem?_eq_some_iff.1 hi
  obtain ⟨h2, rfl⟩ := List.getElem?_eq_some_iff.1 hj
  exact List.pairwise_iff_getElem.1 (sortE_up t) i j h1 h2 hij
theorem chooseF_length (t : List Ent) (c : Int) : (chooseF t c).length = min c.toNat t.length := by
  unfold chooseF
  rw [List.length_map, List.length_take, sortE_length]
theorem chooseF_same {t x : List Ent} (hp : t.Perm x) (c : Int) : chooseF t c = chooseF x c := by
  unfold chooseF
  rw [sortE_same hp]
theorem chooseF_take (t : List Ent) {a b : Int} (h : a ≤ b) : chooseF t a = (chooseF t b).take a.toNat := by
  unfold chooseF
  rw [← List.map_take, List.take_take]
  congr 2
  omega
/-- the first of them is the least -/
theorem chooseF_one {t : List Ent} {x : Ent} (hx : x ∈ t) (hm : ∀ y ∈ t, ¬ ahead y x) : chooseF t 1 = [x.1] := by
  unfold chooseF
  have hp := sortE_perm t
  cases hs : sortE t with
  | nil =>
    rw [hs] at hp
    have := hp.mem_iff.2 hx
    cases this
  | cons y r =>
    have hy : y ∈ t := by rw [hs] at hp; exact hp.mem_iff.1 (by simp)
    have h1 := hm y hy
    have h2 : ¬ ahead x y := by
      have hx2 : x ∈ y :: r := by rw [hs] at hp; exact hp.mem_iff.2 hx
      rcases List.mem_cons.1 hx2 with rfl | h
      · exact ahead_irr _
      · have hu := sortE_up t
        rw [hs] at hu
        exact (List.pairwise_cons.1 hu).1 x h
    obtain rfl := antisymm_E h2 h1
    simp

/-! ### chosen one by one, of those that aren't used -/
/-- those that aren't marked -/
def restL : List Ent → List Bool → List Ent
  | [], _ => []
  | x :: l, [] => x :: restL l []
  | x :: l, b :: u => if b then restL l u else x :: restL l u
theorem restL_new (l : List Ent) : restL l (List.replicate l.length false) = l := by
  induction l with
  | nil => rfl
  | cons x l ih => simp [restL, List.replicate_succ, ih]
theorem restL_mem : ∀ {l : List Ent} {u : List Bool} {x : Ent}, u.length = l.length → (x ∈ restL l u ↔ ∃ i : Nat, l[i]? = some x ∧ u[i]? = some false)
  | [], u, x, h => by simp [restL]
  | y :: l, [], x, h => by simp at h
  | y :: l, b :: u, x, h => by
    have ih := restL_mem (l := l) (u := u) (x := x) (by simpa using h)
    have e : (∃ i : Nat, (y :: l)[i]? = some x ∧ (b :: u)[i]? = some false) ↔ (y = x ∧ b = false) ∨ ∃ i : Nat, l[i]? = some x ∧ u[i]? = some false := by
      constructor
      · rintro ⟨i, h1, h2⟩
        cases i with
        | zero => simp at h1 h2; exact .inl ⟨h1, h2⟩
        | succ i => simp at h1 h2; exact .inr ⟨i, h1, h2⟩
      · rintro (⟨h1, h2⟩ | ⟨i, h1, h2⟩)
        · exact ⟨0, by simp [h1], by simp [h2]⟩
        · exact ⟨i + 1, by simpa using h1, by simpa using h2⟩
    rw [e, ← ih]
    cases b with
    | true => simp [restL]
    | false => simp [restL, eq_comm]
theorem restL_mark : ∀ {l : List Ent} {u : List Bool} {i : Nat} {x : Ent}, u.length = l.length → l[i]? = some x → u[i]? = some false → (restL l u).Perm (x :: restL l (u.set i true))
  | [], u, i, x, h, h1, h2 => by simp at h1
  | y :: l, [], i, x, h, h1, h2 => by simp at h2
  | y :: l, b :: u, 0, x, h, h1, h2 => by
    simp at h1 h2
    subst h1; subst h2
    simp [restL]
  | y :: l, b :: u, i + 1, x, h, h1, h2 => by
    have ih := restL_mark (l := l) (u := u) (i := i) (x := x) (by simpa using h) (by simpa using h1) (by simpa using h2)
    cases b with
    | true => simpa [restL] using ih
    | false =>
      simp only [restL, List.set_cons_succ, Bool.false_eq_true, if_false]
      exact (ih.cons y).trans (List.Perm.swap x y _)
/-- m were chosen so far -/
structure Taken (l : List Ent) (u : List Bool) (m : Nat) : Prop where
  len : u.length = l.length
  most : m ≤ l.length
  rest : (restL l u).Perm ((sortE l).drop m)
theorem Taken.new (l : List Ent) : Taken l (List.replicate l.length false) 0 := ⟨by simp, Nat.zero_le _, by rw [restL_new, List.drop_zero]; exact (sortE_perm l).symm⟩
/-- the one that none of those left is ahead of is the next -/
theorem Taken.next {l : List Ent} {u : List Bool} {m i : Nat} {x : Ent} (h : Taken l u m) (hx : l[i]? = some x) (hu : u[i]? = some false) (hm : ∀ (j : Nat) y, l[j]? = some y → u[j]? = some false → ¬ ahead y x) :
    (sortE l)[m]? = some x ∧ Taken l (u.set i true) (m + 1) := by
  have hp := restL_mark h.len hx hu
  have h1 := hp.symm.trans h.rest
  have hxr : x ∈ (sortE l).drop m := h1.mem_iff.1 (by simp)
  have hml : m < (sortE l).length := by
    have := List.length_pos_of_mem hxr
    rw [List.length_drop] at this
    omega
  have hd := List.drop_eq_getElem_cons hml
  obtain ⟨y, hy⟩ : ∃ y, (sortE l)[m] = y := ⟨_, rfl⟩
  rw [hy] at hd
  have hyr : y ∈ restL l u := h.rest.mem_iff.2 (by rw [hd]; simp)
  obtain ⟨j, hj1, hj2⟩ := (restL_mem h.len).1 hyr
  have n1 := hm j y hj1 hj2
  have n2 : ¬ ahead x y := by
    rw [hd] at hxr
    rcases List.mem_cons.1 hxr with rfl | hxr
    · exact ahead_irr _
    · have hu := (sortE_up l).sublist (List.drop_sublist m _)
      rw [hd] at hu
      exact (List.pairwise_cons.1 hu).1 x hxr
  obtain rfl := antisymm_E n1 n2
  refine ⟨by rw [List.getElem?_eq_getElem hml, hy], by rw [List.length_set]; exact h.len, by rw [sortE_length] at hml; omega, ?_⟩
  rw [hd] at h1
  exact h1.cons_inv
theorem Taken.some_left {l : List Ent} {u : List Bool} {m : Nat} (h : Taken l u m) (hm : m < l.length) : ∃ (i : Nat) (x : Ent), l[i]? = some x ∧ u[i]? = some false := by
  have h1 := h.rest.length_eq
  rw [List.length_drop, sortE_length] at h1
  cases hr : restL l u with
  | nil => rw [hr] at h1; simp at h1; omega
  | cons x r =>
    obtain ⟨i, hi⟩ := (restL_mem h.len).1 (show x ∈ restL l u by rw [hr]; simp)
    exact ⟨i, x, hi⟩
end Go.Proofs.Ytfigohlgckandaa
