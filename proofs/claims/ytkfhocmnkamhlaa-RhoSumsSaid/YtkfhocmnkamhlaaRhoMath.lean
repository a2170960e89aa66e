/-
  Counts (Cn: how many, and how many by reservation), a tracker's numbers by definition (GoodT), and what the document says of a row of events (begR, totR: from the end). They speak of no program of ours. No condition but what each lemma names.
-/
import Derived.Test.YtkfhocmnkamhlaaHeapMath
namespace Go.Proofs.Ytkfhocmnkamhlaa
set_option linter.unusedVariables false

abbrev Cn := Int × Int
def addC (a b : Cn) : Cn := (a.1 + b.1, a.2 + b.2)
def subC (a b : Cn) : Cn := (a.1 - b.1, a.2 - b.2)
def oneC (p : Int) : Cn := if p = 1 then (1, 1) else if p = 2 then (1, 0) else (0, 0)
def updC (f : Int → Cn) (k : Int) (c : Cn) : Int → Cn := fun x => if x = k then c else f x
theorem updC_same (f : Int → Cn) (k : Int) (c : Cn) : updC f k c k = c := by simp [updC]
theorem updC_other {f : Int → Cn} {k j : Int} {c : Cn} (h : j ≠ k) : updC f k c j = f j := by simp [updC, h]
theorem updC_id (f : Int → Cn) (k : Int) : updC f k (f k) = f := by
  funext x
  unfold updC
  split
  · rename_i h; rw [h]
  · rfl
theorem oneC_cases (p : Int) : oneC p = (1, 1) ∨ oneC p = (1, 0) ∨ oneC p = (0, 0) := by
  unfold oneC
  split
  · exact .inl rfl
  · split
    · exact .inr (.inl rfl)
    · exact .inr (.inr rfl)
/-- a tracker's numbers: the total, and what each server knows -/
structure GoodT (n : Nat) (t : Cn) (f : Int → Cn) : Prop where
  top : t.1 ≤ (n : Int)
  all : ∀ k, 0 ≤ (f k).2 ∧ (f k).2 ≤ (f k).1 ∧ (f k).2 ≤ t.2 ∧ t.2 - (f k).2 ≤ t.1 - (f k).1
theorem GoodT.zero : GoodT 0 (0, 0) fun _ => (0, 0) := ⟨by simp, fun k => by simp⟩
theorem GoodT.mono {n m : Nat} {t : Cn} {f : Int → Cn} (h : GoodT n t f) (hm : n ≤ m) : GoodT m t f := ⟨by have := h.top; omega, h.all⟩
theorem GoodT.begun {n : Nat} {t : Cn} {f : Int → Cn} (h : GoodT n t f) (s : Int) : GoodT n t (updC f s t) := ⟨h.top, fun k => by
  by_cases hk : k = s
  · subst hk
    rw [updC_same]
    have := h.all k
    omega
  · rw [updC_other hk]
    exact h.all k⟩
theorem GoodT.more {n : Nat} {t : Cn} {f : Int → Cn} (h : GoodT n t f) (p : Int) : GoodT (n + 1) (addC t (oneC p)) f := by
  have ht := h.top
  rcases oneC_cases p with e | e | e <;> rw [e] <;> exact ⟨by simp [addC]; omega, fun k => by have := h.all k; simp [addC]; omega⟩
theorem GoodT.done {n : Nat} {t : Cn} {f : Int → Cn} (h : GoodT n t f) (s p : Int) : GoodT (n + 1) (addC t (oneC p)) (updC f s (addC (f s) (oneC p))) := by
  refine ⟨(h.more p).top, fun k => ?_⟩
  by_cases hk : k = s
  · subst hk
    rw [updC_same]
    have := h.all k
    rcases oneC_cases p with e | e | e <;> rw [e] <;> simp [addC] <;> omega
  · rw [updC_other hk]
    exact (h.more p).all k
theorem GoodT.bd {n : Nat} {t : Cn} {f : Int → Cn} (h : GoodT n t f) (k : Int) : (0 ≤ t.1 ∧ t.1 ≤ n) ∧ (0 ≤ t.2 ∧ t.2 ≤ n) ∧ (0 ≤ (f k).1 ∧ (f k).1 ≤ t.1) ∧ (0 ≤ (f k).2 ∧ (f k).2 ≤ t.2) := by
  have h1 := h.top
  have h2 := h.all k
  omega
/-- what Begin leaves: as if what is new had come to be known -/
theorem begun_eq (t : Cn) (f : Int → Cn) (s : Int) : updC f s (addC (f s) (subC t (f s))) = updC f s t := by
  have e : addC (f s) (subC t (f s)) = t := by
    unfold addC subC
    exact Prod.ext (by simp; omega) (by simp; omega)
  rw [e]

/-! ### what the document says -/
abbrev Ev := Int × Int
def countsB (p : Int) (r : Bool) : Bool := decide (p = 1) || (decide (p = 2) && !r)
/-- events from the end: how many were done elsewhere since the server's last Begin -/
def begR (s : Int) (r : Bool) : List Ev → Nat
  | [] => 0
  | e :: l => if e.2 = 0 ∧ e.1 = s then 0 else (if e.1 ≠ s ∧ countsB e.2 r = true then 1 else 0) + begR s r l
def totR (r : Bool) : List Ev → Nat
  | [] => 0
  | e :: l => (if countsB e.2 r = true then 1 else 0) + totR r l
theorem begR_cons (s : Int) (r : Bool) (e : Ev) (l : List Ev) : begR s r (e :: l) = if e.2 = 0 ∧ e.1 = s then 0 else (if e.1 ≠ s ∧ countsB e.2 r = true then 1 else 0) + begR s r l := rfl
theorem totR_cons (r : Bool) (e : Ev) (l : List Ev) : totR r (e :: l) = (if countsB e.2 r = true then 1 else 0) + totR r l := rfl
theorem begR_le (s : Int) (r : Bool) : ∀ l : List Ev, begR s r l ≤ l.length
  | [] => Nat.le_refl _
  | e :: l => by
    have := begR_le s r l
    unfold begR
    rw [List.length_cons]
    split
    · omega
    · split <;> omega
theorem totR_le (r : Bool) : ∀ l : List Ev, totR r l ≤ l.length
  | [] => Nat.le_refl _
  | e :: l => by
    have := totR_le r l
    unfold totR
    rw [List.length_cons]
    split <;> omega
theorem counts_one (p : Int) : oneC p = ((if countsB p false = true then 1 else 0 : Int), (if countsB p true = true then 1 else 0 : Int)) := by
  unfold oneC countsB
  by_cases h1 : p = 1
  · subst h1; rfl
  · by_cases h2 : p = 2
    · subst h2; rfl
    · simp [h1, h2]
/-- a tracker's numbers are the document's -/
structure Tells (l : List Ev) (t : Cn) (f : Int → Cn) : Prop where
  tot : t = ((totR false l : Int), (totR true l : Int))
  beg : ∀ s, subC t (f s) = ((begR s false l : Int), (begR s true l : Int))
theorem Tells.nil : Tells [] (0, 0) fun _ => (0, 0) := ⟨rfl, fun _ => rfl⟩
theorem Tells.begun {l : List Ev} {t : Cn} {f : Int → Cn} (h : Tells l t f) (s : Int) : Tells ((s, 0) :: l) t (updC f s t) := by
  refine ⟨?_, fun k => ?_⟩
  · rw [h.tot]
    simp [totR, countsB]
  · by_cases hk : k = s
    · subst hk
      rw [updC_same]
      simp [subC, begR]
    · rw [updC_other hk, h.beg k]
      have : ¬ s = k := fun e => hk e.symm
      simp [begR, countsB, this]
theorem Tells.done {l : List Ev} {t : Cn} {f : Int → Cn} (h : Tells l t f) (s p : Int) (hp : p ≠ 0) : Tells ((s, p) :: l) (addC t (oneC p)) (updC f s (addC (f s) (oneC p))) := by
  have ht := h.tot
  refine ⟨?_, fun k => ?_⟩
  · rw [ht, counts_one]
    unfold addC
    rw [totR_cons, totR_cons]
    exact Prod.ext (by simp only; split <;> omega) (by simp only; split <;> omega)
  · have hb := h.beg k
    by_cases hk : k = s
    · subst hk
      rw [updC_same]
      have e : subC (addC t (oneC p)) (addC (f k) (oneC p)) = subC t (f k) := by
        unfold subC addC
        exact Prod.ext (by simp; omega) (by simp; omega)
      rw [e, hb]
      simp [begR, hp]
    · rw [updC_other hk]
      have e : subC (addC t (oneC p)) (f k) = addC (subC t (f k)) (oneC p) := by
        unfold subC addC
        exact Prod.ext (by simp; omega) (by simp; omega)
      have hs : ¬ s = k := fun e => hk e.symm
      rw [e, hb, counts_one]
      unfold addC
      rw [begR_cons, begR_cons]
      simp only [hp, false_and, if_false, ne_eq, hs, not_false_eq_true, true_and]
      exact Prod.ext (by simp only; split <;> omega) (by simp only; split <;> omega)
end Go.Proofs.Ytkfhocmnkamhlaa
