/-
  Joined: QuoMath, QuoFn, QuoSli, HeapMath, MapI, SameI. Conditions: each theorem's own.
-/
import Derived.Test.YtdlgihgdpdiglaaGreatJPack
import Derived.Test.YtdlgihgdpdiglaaGreatJWords
import Derived.BigQuiet
import Derived.Deep.QuietTactic
import Derived.IntWalk
import Derived.Test.YtdlgihgdpdiglaaGreatProg
import Derived.Test.YtdlgihgdpdiglaaGreatShelf
import Derived.Lib.OwnBridge
import Derived.Sort.OwnSortedInts
import Derived.WalkKit
import Derived.Lib.Small
import Derived.Maps.RangeWalk
import Derived.Maps.OwnSet
import Derived.Laws.OwnMore

section
namespace Go.Proofs.YtdlgihgdpdiglaaGreat.quo
set_option linter.unusedVariables false

/-! ### members that are right -/
def InQ (x : Int) : Prop := 0 ≤ x ∧ x ≤ 15
instance (x : Int) : Decidable (InQ x) := by unfold InQ; infer_instance
def GoodQ (l : List Int) : Prop := (∀ x ∈ l, InQ x) ∧ l.Pairwise (· < ·)
instance (l : List Int) : Decidable (GoodQ l) := by unfold GoodQ; infer_instance
def RightQ (l : List Int) : Prop := (1 ≤ l.length ∧ l.length ≤ 7) ∧ GoodQ l
instance (l : List Int) : Decidable (RightQ l) := by unfold RightQ; infer_instance

theorem good_nil : GoodQ [] := ⟨fun x h => absurd h (by simp), List.Pairwise.nil⟩
theorem good_sub {xs ys : List Int} (h : GoodQ (xs ++ ys)) : GoodQ xs := ⟨fun x hx => h.1 x (List.mem_append_left _ hx), (List.pairwise_append.1 h.2).1⟩
theorem good_take {l : List Int} (h : GoodQ l) (k : Nat) : GoodQ (l.take k) := good_sub (ys := l.drop k) (by rw [List.take_append_drop]; exact h)
theorem le_last {xs : List Int} {y : Int} (h : (xs ++ [y]).Pairwise (· < ·)) : ∀ a ∈ xs ++ [y], a ≤ y := by
  intro a ha
  rcases List.mem_append.1 ha with h1 | h1
  · exact Int.le_of_lt ((List.pairwise_append.1 h).2.2 a h1 y (by simp))
  · simp at h1; omega
/-- the first -/
theorem good_one {x : Int} : GoodQ [x] ↔ InQ x := by
  simp [GoodQ]
/-- one more behind y -/
theorem good_snoc {xs : List Int} {y x : Int} (h : GoodQ (xs ++ [y])) : GoodQ (xs ++ [y] ++ [x]) ↔ InQ x ∧ y < x := by
  constructor
  · intro h1
    refine ⟨h1.1 x (by simp), ?_⟩
    exact (List.pairwise_append.1 h1.2).2.2 y (by simp) x (by simp)
  · rintro ⟨h1, h2⟩
    refine ⟨fun a ha => ?_, List.pairwise_append.2 ⟨h.2, by simp, fun a ha b hb => ?_⟩⟩
    · rcases List.mem_append.1 ha with h3 | h3
      · exact h.1 a h3
      · simp at h3; subst h3; exact h1
    · simp at hb; subst hb
      have := le_last h.2 a ha
      omega
theorem take_snoc {α : Type} {l : List α} {k : Nat} {x : α} (h : l[k]? = some x) : l.take (k + 1) = l.take k ++ [x] := by
  obtain ⟨hk, rfl⟩ := List.getElem?_eq_some_iff.1 h
  exact List.take_succ_eq_append_getElem hk
/-- one step of the look -/
theorem good_step0 {l : List Int} {x : Int} (h0 : l[0]? = some x) : GoodQ (l.take 1) ↔ InQ x := by
  rw [take_snoc h0, List.take_zero, List.nil_append]
  exact good_one
theorem good_step {l : List Int} {k : Nat} {y x : Int} (h : GoodQ (l.take (k + 1))) (hy : l[k]? = some y) (hx : l[k + 1]? = some x) : GoodQ (l.take (k + 1 + 1)) ↔ InQ x ∧ y < x := by
  rw [take_snoc hx, take_snoc hy]
  rw [take_snoc hy] at h
  exact good_snoc h
theorem rising_ext : ∀ {x y : List Int}, x.Pairwise (· < ·) → y.Pairwise (· < ·) → (∀ a, a ∈ x ↔ a ∈ y) → x = y
  | [], [], _, _, _ => rfl
  | [], b :: s, _, _, h => absurd ((h b).2 (by simp)) (by simp)
  | a :: r, [], _, _, h => absurd ((h a).1 (by simp)) (by simp)
  | a :: r, b :: s, hx, hy, h => by
    rw [List.pairwise_cons] at hx hy
    have e : a = b := by
      rcases List.mem_cons.1 ((h a).1 (by simp)) with h1 | h1
      · exact h1
      · rcases List.mem_cons.1 ((h b).2 (by simp)) with h2 | h2
        · exact h2.symm
        · have := hx.1 b h2
          have := hy.1 a h1
          omega
    subst e
    congr 1
    refine rising_ext hx.2 hy.2 fun c => ⟨fun hc => ?_, fun hc => ?_⟩
    · rcases List.mem_cons.1 ((h c).1 (List.mem_cons_of_mem _ hc)) with h1 | h1
      · have := hx.1 c hc; omega
      · exact h1
    · rcases List.mem_cons.1 ((h c).2 (List.mem_cons_of_mem _ hc)) with h1 | h1
      · have := hy.1 c hc; omega
      · exact h1

/-! ### what a majority has -/
def cntGe (vs : List Int) (v : Int) : Nat := vs.countP fun x => decide (v ≤ x)
/-- i is the greatest number that more than half have, at least -/
def IsIdx (vs : List Int) (i : Int) : Prop := ∀ v, v ≤ i ↔ vs.length < 2 * cntGe vs v
theorem IsIdx.one {vs : List Int} {i j : Int} (h : IsIdx vs i) (k : IsIdx vs j) : i = j := by
  have h1 := (k i).2 ((h i).1 (Int.le_refl _))
  have h2 := (h j).2 ((k j).1 (Int.le_refl _))
  omega
theorem IsIdx.perm {vs us : List Int} {i : Int} (h : IsIdx vs i) (p : vs.Perm us) : IsIdx us i := by
  intro v
  rw [h v, cntGe, cntGe, p.countP_eq, p.length_eq]
theorem idx_sorted {s : List Int} {k : Nat} {x : Int} (hs : s.Pairwise (· ≤ ·)) (hk : k + (s.length / 2 + 1) = s.length) (hx : s[k]? = some x) : IsIdx s x := by
  intro v
  have hlt : k < s.length := by omega
  have e : s = s.take k ++ s.drop k := (List.take_append_drop k s).symm
  have hgd : s[k] = x := by
    rw [List.getElem?_eq_getElem hlt] at hx
    exact Option.some.inj hx
  have hd : s.drop k = x :: s.drop (k + 1) := by rw [List.drop_eq_getElem_cons hlt, hgd]
  have hp : (s.take k ++ x :: s.drop (k + 1)).Pairwise (· ≤ ·) := by rw [← hd, List.take_append_drop]; exact hs
  have hp' := List.pairwise_append.1 hp
  have hp2 := List.pairwise_cons.1 hp'.2.1
  have hc : cntGe s v = cntGe (s.take k) v + cntGe (x :: s.drop (k + 1)) v := by
    conv => lhs; rw [e, hd]
    exact List.countP_append
  rw [hc]
  constructor
  · intro hv
    have : cntGe (x :: s.drop (k + 1)) v = (x :: s.drop (k + 1)).length := by
      rw [cntGe, List.countP_eq_length]
      intro a ha
      rcases List.mem_cons.1 ha with h1 | h1
      · subst h1; simpa using hv
      · have := hp2.1 a h1
        simp; omega
    rw [this, List.length_cons, List.length_drop]
    omega
  · intro hlen
    refine Int.not_lt.1 fun hv => ?_
    have h1 : cntGe (s.take k) v = 0 := by
      rw [cntGe, List.countP_eq_zero]
      intro a ha
      have := hp'.2.2 a ha x (by simp)
      simp; omega
    have h2 : cntGe (x :: s.drop (k + 1)) v ≤ (s.drop (k + 1)).length := by
      rw [cntGe, List.countP_cons_of_neg (by simp; omega)]
      exact List.countP_le_length
    rw [List.length_drop] at h2
    omega
theorem idx_mem {vs : List Int} {i : Int} (h : IsIdx vs i) (hl : 0 < vs.length) : i ∈ vs := by
  refine Decidable.byContradiction fun hn => ?_
  have h1 : cntGe vs i = cntGe vs (i + 1) := by
    unfold cntGe
    apply List.countP_congr
    intro a ha
    have : a ≠ i := fun e => hn (e ▸ ha)
    simp; omega
  have h2 := (h i).1 (Int.le_refl _)
  rw [h1] at h2
  have := (h (i + 1)).2 h2
  omega
/-- who has more can't make it less -/
theorem idx_more {vs us : List Int} {i j : Int} (h : IsIdx vs i) (k : IsIdx us j) (hl : us.length = vs.length) (hm : ∀ v, cntGe vs v ≤ cntGe us v) : i ≤ j := by
  refine (k i).2 ?_
  have h1 := (h i).1 (Int.le_refl _)
  have h2 := hm i
  omega
/-- what all have a majority has -/
theorem idx_least {vs : List Int} {i m : Int} (h : IsIdx vs i) (hl : 0 < vs.length) (hm : ∀ x ∈ vs, m ≤ x) : m ≤ i := by
  refine (h m).2 ?_
  have : cntGe vs m = vs.length := by
    rw [cntGe, List.countP_eq_length]
    intro a ha
    simpa using hm a ha
  omega

/-! ### who won -/
def cntIn (l yes : List Int) : Nat := l.countP fun x => decide (x ∈ yes)
def wonQ (l yes : List Int) : Bool := decide (RightQ l ∧ l.length < 2 * cntIn l yes)
/-- who has said yes has 1 -/
def saidF (yes : List Int) (k : Int) : Int := if k ∈ yes ∧ InQ k then 1 else 0
theorem said_won {l yes : List Int} {i : Int} (hr : RightQ l) (h : IsIdx (l.map (saidF yes)) i) : decide (i = 1) = wonQ l yes := by
  have h1 : cntGe (l.map (saidF yes)) 1 = cntIn l yes := by
    unfold cntGe cntIn
    rw [List.countP_map]
    apply List.countP_congr
    intro a ha
    have := hr.2.1 a ha
    by_cases hy : a ∈ yes
    · have e : saidF yes a = 1 := if_pos ⟨hy, this⟩
      simp [e, hy]
    · have e : saidF yes a = 0 := if_neg fun h => hy h.1
      simp [e, hy]
  have h2 : cntGe (l.map (saidF yes)) 2 = 0 := by
    rw [cntGe, List.countP_map, List.countP_eq_zero]
    intro a _
    by_cases hy : a ∈ yes ∧ InQ a
    · have e : saidF yes a = 1 := if_pos hy
      simp [e]
    · have e : saidF yes a = 0 := if_neg hy
      simp [e]
  have hi1 := h 1
  have hi2 := h 2
  rw [h1, List.length_map] at hi1
  rw [h2] at hi2
  unfold wonQ
  rw [decide_eq_decide]
  constructor
  · rintro rfl
    exact ⟨hr, hi1.1 (Int.le_refl _)⟩
  · rintro ⟨_, h3⟩
    have h4 := hi1.2 h3
    have h5 : ¬ 2 ≤ i := fun h6 => by have := hi2.1 h6; omega
    omega
theorem countP_both {α : Type} (p q : α → Bool) : ∀ l : List α, l.countP p + l.countP q ≤ l.length + l.countP fun x => p x && q x
  | [] => by simp
  | a :: r => by
    have ih := countP_both p q r
    simp only [List.countP_cons, List.length_cons]
    cases p a <;> cases q a <;> simp <;> omega
/-- two that are enough meet -/
theorem meet_of {l a b : List Int} (h : l.length < cntIn l a + cntIn l b) : ∃ x ∈ l, x ∈ a ∧ x ∈ b := by
  have h1 := countP_both (fun x => decide (x ∈ a)) (fun x => decide (x ∈ b)) l
  unfold cntIn at h
  have h2 : 0 < l.countP fun x => decide (x ∈ a) && decide (x ∈ b) := by omega
  obtain ⟨x, hx, hxp⟩ := List.countP_pos_iff.1 h2
  exact ⟨x, hx, by simpa using hxp⟩

/-! ### changes -/
def changeE (l : List Int) (add : Bool) (id : Int) : Nat :=
  if ¬ RightQ l ∨ ¬ InQ id then 1 else if add = true ∧ id ∈ l then 8 else if add = false ∧ ¬ id ∈ l then 7 else if add = true ∧ l.length = 7 then 6 else if add = false ∧ l.length = 1 then 9 else 0
/-- l with id where it belongs -/
def putQ (l : List Int) (id : Int) : List Int := l.take (l.countP fun x => decide (x < id)) ++ [id] ++ l.drop (l.countP fun x => decide (x < id))
/-- l without the one at id's place -/
def outQ (l : List Int) (id : Int) : List Int := l.take (l.countP fun x => decide (x < id)) ++ l.drop ((l.countP fun x => decide (x < id)) + 1)
def changeL (l : List Int) (add : Bool) (id : Int) : List Int := if changeE l add id = 0 then (if add = true then putQ l id else outQ l id) else []

theorem parts_below : ∀ {l : List Int} (id : Int), l.Pairwise (· < ·) → (∀ x ∈ l.take (l.countP fun x => decide (x < id)), x < id) ∧ (∀ x ∈ l.drop (l.countP fun x => decide (x < id)), id ≤ x)
  | [], _, _ => by simp
  | a :: r, id, h => by
    rw [List.pairwise_cons] at h
    have ih := parts_below (l := r) id h.2
    by_cases ha : a < id
    · rw [List.countP_cons_of_pos (by simpa using ha)]
      refine ⟨fun x hx => ?_, fun x hx => ?_⟩
      · rw [List.take_succ_cons] at hx
        rcases List.mem_cons.1 hx with h1 | h1
        · omega
        · exact ih.1 x h1
      · rw [List.drop_succ_cons] at hx
        exact ih.2 x hx
    · rw [List.countP_cons_of_neg (by simpa using ha)]
      have h0 : r.countP (fun x => decide (x < id)) = 0 := by
        rw [List.countP_eq_zero]
        intro x hx
        have := h.1 x hx
        simp; omega
      rw [h0]
      refine ⟨fun x hx => by simp at hx, fun x hx => ?_⟩
      rw [List.drop_zero] at hx
      rcases List.mem_cons.1 hx with h1 | h1
      · omega
      · have := h.1 x h1; omega
theorem place_lt {l : List Int} {id : Int} (h : l.Pairwise (· < ·)) (hm : id ∈ l) : (l.countP fun x => decide (x < id)) < l.length ∧ l[l.countP fun x => decide (x < id)]? = some id := by
  have hp := parts_below id h
  have hle : (l.countP fun x => decide (x < id)) ≤ l.length := List.countP_le_length
  generalize hk : (l.countP fun x => decide (x < id)) = k at hp hle
  have e : l = l.take k ++ l.drop k := (List.take_append_drop k l).symm
  have hd : id ∈ l.drop k := by
    rw [e] at hm
    rcases List.mem_append.1 hm with h1 | h1
    · have := hp.1 id h1; omega
    · exact h1
  cases hc : l.drop k with
  | nil => rw [hc] at hd; cases hd
  | cons b s =>
    have hlt : k < l.length := by
      have : (l.drop k).length = s.length + 1 := by rw [hc]; rfl
      rw [List.length_drop] at this
      omega
    refine ⟨hlt, ?_⟩
    have hb : l[k]? = some b := by
      have : (l.drop k)[0]? = some b := by rw [hc]; rfl
      rw [List.getElem?_drop] at this
      simpa using this
    rw [hb]
    rw [hc] at hd
    rcases List.mem_cons.1 hd with h1 | h1
    · rw [h1]
    · have h2 := hp.2 b (by rw [hc]; simp)
      have h3 : (b :: s).Pairwise (· < ·) := by
        rw [← hc]
        exact h.sublist (List.drop_sublist _ _)
      have := (List.pairwise_cons.1 h3).1 id h1
      omega
theorem mem_putQ {l : List Int} {id a : Int} : a ∈ putQ l id ↔ a ∈ l ∨ a = id := by
  unfold putQ
  conv => rhs; rw [← List.take_append_drop (l.countP fun x => decide (x < id)) l]
  simp only [List.mem_append, List.mem_singleton]
  constructor
  · rintro ((h | h) | h)
    · exact .inl (.inl h)
    · exact .inr h
    · exact .inl (.inr h)
  · rintro ((h | h) | h)
    · exact .inl (.inl h)
    · exact .inr h
    · exact .inl (.inr h)
theorem rising_putQ {l : List Int} {id : Int} (h : l.Pairwise (· < ·)) (hm : ¬ id ∈ l) : (putQ l id).Pairwise (· < ·) := by
  have hp := parts_below id h
  unfold putQ
  have h2 : (l.take (l.countP fun x => decide (x < id)) ++ l.drop (l.countP fun x => decide (x < id))).Pairwise (· < ·) := by rw [List.take_append_drop]; exact h
  have h3 := List.pairwise_append.1 h2
  have hgt : ∀ x ∈ l.drop (l.countP fun x => decide (x < id)), id < x := fun x hx => by
    have h4 := hp.2 x hx
    have h5 : x ≠ id := fun e => hm (e ▸ List.mem_of_mem_drop hx)
    omega
  refine List.pairwise_append.2 ⟨List.pairwise_append.2 ⟨h3.1, by simp, fun a ha b hb => ?_⟩, h3.2.1, fun a ha b hb => ?_⟩
  · simp at hb; subst hb; exact hp.1 a ha
  · rcases List.mem_append.1 ha with h4 | h4
    · exact h3.2.2 a h4 b hb
    · simp at h4; subst h4; exact hgt b hb
theorem length_putQ (l : List Int) (id : Int) : (putQ l id).length = l.length + 1 := by
  unfold putQ
  have : (l.countP fun x => decide (x < id)) ≤ l.length := List.countP_le_length
  simp only [List.length_append, List.length_take, List.length_drop, List.length_singleton]
  omega
theorem mem_outQ {l : List Int} {id a : Int} (h : l.Pairwise (· < ·)) (hm : id ∈ l) : a ∈ outQ l id ↔ a ∈ l ∧ a ≠ id := by
  have hpl := place_lt h hm
  have hp := parts_below id h
  unfold outQ
  generalize hk : (l.countP fun x => decide (x < id)) = k at hpl hp
  have hd : l.drop k = id :: l.drop (k + 1) := by
    rw [List.drop_eq_getElem_cons hpl.1]
    congr 1
    have := hpl.2
    rw [List.getElem?_eq_getElem hpl.1] at this
    exact Option.some.inj this
  have h2 : (l.take k ++ l.drop k).Pairwise (· < ·) := by rw [List.take_append_drop]; exact h
  have h3 := (List.pairwise_append.1 h2).2.1
  rw [hd, List.pairwise_cons] at h3
  conv => rhs; rw [← List.take_append_drop k l, hd]
  simp only [List.mem_append, List.mem_cons]
  constructor
  · rintro (h4 | h4)
    · have := hp.1 a h4
      exact ⟨.inl h4, by omega⟩
    · have := h3.1 a h4
      exact ⟨.inr (.inr h4), by omega⟩
  · rintro ⟨h4 | h4 | h4, h5⟩
    · exact .inl h4
    · exact absurd h4 h5
    · exact .inr h4
theorem rising_outQ {l : List Int} {id : Int} (h : l.Pairwise (· < ·)) : (outQ l id).Pairwise (· < ·) := by
  refine h.sublist ?_
  unfold outQ
  conv => rhs; rw [← List.take_append_drop (l.countP fun x => decide (x < id)) l]
  refine List.Sublist.append (List.Sublist.refl _) ?_
  rw [← List.drop_drop]
  exact List.drop_sublist _ _
theorem length_outQ {l : List Int} {id : Int} (h : l.Pairwise (· < ·)) (hm : id ∈ l) : (outQ l id).length + 1 = l.length := by
  have hpl := place_lt h hm
  unfold outQ
  simp only [List.length_append, List.length_take, List.length_drop]
  omega

/-- what a change that is done says -/
theorem change_ok {l : List Int} {add : Bool} {id : Int} (h : changeE l add id = 0) : RightQ l ∧ InQ id ∧ (add = true → ¬ id ∈ l ∧ l.length < 7) ∧ (add = false → id ∈ l ∧ 1 < l.length) := by
  unfold changeE at h
  split at h
  · cases h
  · rename_i h1
    rw [not_or, Decidable.not_not, Decidable.not_not] at h1
    split at h
    · cases h
    · rename_i h2
      split at h
      · cases h
      · rename_i h3
        split at h
        · cases h
        · rename_i h4
          split at h
          · cases h
          · rename_i h5
            refine ⟨h1.1, h1.2, fun e => ⟨fun hm => h2 ⟨e, hm⟩, ?_⟩, fun e => ⟨Decidable.byContradiction fun hm => h3 ⟨e, hm⟩, ?_⟩⟩
            · have : ¬ l.length = 7 := fun e2 => h4 ⟨e, e2⟩
              have := h1.1.1.2
              omega
            · have : ¬ l.length = 1 := fun e2 => h5 ⟨e, e2⟩
              have := h1.1.1.1
              omega
theorem changeL_put {l : List Int} {id : Int} (h : changeE l true id = 0) : changeL l true id = putQ l id := by unfold changeL; rw [if_pos h, if_pos rfl]
theorem changeL_out {l : List Int} {id : Int} (h : changeE l false id = 0) : changeL l false id = outQ l id := by unfold changeL; rw [if_pos h, if_neg (by decide)]
theorem changeL_no {l : List Int} {add : Bool} {id : Int} (h : changeE l add id ≠ 0) : changeL l add id = [] := by unfold changeL; rw [if_neg h]
/-- who is among them behind a change -/
theorem mem_change {l : List Int} {add : Bool} {id a : Int} (h : changeE l add id = 0) : a ∈ changeL l add id ↔ (a ∈ l ∧ (add = true ∨ a ≠ id)) ∨ (add = true ∧ a = id) := by
  have hk := change_ok h
  cases add with
  | true =>
    rw [changeL_put h, mem_putQ]
    simp
  | false =>
    rw [changeL_out h, mem_outQ hk.1.2.2 (hk.2.2.2 rfl).1]
    simp
theorem right_change {l : List Int} {add : Bool} {id : Int} (h : changeE l add id = 0) : RightQ (changeL l add id) := by
  have hk := change_ok h
  refine ⟨?_, fun a ha => ?_, ?_⟩
  · cases add with
    | true => rw [changeL_put h, length_putQ]; have := hk.2.2.1 rfl; omega
    | false =>
      rw [changeL_out h]
      have h1 := length_outQ hk.1.2.2 (hk.2.2.2 rfl).1
      have := hk.2.2.2 rfl
      have := hk.1.1
      omega
  · rcases (mem_change h).1 ha with h1 | h1
    · exact hk.1.2.1 a h1.1
    · rw [h1.2]; exact hk.2.1
  · cases add with
    | true => rw [changeL_put h]; exact rising_putQ hk.1.2.2 (hk.2.2.1 rfl).1
    | false => rw [changeL_out h]; exact rising_outQ hk.1.2.2
/-- a change is undone by the other one -/
theorem change_back {l : List Int} {id : Int} (h : changeE l true id = 0) : changeE (changeL l true id) false id = 0 ∧ changeL (changeL l true id) false id = l := by
  have hk := change_ok h
  have hr := right_change h
  have hm : id ∈ changeL l true id := (mem_change h).2 (.inr ⟨rfl, rfl⟩)
  have hl : (changeL l true id).length = l.length + 1 := by rw [changeL_put h, length_putQ]
  have h0 : changeE (changeL l true id) false id = 0 := by
    unfold changeE
    rw [if_neg (by rw [not_or, Decidable.not_not, Decidable.not_not]; exact ⟨hr, hk.2.1⟩), if_neg (by simp), if_neg (by simp [hm]), if_neg (by simp), if_neg (by have := hk.1.1.1; omega)]
  refine ⟨h0, rising_ext (right_change h0).2.2 hk.1.2.2 fun a => ?_⟩
  rw [mem_change h0, mem_change h]
  have := (hk.2.2.1 rfl).1
  constructor
  · rintro (⟨(h1 | h1), h2⟩ | h1)
    · exact h1.1
    · simp at h2; exact absurd h1.2 h2
    · cases h1.1
  · intro ha
    exact .inl ⟨.inl ⟨ha, .inl rfl⟩, .inr fun e => this (e ▸ ha)⟩
/-- the document's own way: all numbers one by one -/
def refIn (l : List Int) (add : Bool) (id v : Int) : Bool := (decide (v ∈ l) && (add || v != id)) || (add && v == id)
def upTo (n : Nat) : List Int := (List.range n).map fun (i : Nat) => (i : Int)
theorem rising_upTo (n : Nat) : (upTo n).Pairwise (· < ·) := by
  unfold upTo
  rw [List.pairwise_map]
  exact List.pairwise_lt_range.imp fun h => by omega
theorem upTo_succ (n : Nat) : upTo (n + 1) = upTo n ++ [(n : Int)] := by
  unfold upTo
  rw [List.range_succ, List.map_append]; rfl
theorem ref_change {l : List Int} {add : Bool} {id : Int} (h : changeE l add id = 0) : (upTo 16).filter (refIn l add id) = changeL l add id := by
  have hk := right_change h
  refine rising_ext ((rising_upTo 16).filter _) hk.2.2 fun a => ?_
  rw [mem_change h, List.mem_filter]
  have hin : a ∈ changeL l add id → a ∈ upTo 16 := fun ha => by
    have := hk.2.1 a ha
    unfold InQ at this
    unfold upTo
    rw [List.mem_map]
    exact ⟨a.toNat, List.mem_range.2 (by omega), by omega⟩
  have hb : refIn l add id a = true ↔ (a ∈ l ∧ (add = true ∨ a ≠ id)) ∨ (add = true ∧ a = id) := by
    unfold refIn
    simp
  rw [hb]
  exact ⟨fun h1 => h1.2, fun h1 => ⟨hin ((mem_change h).2 h1), h1⟩⟩

/-! ### majorities meet -/
theorem won_right {l a : List Int} (h : wonQ l a = true) : RightQ l ∧ l.length < 2 * cntIn l a := by
  unfold wonQ at h
  simpa using h
theorem meet_same {l a b : List Int} (h : wonQ l a = true) (k : wonQ l b = true) : ∃ x ∈ l, x ∈ a ∧ x ∈ b := by
  have h1 := (won_right h).2
  have h2 := (won_right k).2
  exact meet_of (by omega)
theorem cnt_put (l b : List Int) (id : Int) : cntIn (putQ l id) b ≤ cntIn l b + 1 := by
  have e : cntIn l b = (l.take (l.countP fun x => decide (x < id))).countP (fun x => decide (x ∈ b)) + (l.drop (l.countP fun x => decide (x < id))).countP (fun x => decide (x ∈ b)) := by
    rw [← List.countP_append, List.take_append_drop]; rfl
  have e2 : [id].countP (fun x => decide (x ∈ b)) ≤ 1 := List.countP_le_length (l := [id])
  unfold putQ
  unfold cntIn at e ⊢
  rw [List.countP_append, List.countP_append]
  omega
theorem cnt_out {l b : List Int} {id : Int} (h : l.Pairwise (· < ·)) (hm : id ∈ l) : cntIn l b ≤ cntIn (outQ l id) b + 1 ∧ cntIn (outQ l id) b ≤ cntIn l b := by
  have hpl := place_lt h hm
  generalize hk : (l.countP fun x => decide (x < id)) = k at hpl
  have hd : l.drop k = id :: l.drop (k + 1) := by
    rw [List.drop_eq_getElem_cons hpl.1]
    congr 1
    have := hpl.2
    rw [List.getElem?_eq_getElem hpl.1] at this
    exact Option.some.inj this
  have e : cntIn l b = (l.take k).countP (fun x => decide (x ∈ b)) + ([id].countP (fun x => decide (x ∈ b)) + (l.drop (k + 1)).countP (fun x => decide (x ∈ b))) := by
    rw [← List.countP_append, ← List.countP_append]
    have : l.take k ++ ([id] ++ l.drop (k + 1)) = l := by rw [List.singleton_append, ← hd, List.take_append_drop]
    rw [this]; rfl
  have e2 : [id].countP (fun x => decide (x ∈ b)) ≤ 1 := List.countP_le_length (l := [id])
  unfold outQ
  rw [hk]
  unfold cntIn at e ⊢
  rw [List.countP_append]
  omega
theorem meet_next {l a b : List Int} {add : Bool} {id : Int} (h : wonQ l a = true) (hc : changeE l add id = 0) (k : wonQ (changeL l add id) b = true) : (∃ x ∈ l, x ∈ a ∧ x ∈ b) ∧ ∃ x ∈ changeL l add id, x ∈ a ∧ x ∈ b := by
  have h1 := won_right h
  have h2 := won_right k
  have hk := change_ok hc
  cases add with
  | true =>
    rw [changeL_put hc, length_putQ] at h2
    have h3 := cnt_put l b id
    obtain ⟨x, hx, hab⟩ := meet_of (l := l) (a := a) (b := b) (by omega)
    exact ⟨⟨x, hx, hab⟩, x, (mem_change hc).2 (.inl ⟨hx, .inl rfl⟩), hab⟩
  | false =>
    rw [changeL_out hc] at h2
    have hm := (hk.2.2.2 rfl).1
    have hr := hk.1.2.2
    have h3 := length_outQ hr hm
    have h4 := cnt_out (b := a) hr hm
    obtain ⟨x, hx, hab⟩ := meet_of (l := outQ l id) (a := a) (b := b) (by omega)
    exact ⟨⟨x, ((mem_outQ hr hm).1 hx).1, hab⟩, x, by rw [changeL_out hc]; exact hx, hab⟩
end Go.Proofs.YtdlgihgdpdiglaaGreat.quo
end

section
namespace Go.Proofs.YtdlgihgdpdiglaaGreat.quo
open Go.ChangeShapes Go.WideShapes Go.ChangeAt Go.RowKit
set_option linter.unusedVariables false

theorem bool_ret' {a b : Bool} (h : a = b) : Ending.returned (.bool a) = Ending.returned (.bool b) := by rw [h]
theorem isId_any (n : Int) (w : World) : Calls Tryz.prog 70 #[.int .i64 n] w fun e w' => e = .returned (.bool (decide (InQ n))) ∧ w' = w := by
  by_cases h1 : 0 ≤ n
  · by_cases h2 : n ≤ 15
    · rw [show decide (InQ n) = true from decide_eq_true ⟨h1, h2⟩]
      go_enter Tryz.func70, Tryz.ntmps70
      go_wp2
      go_ret
      exact ⟨rfl, rfl⟩
    · rw [show decide (InQ n) = false from decide_eq_false (fun h => h2 h.2)]
      go_enter Tryz.func70, Tryz.ntmps70
      go_wp2
      go_ret
      exact ⟨rfl, rfl⟩
  · rw [show decide (InQ n) = false from decide_eq_false (fun h => h1 h.1)]
    go_enter Tryz.func70, Tryz.ntmps70
    go_wp2
    go_ret
    exact ⟨rfl, rfl⟩

/-- how many are more than half -/
def majQ (n : Nat) : Nat := if n < 1 then 0 else n / 2 + 1
theorem Majority_any (n : Nat) (w : World) (hn : n ≤ 1000000) : Calls Tryz.prog 199 #[.int .i64 (n : Int)] w fun e w' => e = .returned (.int .i64 (majQ n : Int)) ∧ w' = w := by
  unfold majQ
  by_cases h1 : n < 1
  · rw [if_pos h1]
    have h2 : (n : Int) < 1 := by omega
    go_enter Tryz.func199, Tryz.ntmps199
    go_wp2
    go_ret
    exact ⟨rfl, rfl⟩
  · rw [if_neg h1]
    have h2 : ¬ (n : Int) < 1 := by omega
    have h3 : ((n : Int).tdiv 2) = ((n / 2 : Nat) : Int) := by
      rw [Int.tdiv_eq_ediv_of_nonneg (by omega)]; omega
    have h4 : IntKind.i64.wrap ((n / 2 : Nat) : Int) = ((n / 2 : Nat) : Int) := by rw [IntKind.wrap_i64]; omega
    have h5 : IntKind.i64.wrap (((n / 2 : Nat) : Int) + 1) = ((n / 2 : Nat) : Int) + 1 := by rw [IntKind.wrap_i64]; omega
    go_enter Tryz.func199, Tryz.ntmps199
    go_wp2
    go_ret
    exact ⟨rfl, rfl⟩

theorem not_good {l : List Int} {k : Nat} (h : ¬ GoodQ (l.take k)) : decide (RightQ l) = false := decide_eq_false fun hr => h (good_take hr.2 k)
set_option maxRecDepth 100000 in
theorem Right_any (A : Option Addr) (n c : Nat) (us : List Int) (w : World) (hn : us.length = n) (hm : n ≤ maxLen) (hs : Seen w A (numsV us)) :
    Calls Tryz.prog 33 #[.slice A n c] w fun e w' => e = .returned (.bool (decide (RightQ us))) ∧ w' = w := by
  unfold maxLen at hm
  by_cases h1 : n < 1
  · rw [show decide (RightQ us) = false from decide_eq_false fun h => by have := h.1.1; omega]
    have h2 : (n : Int) < 1 := by omega
    clear hn hs
    go_enter Tryz.func33, Tryz.ntmps33
    go_wp2
    go_ret
    exact ⟨rfl, rfl⟩
  · by_cases h7 : 7 < n
    · rw [show decide (RightQ us) = false from decide_eq_false fun h => by have := h.1.2; omega]
      have h2 : ¬ (n : Int) < 1 := by omega
      have h3 : (7 : Int) < (n : Int) := by omega
      clear hn hs
      go_enter Tryz.func33, Tryz.ntmps33
      go_wp2
      go_ret
      exact ⟨rfl, rfl⟩
    · have h2 : ¬ (n : Int) < 1 := by omega
      have h3 : ¬ (7 : Int) < (n : Int) := by omega
      have Hs := Lib.hid hs; have Hn := Lib.hid hn
      clear hs hn
      go_enter Tryz.func33, Tryz.ntmps33
      go_wp2
      go_loopw [15] (fun i wr => ∃ k : Nat, k ≤ n ∧ i = .int .i64 k ∧ wr = w ∧ GoodQ (us.take k)) (fun i _ => n - (intOf i).toNat)
      case atStart => exact ⟨0, by omega, rfl, rfl, good_nil⟩
      case round =>
        obtain ⟨k, hk, rfl, rfl, hg⟩ := hrel
        have Hg := Lib.hid hg; clear hg
        by_cases hlt : k < n
        · obtain ⟨g, o, x, rfl, hx, hc⟩ := Hs.out.num (j := k) (by have := Hn.out; omega)
          have Hx := Lib.hid hx; clear hx
          have b0 : (0 : Int) ≤ (k : Int) := by omega
          have b1 : (k : Int) < (n : Int) := by omega
          rcases k with _ | k
          · have c0 : wr.cell? ⟨g, o, none⟩ = some (.int .i64 x) := hc
            by_cases hi : InQ x
            · have Hi := Lib.hid hi; clear hi
              go_wp2_with (go_at_call 70; refine (isId_any x _).mono ?_; rintro e w1 ⟨rfl, rfl⟩; rw [show decide (InQ x) = true from decide_eq_true Hi.out])
              go_roundw
              case rel => exact ⟨1, by omega, by go_num, by first | trivial | rfl, (good_step0 Hx.out).2 Hi.out⟩
              case measure => simp [intOf]; omega
            · have Hi := Lib.hid hi; clear hi
              go_wp2_with (go_at_call 70; refine (isId_any x _).mono ?_; rintro e w1 ⟨rfl, rfl⟩; rw [show decide (InQ x) = false from decide_eq_false Hi.out])
              go_ret
              exact ⟨bool_ret' (not_good (k := 1) fun h => Hi.out ((good_step0 Hx.out).1 h)).symm, rfl⟩
          · obtain ⟨g2, o2, y, e2, hy, hc2⟩ := Hs.out.num (j := k) (by have := Hn.out; omega)
            injection e2 with e2
            injection e2 with e2 e3 _
            subst e2; subst e3
            have Hy := Lib.hid hy; clear hy
            obtain ⟨K, hK⟩ : ∃ K, k + 1 = K := ⟨_, rfl⟩
            rw [hK] at hc b0 b1 hk hlt ⊢
            have s1 : IntKind.i64.wrap ((K : Int) - 1) = (k : Int) := by rw [IntKind.wrap_i64]; omega
            have b2 : (0 : Int) ≤ (k : Int) := by omega
            have b3 : (k : Int) < (n : Int) := by omega
            have b4 : (0 : Int) < (K : Int) := by omega
            have HK := Lib.hid hK; clear hK
            have step := good_step Hg.out Hy.out Hx.out
            rw [HK.out] at step
            have Hst := Lib.hid step; clear step
            by_cases hi : InQ x
            · have Hi := Lib.hid hi; clear hi
              by_cases hyx : y < x
              · have q1 : ¬ x ≤ y := by omega
                go_wp2_with (go_at_call 70; refine (isId_any x _).mono ?_; rintro e w1 ⟨rfl, rfl⟩; rw [show decide (InQ x) = true from decide_eq_true Hi.out])
                go_roundw
                case rel => exact ⟨K + 1, by omega, by go_num, by first | trivial | rfl, Hst.out.2 ⟨Hi.out, by omega⟩⟩
                case measure => simp [intOf]; omega
              · have q1 : x ≤ y := by omega
                go_wp2_with (go_at_call 70; refine (isId_any x _).mono ?_; rintro e w1 ⟨rfl, rfl⟩; rw [show decide (InQ x) = true from decide_eq_true Hi.out])
                go_ret
                exact ⟨bool_ret' (not_good (k := K + 1) fun h => by have := (Hst.out.1 h).2; omega).symm, rfl⟩
            · have Hi := Lib.hid hi; clear hi
              go_wp2_with (go_at_call 70; refine (isId_any x _).mono ?_; rintro e w1 ⟨rfl, rfl⟩; rw [show decide (InQ x) = false from decide_eq_false Hi.out])
              go_ret
              exact ⟨bool_ret' (not_good (k := K + 1) fun h => Hi.out (Hst.out.1 h).1).symm, rfl⟩
        · obtain rfl : k = n := by omega
          go_wp2
          go_ret
          exact ⟨bool_ret' (decide_eq_true ⟨⟨by have := Hn.out; omega, by have := Hn.out; omega⟩, by have := Hg.out; rwa [List.take_of_length_le (by have := Hn.out; omega)] at this⟩).symm, rfl⟩
end Go.Proofs.YtdlgihgdpdiglaaGreat.quo
end

section
namespace Go.Proofs.YtdlgihgdpdiglaaGreat.quo
open Go.ChangeShapes Go.WideShapes Go.ChangeAt Go.RowKit Go.Sort
set_option linter.unusedVariables false

theorem seen_ints {w : World} {A : Option Addr} {xs : List Int} (h : Seen w A (numsV xs)) (h0 : 0 < xs.length) :
    ∃ b off, A = some ⟨b, off, none⟩ ∧ ∀ j, j < xs.length → w.cell? ⟨b, off + j, none⟩ = some (.int .i64 (xs.getD j 0)) := by
  rcases h with h | ⟨g, o, hA, hc⟩
  · have : xs = [] := by simpa [numsV] using h
    subst this; simp at h0
  · refine ⟨g, o, hA, fun j hj => hc j _ ?_⟩
    simp only [numsV, List.getElem?_map, List.getElem?_eq_getElem hj, Option.map_some, List.getD_eq_getElem?_getD, Option.getD_some]

/-- a copy in a row of its own -/
theorem IClone_any (A : Option Addr) (n c : Nat) (xs : List Int) (w : World) (hn : xs.length = n) (h0 : 0 < n) (hl : n ≤ 1000000) (hs : Seen w A (numsV xs)) :
    Calls Tryz.prog 36 #[.slice A n c] w fun e w' => ∃ g cap, e = .returned (.slice (some ⟨g, 0, none⟩) n cap) ∧ w.heap.size ≤ g ∧ w'.ownsRow w.heap.size 3 1 (.slice (some ⟨g, 0, none⟩) n cap) n (numsV xs) ∧ Below w.heap.size w w' := by
  obtain ⟨b, off, rfl, hc⟩ := seen_ints hs (by omega)
  refine (Any.slices_Clone_int Tryz.intsClone b off n c xs w (by omega) (by omega) hc).mono ?_
  rintro e w' ⟨v, rfl, hown, hne, hb⟩
  rw [List.take_of_length_le (by omega)] at hown
  have hown : w'.ownsRow w.heap.size 3 1 v n (numsV xs) := hown
  obtain ⟨g, cap, rfl, hg, _⟩ := hown.form (by omega)
  exact ⟨g, cap, rfl, (hown.lt g rfl).1, hown, hb⟩

theorem ISort_any (B g n c : Nat) (xs : List Int) (w : World) (hl : n ≤ 1000000) (h : w.ownsRow B 3 1 (.slice (some ⟨g, 0, none⟩) n c) n (numsV xs)) :
    Calls Tryz.prog 198 #[.slice (some ⟨g, 0, none⟩) n c] w fun e w' => e = .returned (.tuple #[]) ∧ w'.ownsRow B 3 1 (.slice (some ⟨g, 0, none⟩) n c) n (numsV (xs.mergeSort fun x y => decide (x ≤ y))) ∧ Turned (fun k => k = g) w w' := by
  have hlen : xs.length = n := by have := h.1; rw [numsV_length] at this; omega
  subst hlen
  rcases h.2 with ⟨e0, _⟩ | ⟨g', cap, cur, e0, hb, hg, hn, hm, hs, ht⟩
  · cases e0
  injection e0 with e1 _ e3
  injection e1 with e1
  injection e1 with e1
  subst e1; subst e3
  rw [Nat.mul_one] at ht
  have hH := holds_of_blockI (ss := xs) hg ht
  refine (Any.slices_Sort_int Tryz.intsSort g 0 c xs w hH (Array.getElem?_eq_some_iff.1 hg).1 (by omega)).mono ?_
  rintro e w' ⟨rfl, n, os, rfl⟩
  refine ⟨rfl, ownsRow_sortedI (ss := xs) (List.length_mergeSort _) hb hg hn hm hs, Turned.of_grown (grownBy_sortedI _) fun k e => ?_⟩
  injection e with e
  exact e.symm

theorem ISearch_any (A : Option Addr) (n c : Nat) (xs : List Int) (x : Int) (w : World) (hn : xs.length = n) (h0 : 0 < n) (hl : n ≤ 1000000) (hs : Seen w A (numsV xs)) (hr : xs.Pairwise (· < ·)) :
    Calls Tryz.prog 84 #[.slice A n c, .int .i64 x] w fun e w' => e = .returned (.tuple #[Value.int .i64 ((xs.countP fun a => decide (a < x)) : Nat), .bool (decide (x ∈ xs))]) ∧ Below w.heap.size w w' := by
  obtain ⟨b, off, rfl, hc⟩ := seen_ints hs (by omega)
  refine (Any.slices_BinarySearch_int Tryz.intsBinarySearch b off n c xs x w (by omega) (by omega) hc ((hr.imp fun h => by omega).sublist (List.take_sublist _ _))).mono ?_
  rintro e w' ⟨rfl, q, rfl⟩
  rw [List.take_of_length_le (by omega)]
  refine ⟨?_, below_drewN (Below.refl _ _) q⟩
  have : xs.contains x = decide (x ∈ xs) := by rw [List.contains_eq_mem]
  rw [this]

theorem IDelete_any (B g n c i : Nat) (xs : List Int) (w : World) (hi : i < n) (hB : B ≤ g) (h : w.ownsRow B 3 1 (.slice (some ⟨g, 0, none⟩) n c) n (numsV xs)) :
    Calls Tryz.prog 86 #[.slice (some ⟨g, 0, none⟩) n c, .int .i64 (i : Int), .int .i64 ((i : Int) + 1)] w fun e w' => e = .returned (.slice (some ⟨g, 0, none⟩) (n - 1) c) ∧ w'.ownsRow B 3 1 (.slice (some ⟨g, 0, none⟩) (n - 1) c) (n - 1) (numsV (xs.take i ++ xs.drop (i + 1))) ∧ Below B w w' := by
  have hlen : xs.length = n := by have := h.1; rw [numsV_length] at this; omega
  obtain ⟨g', cap, e0, hb, hlt, hn, hm, _, hH⟩ := Lib.holds_of_ownsRow (enc := Value.int .i64) (zs := xs) h (by simp)
  injection e0 with e1 _ e3
  injection e1 with e1
  injection e1 with e1
  subst e1; subst e3
  have hC := Any.slices_Delete_int Tryz.intsDelete g 0 c i (i + 1) xs w hH (by omega) (by unfold maxLen at hm; omega) (by omega) (by omega)
  rw [hlen, show i + 1 - i = 1 by omega] at hC
  refine hC.mono ?_
  rintro e w' ⟨rfl, q, rfl⟩
  refine ⟨rfl, ?_, Lib.below_putRow (Below.refl _ _) hB⟩
  have hy : (xs.take i ++ xs.drop (i + 1) ++ List.replicate 1 0).length = n := by
    simp only [List.length_append, List.length_take, List.length_drop, List.length_replicate]; omega
  have := Lib.ownsRow_putRow (enc := Value.int .i64) (zs := xs) (ys := xs.take i ++ xs.drop (i + 1) ++ List.replicate 1 0) (q := q) (k := n - 1) h hy (by omega)
  have hl2 : (xs.take i ++ xs.drop (i + 1)).length = n - 1 := by simp only [List.length_append, List.length_take, List.length_drop]; omega
  have et : (xs.take i ++ xs.drop (i + 1) ++ List.replicate 1 0).take (n - 1) = xs.take i ++ xs.drop (i + 1) := by rw [← hl2, List.take_left]
  rw [et] at this
  exact this

/-! ### cells stored side by side -/
theorem turned_cellsI {p : Nat → Prop} {a : World} {b : Nat} (hb : b < a.heap.size → p b) : ∀ (vs : List Value) (o : Nat) (w : World), Turned p a w → Turned p a (w.setCells b o vs)
  | [], o, w, h => h
  | v :: r, o, w, h => turned_cellsI hb r (o + 1) (w.setCell ⟨b, o, none⟩ v) (h.setCell (b := ⟨b, o, none⟩) hb v)
theorem set_row {b : Nat} {e : TypeId} {Z : List Value} : ∀ (vs X Y : List Value) (w : World) (o : Nat), w.heap[b]? = some (.cells (X ++ Y ++ Z).toArray e (0, 0)) → vs.length = Y.length → X.length = o → (w.setCells b o vs).heap[b]? = some (.cells (X ++ vs ++ Z).toArray e (0, 0))
  | [], X, [], w, o, h, _, _ => h
  | [], X, y :: Y, w, o, h, hl, _ => by simp at hl
  | v :: r, X, [], w, o, h, hl, _ => by simp at hl
  | v :: r, X, y :: Y, w, o, h, hl, ho => by
    have h1 := row_set h o v
    have e1 : (X ++ y :: Y ++ Z).toArray.setIfInBounds o v = ((X ++ [v]) ++ Y ++ Z).toArray := by
      subst ho
      apply Array.ext'
      simp
    rw [e1] at h1
    have := set_row r (X ++ [v]) Y (w.setCell ⟨b, o, none⟩ v) (o + 1) h1 (by simpa using hl) (by simp [ho])
    have e2 : X ++ v :: r ++ Z = X ++ [v] ++ r ++ Z := by simp
    rw [e2]
    exact this

/-- one more, at its place -/
theorem IInsert_any (B g n c i vb : Nat) (xs : List Int) (x : Int) (tv : TypeId) (w : World) (hi : i ≤ n) (h0 : 0 < n) (hl : n ≤ 1000000) (hB : B ≤ g) (hBw : B ≤ w.heap.size) (h : w.ownsRow B 3 1 (.slice (some ⟨g, 0, none⟩) n c) n (numsV xs))
    (hv : w.heap[vb]? = some (.cells #[Value.int .i64 x] tv (0, 0))) (hne : vb ≠ g) :
    Calls Tryz.prog 85 #[.slice (some ⟨g, 0, none⟩) n c, .int .i64 (i : Int), .slice (some ⟨vb, 0, none⟩) 1 1] w fun e w' => ∃ A' c', e = .returned (.slice A' (n + 1) c') ∧ w'.ownsRow B 3 1 (.slice A' (n + 1) c') (n + 1) (numsV (xs.take i ++ [x] ++ xs.drop i)) ∧ Below B w w' := by
  have hlen : xs.length = n := by have := h.1; rw [numsV_length] at this; omega
  rcases h.2 with ⟨e0, _⟩ | ⟨g', cap, cur, e0, hb, hg, hn, hm, hs, ht⟩
  · cases e0
  injection e0 with e1 _ e3
  injection e1 with e1
  injection e1 with e1
  subst e1; subst e3
  rw [Nat.mul_one] at ht hs
  have hm' : c ≤ 9223372036854775807 := by unfold maxLen at hm; omega
  have hcs : ∀ (j : Nat) v, (numsV xs)[j]? = some v → w.cell? ⟨g, 0 + j, none⟩ = some v := fun j v hj => by
    rw [row_cell hg, Nat.zero_add]
    rw [← ht, List.getElem?_take] at hj
    split at hj
    · rw [← Array.getElem?_toList]; exact hj
    · cases hj
  have hvs : ∀ (j : Nat) v, ([Value.int .i64 x] : List Value)[j]? = some v → w.cell? ⟨vb, 0 + j, none⟩ = some v := fun j v hj => by
    rw [row_cell hv, Nat.zero_add]; simpa using hj
  have h1v : ∀ v ∈ ([Value.int .i64 x] : List Value), v.oneCell' = true := by intro v hv; simp at hv; subst hv; rfl
  have hcl : (numsV xs).length = n := by rw [numsV_length, hlen]
  have hlt := (Array.getElem?_eq_some_iff.1 hg).1
  have eall : numsV (xs.take i ++ [x] ++ xs.drop i) = numsV (xs.take i) ++ [Value.int .i64 x] ++ numsV (xs.drop i) := by rw [numsV_append, numsV_append]; rfl
  have etk : (numsV xs).take i = numsV (xs.take i) := by unfold numsV; rw [List.map_take]
  have edr : (numsV xs).drop i = numsV (xs.drop i) := by unfold numsV; rw [List.map_drop]
  have elen : (numsV (xs.take i) ++ [Value.int .i64 x] ++ numsV (xs.drop i)).length = n + 1 := by
    simp only [List.length_append, numsV_length, List.length_take, List.length_drop, List.length_singleton]; omega
  have ecur : cur = (numsV xs ++ cur.toList.drop n).toArray := by
    rw [← ht]; simp
  rw [eall]
  by_cases hroom : n + 1 ≤ c
  · -- there is room
    obtain ⟨y, rest, hrest⟩ : ∃ y rest, cur.toList.drop n = y :: rest := by
      cases hd : cur.toList.drop n with
      | nil => have := congrArg List.length hd; simp at this; omega
      | cons y r => exact ⟨y, r, rfl⟩
    have hg1 : w.heap[g]? = some (.cells (numsV xs ++ y :: rest).toArray 3 (0, 0)) := by rw [hg, ecur, hrest]
    have hsz : (numsV xs ++ y :: rest).length = c := by rw [← hrest, ← hs]; have := congrArg Array.size ecur; simpa using this.symm
    have finish : ∀ w' : World, w'.heap[g]? = some (.cells (numsV (xs.take i) ++ [Value.int .i64 x] ++ numsV (xs.drop i) ++ rest).toArray 3 (0, 0)) →
        w'.ownsRow B 3 1 (.slice (some ⟨g, 0, none⟩) (n + 1) c) (n + 1) (numsV (xs.take i) ++ [Value.int .i64 x] ++ numsV (xs.drop i)) := fun w' hw' => by
      refine ⟨by rw [elen]; omega, .inr ⟨g, c, _, rfl, hb, hw', hroom, hm, ?_, ?_⟩⟩
      · rw [List.size_toArray, List.length_append, elen]
        rw [List.length_append, hcl, List.length_cons] at hsz
        omega
      · rw [Nat.mul_one, ← elen]
        simp only
        exact List.take_left
    by_cases hin : i < n
    · obtain ⟨d0, D, hD⟩ : ∃ d0 D, xs.drop i = d0 :: D := by
        cases hd : xs.drop i with
        | nil => have := congrArg List.length hd; simp at this; omega
        | cons y r => exact ⟨y, r, rfl⟩
      refine (Any2.slices_Insert_int_shift Tryz.intsInsert g 0 n c i vb 0 1 1 (numsV xs) [Value.int .i64 x] w hin (by omega) hroom hm' hne hcl rfl hcs ?_ ?_ hvs (numsV_one xs) h1v tv 3 1 cur.size ?_ ?_ (by omega) (row_frozen hv 0) (row_frozen hv 1)).mono ?_
      · intro j hj
        rw [row_cell hg, Array.getElem?_eq_getElem (by omega)]; rfl
      · intro j _; exact row_frozen hg _
      · simp [World.shape?, hv]
      · simp [World.shape?, hg]
      · rintro e w' ⟨rfl, rfl⟩
        have hdr : w.drew.heap[g]? = some (.cells ((numsV (xs.take i) ++ [Value.int .i64 d0]) ++ (numsV D ++ [y]) ++ rest).toArray 3 (0, 0)) := by
          show w.heap[g]? = _
          rw [hg1, ← List.take_append_drop i xs, hD]
          simp [numsV, List.append_assoc, Nat.min_eq_left (show i ≤ xs.length by omega)]
        have k1 := set_row ((numsV xs).drop i) _ _ _ (0 + (i + 1)) hdr (by rw [edr, hD]; simp [numsV]) (by simp [numsV]; omega)
        rw [edr] at k1
        have k2 : (w.drew.setCells g (0 + (i + 1)) (numsV (xs.drop i))).heap[g]? = some (.cells (numsV (xs.take i) ++ [Value.int .i64 d0] ++ (numsV (xs.drop i) ++ rest)).toArray 3 (0, 0)) := by rw [k1]; simp
        have k3 := set_row [Value.int .i64 x] _ [Value.int .i64 d0] _ (0 + i) k2 rfl (by simp [numsV]; omega)
        rw [edr]
        refine ⟨_, _, rfl, finish _ (by rw [k3]; simp), ?_⟩
        exact (turned_cellsI (p := fun k => k = g) (fun _ => rfl) _ _ _ (turned_cellsI (p := fun k => k = g) (fun _ => rfl) _ _ w.drew (Turned.of_below (below_drewN (Below.refl _ w) 1)))).below (fun k e => by omega) hBw
    · obtain rfl : i = n := by omega
      refine (Any2.slices_Insert_int_end_room Tryz.intsInsert g 0 i c vb 0 1 1 [Value.int .i64 x] w (by omega) hroom hm' rfl ?_ ?_ hvs h1v).mono ?_
      · intro j hj
        rw [row_cell hg, Array.getElem?_eq_getElem (by omega)]; rfl
      · intro j _; exact row_frozen hg _
      · rintro e w' ⟨rfl, rfl⟩
        have hdr : w.heap[g]? = some (.cells (numsV xs ++ [y] ++ rest).toArray 3 (0, 0)) := by rw [hg1]; simp
        have k1 := set_row [Value.int .i64 x] _ _ _ (0 + i) hdr rfl (by rw [hcl]; omega)
        refine ⟨_, _, rfl, finish _ ?_, ?_⟩
        · rw [k1, List.take_of_length_le (by omega), List.drop_eq_nil_of_le (by omega)]; simp [numsV]
        · exact (turned_cellsI (p := fun k => k = g) (fun _ => rfl) _ _ _ (Turned.refl _ _)).below (fun k e => by omega) hBw
  · -- a new row
    have hge := grownCap_ge w (n + 1) c 3
    have hcm := grownCap_le_maxLen w (n + 1) c 3 (by unfold maxLen; omega)
    by_cases hin : i < n
    · refine (Any2.slices_Insert_int_grow Tryz.intsInsert g 0 n c i vb 0 1 1 (numsV xs) [Value.int .i64 x] w hin (by omega) hn (by omega) (by omega) hcl rfl hcs hvs (numsV_one xs) h1v).mono ?_
      rintro e w' ⟨rfl, rfl⟩
      have hz1 : (Builtin.zeroCells (Value.int .i64 0).cells (n + 1 - i)).toList.length = n + 1 - i := by simp [size_zeroCells, Value.cells]
      obtain ⟨z0, zr, hzr⟩ : ∃ z0 zr, (Builtin.zeroCells (Value.int .i64 0).cells (n + 1 - i)).toList = z0 :: zr := by
        cases hd : (Builtin.zeroCells (Value.int .i64 0).cells (n + 1 - i)).toList with
        | nil => rw [hd] at hz1; simp at hz1; omega
        | cons y r => exact ⟨y, r, rfl⟩
      rw [hzr, List.length_cons] at hz1
      generalize hz2 : (Builtin.zeroCells (Value.int .i64 0).cells (grownCap w (n + 1) c 3 - (n + 1))) = zs2
      have hz2l : zs2.toList.length = grownCap w (n + 1) c 3 - (n + 1) := by rw [← hz2]; simp [size_zeroCells, Value.cells]
      have ha : ((numsV xs).take i).toArray ++ Builtin.zeroCells (Value.int .i64 0).cells (n + 1 - i) ++ zs2 = (numsV (xs.take i) ++ [z0] ++ (zr ++ zs2.toList)).toArray := by
        apply Array.ext'
        simp [hzr, etk]
      have e1 : ∀ zz, Builtin.zeroCells (Value.int .i64 0).cells (grownCap w (n + 1) c (Tryz.intsInsert_ren.t 3) - (n + 1)) = zz → zz = zs2 := fun zz h => h.symm.trans hz2
      have hw1 : (w.alloc (.cells (((numsV xs).take i).toArray ++ Builtin.zeroCells (Value.int .i64 0).cells (n + 1 - i) ++ Builtin.zeroCells (Value.int .i64 0).cells (grownCap w (n + 1) c (Tryz.intsInsert_ren.t 3) - (n + 1))) (Tryz.intsInsert_ren.t 3))).drew.heap[w.heap.size]? = some (.cells (numsV (xs.take i) ++ [z0] ++ (zr ++ zs2.toList)).toArray 3 (0, 0)) := by
        rw [e1 _ rfl, ha]
        exact heap_alloc_new w _
      have k1 := set_row [Value.int .i64 x] _ _ _ i hw1 rfl (by simp [numsV]; omega)
      generalize hW1 : ((w.alloc (.cells (((numsV xs).take i).toArray ++ Builtin.zeroCells (Value.int .i64 0).cells (n + 1 - i) ++ Builtin.zeroCells (Value.int .i64 0).cells (grownCap w (n + 1) c (Tryz.intsInsert_ren.t 3) - (n + 1))) (Tryz.intsInsert_ren.t 3))).drew.setCells w.heap.size i [Value.int .i64 x]) = W1 at k1 ⊢
      have k2 : W1.drew.heap[w.heap.size]? = some (.cells ((numsV (xs.take i) ++ [Value.int .i64 x]) ++ zr ++ zs2.toList).toArray 3 (0, 0)) := by
        show W1.heap[w.heap.size]? = _
        rw [k1]; simp
      have k3 := set_row ((numsV xs).drop i) _ _ _ (i + 1) k2 (by rw [edr, numsV_length, List.length_drop]; omega) (by simp [numsV]; omega)
      have tW : Turned (fun k => B ≤ k) w W1 := by
        rw [← hW1]
        exact turned_cellsI (fun h => absurd h (by omega)) _ _ _ (Turned.of_below (below_drewN ((Below.refl _ w).alloc (Nat.le_refl _) _) 1))
      refine ⟨_, _, rfl, ⟨by rw [elen]; omega, .inr ⟨w.heap.size, _, _, rfl, hBw, k3, hge, hcm, ?_, ?_⟩⟩, ?_⟩
      · rw [List.size_toArray, List.length_append, edr, elen, hz2l]
        show _ = grownCap w (n + 1) c 3 * 1
        omega
      · rw [Nat.mul_one, edr, ← elen]
        simp only
        exact List.take_left
      · refine (turned_cellsI (p := fun k => B ≤ k) (fun h => absurd h (by omega)) _ _ _ ?_).below (fun k e => e) hBw
        exact tW.trans (Turned.of_below (p := fun _ => False) (below_drewN (Below.refl _ W1) 1)) (fun _ e => e) (fun _ _ e => e.elim)
    · obtain rfl : i = n := by omega
      refine (Any2.slices_Insert_int_end_grow Tryz.intsInsert (some ⟨g, 0, none⟩) i c vb 0 1 1 (numsV xs) [Value.int .i64 x] w (by omega) hn (by omega) (by omega) hcl rfl (by simp) (fun a ea j v hj => by injection ea with ea; subst ea; rw [Addr.add_lit]; exact hcs j v hj) hvs h1v).mono ?_
      rintro e w' ⟨rfl, rfl⟩
      have hb2 : Below w.heap.size w (w.drew.alloc (.cells ((numsV xs ++ [Value.int .i64 x]).toArray ++ Builtin.zeroCells (Value.int .i64 0).cells (grownCap w (i + 1) c (Tryz.intsInsert_ren.t 3) - (i + 1))) (Tryz.intsInsert_ren.t 3))) := (below_drewN (Below.refl _ w) 1).alloc (Nat.le_refl _) _
      refine ⟨_, _, rfl, ⟨by rw [elen]; omega, .inr ⟨w.heap.size, _, _, rfl, hBw, heap_alloc_new w.drew _, hge, hcm, ?_, ?_⟩⟩, hb2.mono hBw⟩
      · simp only [Array.size_append, List.size_toArray, size_zeroCells, List.length_append, hcl, List.length_singleton, Value.cells]
        show i + 1 + (grownCap w (i + 1) c 3 - (i + 1)) * 1 = grownCap w (i + 1) c 3 * 1
        omega
      · rw [Nat.mul_one, show xs.take i = xs from List.take_of_length_le (by omega), show xs.drop i = [] from List.drop_eq_nil_of_le (by omega)]
        simp only [Array.toList_append]
        rw [show i + 1 = (numsV xs ++ [Value.int .i64 x]).length by rw [List.length_append, hcl]; rfl]
        rw [List.take_left]
        simp [numsV]
end Go.Proofs.YtdlgihgdpdiglaaGreat.quo
end

section
namespace Go.Proofs.YtdlgihgdpdiglaaGreat.quo
set_option linter.unusedVariables false

/-- a name and a key -/
abbrev Ent := Int × Int
def ahead (a b : Ent) : Prop := a.2 < b.2 ∨ (a.2 = b.2 ∧ a.1 < b.1)
instance (a b : Ent) : Decidable (ahead a b) := inferInstanceAs (Decidable (_ ∨ _))
theorem ahead_irr (a : Ent) : ¬ ahead a a := by unfold ahead; omega
theorem ahead_asymm {a b : Ent} (h : ahead a b) : ¬ ahead b a := by unfold ahead at *; omega
theorem ahead_trans {a b c : Ent} (h : ahead a b) (k : ahead b c) : ahead a c := by unfold ahead at *; omega
theorem le_trans_E {a b c : Ent} (h : ¬ ahead b a) (k : ¬ ahead c b) : ¬ ahead c a := by unfold ahead at *; omega
theorem antisymm_E {a b : Ent} (h : ¬ ahead b a) (k : ¬ ahead a b) : a = b := by
  obtain ⟨a1, a2⟩ := a
  obtain ⟨b1, b2⟩ := b
  unfold ahead at *
  simp only at h k
  have : a1 = b1 := by omega
  have : a2 = b2 := by omega
  simp_all

/-- as heap.compare tells it -/
def cmpE (a b : Ent) : Int := if Lib.compareInt a.2 b.2 = 0 then Lib.compareInt a.1 b.1 else Lib.compareInt a.2 b.2
theorem cmpI_lt (a b : Int) : Lib.compareInt a b < 0 ↔ a < b := by unfold Lib.compareInt; split <;> (try split) <;> omega
theorem cmpI_zero (a b : Int) : Lib.compareInt a b = 0 ↔ a = b := by unfold Lib.compareInt; split <;> (try split) <;> omega
theorem cmpI_range (a b : Int) : -1 ≤ Lib.compareInt a b ∧ Lib.compareInt a b ≤ 1 := by unfold Lib.compareInt; split <;> (try split) <;> omega
theorem cmpE_lt (a b : Ent) : cmpE a b < 0 ↔ ahead a b := by
  have h1 := cmpI_lt a.2 b.2; have h2 := cmpI_lt a.1 b.1; have h3 := cmpI_zero a.2 b.2
  unfold cmpE ahead
  split <;> omega
theorem cmpE_gt (a b : Ent) : 0 < cmpE a b ↔ ahead b a := by
  have h1 := cmpI_lt a.2 b.2; have h2 := cmpI_lt a.1 b.1; have h3 := cmpI_zero a.2 b.2; have h4 := cmpI_zero a.1 b.1
  unfold cmpE ahead
  split <;> omega
theorem cmpE_range (a b : Ent) : -1 ≤ cmpE a b ∧ cmpE a b ≤ 1 := by unfold cmpE; split <;> apply cmpI_range

/-- no entry of the tree is ahead of the one above it -/
def HeapOk (t : List Ent) : Prop := ∀ (i : Nat) a b, 0 < i → t[(i - 1) / 2]? = some a → t[i]? = some b → ¬ ahead b a
/-- a heap but for the place p, whose own entry counts no more -/
structure Hole (p : Nat) (t : List Ent) : Prop where
  off : ∀ (i : Nat) a b, 0 < i → i ≠ p → (i - 1) / 2 ≠ p → t[(i - 1) / 2]? = some a → t[i]? = some b → ¬ ahead b a
  over : ∀ (c : Nat) a b, 0 < p → 0 < c → (c - 1) / 2 = p → t[(p - 1) / 2]? = some a → t[c]? = some b → ¬ ahead b a
/-- e may stand below what stands above p -/
def AboveOk (p : Nat) (t : List Ent) (e : Ent) : Prop := ∀ a, 0 < p → t[(p - 1) / 2]? = some a → ¬ ahead e a

theorem HeapOk.nil : HeapOk [] := fun i a b _ h => by simp at h
theorem HeapOk.hole {t : List Ent} (h : HeapOk t) (p : Nat) : Hole p t := by
  refine ⟨fun i a b h0 _ _ ha hb => h i a b h0 ha hb, fun c a b hp hc he ha hb => ?_⟩
  have hl : p < t.length := by
    have := (List.getElem?_eq_some_iff.1 hb).1
    omega
  have h1 := h p a t[p] hp ha (List.getElem?_eq_getElem hl)
  have h2 := h c t[p] b hc (by rw [he]; exact List.getElem?_eq_getElem hl) hb
  exact le_trans_E h1 h2
theorem HeapOk.take {t : List Ent} (h : HeapOk t) (k : Nat) : HeapOk (t.take k) := by
  intro i a b h0 ha hb
  rw [List.getElem?_take] at ha hb
  split at ha
  · split at hb
    · exact h i a b h0 ha hb
    · cases hb
  · cases ha
theorem HeapOk.grow {t : List Ent} (h : HeapOk t) (z : Ent) : Hole t.length (t ++ [z]) := by
  have hh : ∀ {i : Nat} {b : Ent}, (t ++ [z])[i]? = some b → i ≠ t.length → t[i]? = some b := by
    intro i b hb hi
    have hl := (List.getElem?_eq_some_iff.1 hb).1
    rw [List.length_append, List.length_singleton] at hl
    rwa [List.getElem?_append_left (by omega)] at hb
  refine ⟨fun i a b h0 hi hp ha hb => h i a b h0 (hh ha hp) (hh hb hi), fun c a b hp hc he ha hb => ?_⟩
  have hl := (List.getElem?_eq_some_iff.1 hb).1
  rw [List.length_append, List.length_singleton] at hl
  omega
theorem set_get {t : List Ent} {p i : Nat} {a b : Ent} (h : (t.set p a)[i]? = some b) : (i = p ∧ b = a ∧ p < t.length) ∨ (i ≠ p ∧ t[i]? = some b) := by
  rw [List.getElem?_set] at h
  by_cases hi : p = i
  · rw [if_pos hi] at h
    split at h
    · injection h with h
      exact .inl ⟨hi.symm, h.symm, ‹_›⟩
    · cases h
  · rw [if_neg hi] at h
    exact .inr ⟨fun e => hi e.symm, h⟩
theorem get_set {t : List Ent} {p i : Nat} {a b : Ent} (hi : i ≠ p) (h : t[i]? = some b) : (t.set p a)[i]? = some b := by
  rw [List.getElem?_set, if_neg (fun e => hi e.symm)]; exact h
theorem get_set_self {t : List Ent} {p : Nat} {a : Ent} (h : p < t.length) : (t.set p a)[p]? = some a := by
  rw [List.getElem?_set, if_pos rfl, if_pos h]
theorem Hole.up {p : Nat} {t : List Ent} (h : Hole p t) (hp : 0 < p) {a : Ent} (ha : t[(p - 1) / 2]? = some a) : Hole ((p - 1) / 2) (t.set p a) := by
  refine ⟨fun i x y h0 hi hpi hx hy => ?_, fun c x y hq hc he hx hy => ?_⟩
  · rcases set_get hy with ⟨rfl, rfl, hl⟩ | ⟨hip, hy'⟩
    · exact absurd rfl hpi
    · rcases set_get hx with ⟨e, rfl, hl⟩ | ⟨hpp, hx'⟩
      · exact h.over i _ y hp h0 e ha hy'
      · exact h.off i x y h0 hip hpp hx' hy'
  · have hne : ((p - 1) / 2 - 1) / 2 ≠ p := by omega
    rcases set_get hx with ⟨e, _, _⟩ | ⟨_, hx⟩
    · exact absurd e hne
    · have h1 := h.off ((p - 1) / 2) x a hq (by omega) hne hx ha
      rcases set_get hy with ⟨rfl, rfl, hl⟩ | ⟨hcp, hy⟩
      · exact h1
      · exact le_trans_E h1 (h.off c a y hc hcp (by rw [he]; omega) (by rw [he]; exact ha) hy)
theorem Hole.down {p q : Nat} {t : List Ent} (h : Hole p t) (hq : 0 < q) (he : (q - 1) / 2 = p) {b : Ent} (hb : t[q]? = some b) (hleast : ∀ (j : Nat) y, 0 < j → (j - 1) / 2 = p → t[j]? = some y → ¬ ahead y b) : Hole q (t.set p b) := by
  refine ⟨fun i x y h0 hi hpi hx hy => ?_, fun c x y hq' hc hce hx hy => ?_⟩
  · rcases set_get hy with ⟨rfl, rfl, hl⟩ | ⟨hip, hy'⟩
    · rcases set_get hx with ⟨e, _, _⟩ | ⟨_, hx'⟩
      · omega
      · exact h.over q x _ h0 hq he hx' hb
    · rcases set_get hx with ⟨e, rfl, hl⟩ | ⟨hpp, hx'⟩
      · exact hleast i y h0 e hy'
      · exact h.off i x y h0 hip hpp hx' hy'
  · rcases set_get hx with ⟨_, rfl, _⟩ | ⟨hn, _⟩
    · rcases set_get hy with ⟨rfl, _, _⟩ | ⟨hcp, hy⟩
      · omega
      · exact h.off c x y hc hcp (by omega) (by rw [hce]; exact hb) hy
    · exact absurd he hn
theorem AboveOk.down {p q : Nat} {t : List Ent} {b e : Ent} (hl : p < t.length) (he : (q - 1) / 2 = p) (hbe : ahead b e) : AboveOk q (t.set p b) e := by
  intro a _ ha
  rw [he] at ha
  rcases set_get ha with ⟨_, rfl, _⟩ | ⟨hn, _⟩
  · exact ahead_asymm hbe
  · exact absurd rfl hn
theorem Hole.done {p : Nat} {t : List Ent} {e : Ent} (h : Hole p t) (ha : AboveOk p t e) (hb : ∀ (j : Nat) y, 0 < j → (j - 1) / 2 = p → t[j]? = some y → ¬ ahead y e) : HeapOk (t.set p e) := by
  intro i x y h0 hx hy
  rcases set_get hy with ⟨rfl, rfl, hl⟩ | ⟨hip, hy'⟩
  · rcases set_get hx with ⟨e1, _, _⟩ | ⟨_, hx'⟩
    · omega
    · exact ha x h0 hx'
  · rcases set_get hx with ⟨e1, rfl, hl⟩ | ⟨hpp, hx'⟩
    · exact hb i y h0 e1 hy'
    · exact h.off i x y h0 hip hpp hx' hy'
/-- the first is not behind any -/
theorem HeapOk.first {t : List Ent} (h : HeapOk t) {a : Ent} (ha : t[0]? = some a) : ∀ (i : Nat) b, t[i]? = some b → ¬ ahead b a := by
  intro i
  induction i using Nat.strongRecOn with
  | ind i ih =>
    intro b hb
    by_cases h0 : i = 0
    · subst h0
      rw [ha] at hb
      injection hb with hb
      subst hb
      exact ahead_irr _
    · have hl := (List.getElem?_eq_some_iff.1 hb).1
      have hp : (i - 1) / 2 < t.length := by omega
      exact le_trans_E (ih ((i - 1) / 2) (by omega) _ (List.getElem?_eq_getElem hp)) (h i _ b (by omega) (List.getElem?_eq_getElem hp) hb)

/-! ### what stands off a hole, and where -/
def Off (p : Nat) (t : List Ent) (r : Ent) : Prop := ∃ i, i ≠ p ∧ t[i]? = some r
theorem Off.moved {p q : Nat} {t : List Ent} {b : Ent} (hpq : q ≠ p) (hb : t[q]? = some b) (hl : p < t.length) (r : Ent) : Off q (t.set p b) r ↔ Off p t r := by
  constructor
  · rintro ⟨i, hi, h⟩
    rcases set_get h with ⟨rfl, rfl, _⟩ | ⟨hip, h⟩
    · exact ⟨q, hpq, hb⟩
    · exact ⟨i, hip, h⟩
  · rintro ⟨i, hi, h⟩
    by_cases hiq : i = q
    · subst hiq
      rw [hb] at h
      injection h with h
      subst h
      exact ⟨p, fun e => hpq e.symm, get_set_self hl⟩
    · exact ⟨i, hiq, get_set hi h⟩
theorem Off.done {p : Nat} {t : List Ent} {e : Ent} (hl : p < t.length) (r : Ent) : r ∈ t.set p e ↔ r = e ∨ Off p t r := by
  rw [List.mem_iff_getElem?]
  constructor
  · rintro ⟨i, h⟩
    rcases set_get h with ⟨rfl, rfl, _⟩ | ⟨hip, h⟩
    · exact .inl rfl
    · exact .inr ⟨i, hip, h⟩
  · rintro (rfl | ⟨i, hi, h⟩)
    · exact ⟨p, get_set_self hl⟩
    · exact ⟨i, get_set hi h⟩
/-- where names stand, as a map tells it -/
def upd (f : Int → Int) (k v : Int) : Int → Int := fun j => if j = k then v else f j
theorem upd_same (f : Int → Int) (k v : Int) : upd f k v k = v := if_pos rfl
theorem upd_other {f : Int → Int} {k j v : Int} (e : j ≠ k) : upd f k v j = f j := if_neg e
/-- of all but the hole the map tells where it stands -/
def PlacesOff (p : Nat) (t : List Ent) (ks : List Int) (f : Int → Int) : Prop := ∀ (i : Nat) r, i ≠ p → t[i]? = some r → r.1 ∈ ks ∧ f r.1 = (i : Int)
theorem PlacesOff.moved {p q : Nat} {t : List Ent} {ks : List Int} {f : Int → Int} {b : Ent} (h : PlacesOff p t ks f) (hpq : q ≠ p) (hb : t[q]? = some b) : PlacesOff q (t.set p b) ks (upd f b.1 (p : Int)) := by
  intro i r hi hr
  obtain ⟨b1, b2⟩ := h q b hpq hb
  rcases set_get hr with ⟨rfl, rfl, _⟩ | ⟨hip, hr⟩
  · exact ⟨b1, upd_same _ _ _⟩
  · obtain ⟨r1, r2⟩ := h i r hip hr
    have hne : r.1 ≠ b.1 := fun e => by rw [e, b2] at r2; omega
    exact ⟨r1, by rw [upd_other hne]; exact r2⟩
/-- the names that a map has, with one more -/
def insK (k : Int) : List Int → List Int
  | [] => [k]
  | y :: r => if k < y then k :: y :: r else y :: insK k r
def outK (ks : List Int) (k : Int) : List Int := ks.filter fun j => j != k
def putK (ks : List Int) (k : Int) : List Int := insK k (outK ks k)
theorem mem_insK {k j : Int} : ∀ {ks : List Int}, j ∈ insK k ks ↔ j = k ∨ j ∈ ks
  | [] => by simp [insK]
  | y :: r => by
    unfold insK
    split
    · simp
    · simp only [List.mem_cons, mem_insK (ks := r)]
      constructor
      · rintro (h | h | h)
        · exact .inr (.inl h)
        · exact .inl h
        · exact .inr (.inr h)
      · rintro (h | h | h)
        · exact .inr (.inl h)
        · exact .inl h
        · exact .inr (.inr h)
theorem mem_outK {k j : Int} {ks : List Int} : j ∈ outK ks k ↔ j ∈ ks ∧ j ≠ k := by simp [outK]
theorem mem_putK {k j : Int} {ks : List Int} : j ∈ putK ks k ↔ j = k ∨ j ∈ ks := by
  unfold putK
  rw [mem_insK, mem_outK]
  by_cases e : j = k <;> simp [e]
theorem insK_length (k : Int) : ∀ ks : List Int, (insK k ks).length = ks.length + 1
  | [] => rfl
  | y :: r => by
    unfold insK
    split
    · rfl
    · simp [insK_length k r]
/-- rising -/
def RisingK (ks : List Int) : Prop := ks.Pairwise fun a b => a < b
theorem RisingK.out {ks : List Int} (h : RisingK ks) (k : Int) : RisingK (outK ks k) := h.filter _
theorem risingK_ins {k : Int} : ∀ {ks : List Int}, RisingK ks → (∀ j ∈ ks, j ≠ k) → RisingK (insK k ks)
  | [], _, _ => by simp [insK, RisingK]
  | y :: r, h, hne => by
    obtain ⟨h1, h2⟩ := List.pairwise_cons.1 h
    unfold insK
    split
    · rename_i hlt
      refine List.pairwise_cons.2 ⟨fun q hq => ?_, h⟩
      rcases List.mem_cons.1 hq with rfl | hq
      · exact hlt
      · exact Int.lt_trans hlt (h1 q hq)
    · rename_i hlt
      have hny := hne y (by simp)
      refine List.pairwise_cons.2 ⟨fun q hq => ?_, risingK_ins h2 fun q hq => hne q (by simp [hq])⟩
      rcases mem_insK.1 hq with rfl | hq
      · omega
      · exact h1 q hq
theorem RisingK.put {ks : List Int} (h : RisingK ks) (k : Int) : RisingK (putK ks k) := risingK_ins (h.out k) fun j hj => (mem_outK.1 hj).2
/-- of a name that is there the map gets no greater -/
theorem RisingK.nodup {ks : List Int} (h : RisingK ks) : ks.Nodup := h.imp fun e => by omega
theorem putK_length_mem {ks : List Int} (h : RisingK ks) {k : Int} (hk : k ∈ ks) : (putK ks k).length = ks.length :=
  List.Perm.length_eq ((List.perm_ext_iff_of_nodup (h.put k).nodup h.nodup).2 fun j => by rw [mem_putK]; exact ⟨fun e => e.elim (fun e => e ▸ hk) id, .inr⟩)
theorem putK_length (ks : List Int) (k : Int) : (putK ks k).length ≤ ks.length + 1 := by
  rw [putK, insK_length]
  have := List.length_filter_le (fun j => j != k) ks
  unfold outK; omega

/-- a tree and its map, whole -/
structure TreeOk (t : List Ent) (ks : List Int) (f : Int → Int) : Prop where
  heap : HeapOk t
  place : ∀ (i : Nat) r, t[i]? = some r → r.1 ∈ ks ∧ f r.1 = (i : Int)
  keys : ∀ k ∈ ks, ∃ r ∈ t, r.1 = k
  rise : RisingK ks
theorem TreeOk.nil (f : Int → Int) : TreeOk [] [] f := ⟨HeapOk.nil, fun i r h => by simp at h, fun k h => (by cases h), List.Pairwise.nil⟩
theorem TreeOk.names {t : List Ent} {ks : List Int} {f : Int → Int} (h : TreeOk t ks f) {i j : Nat} {a b : Ent} (ha : t[i]? = some a) (hb : t[j]? = some b) (e : a.1 = b.1) : i = j := by
  have h1 := (h.place i a ha).2
  have h2 := (h.place j b hb).2
  rw [e, h2] at h1
  omega
theorem TreeOk.distinct {t : List Ent} {ks : List Int} {f : Int → Int} (h : TreeOk t ks f) : t.Pairwise fun a b => a.1 ≠ b.1 := by
  rw [List.pairwise_iff_getElem]
  intro i j hi hj hij e
  exact absurd (h.names (List.getElem?_eq_getElem hi) (List.getElem?_eq_getElem hj) e) (by omega)
theorem TreeOk.nodup {t : List Ent} {ks : List Int} {f : Int → Int} (h : TreeOk t ks f) : t.Nodup := h.distinct.imp fun e e2 => e (by rw [e2])
theorem TreeOk.has {t : List Ent} {ks : List Int} {f : Int → Int} (h : TreeOk t ks f) {k : Int} (hk : k ∈ ks) : ∃ (i : Nat) (v : Int), f k = (i : Int) ∧ t[i]? = some (k, v) := by
  obtain ⟨r, hr, rfl⟩ := h.keys k hk
  obtain ⟨i, hi⟩ := List.mem_iff_getElem?.1 hr
  exact ⟨i, r.2, (h.place i r hi).2, hi⟩

/-! ### entries in their order -/
def outE (x : List Ent) (n : Int) : List Ent := x.filter fun p => p.1 != n
def insE (e : Ent) : List Ent → List Ent
  | [] => [e]
  | y :: r => if ahead e y then e :: y :: r else y :: insE e r
def putE (x : List Ent) (e : Ent) : List Ent := insE e (outE x e.1)
def RisingE (x : List Ent) : Prop := x.Pairwise ahead
def NamesE (x : List Ent) : Prop := x.Pairwise fun a b => a.1 ≠ b.1
theorem mem_outE {x : List Ent} {n : Int} {q : Ent} : q ∈ outE x n ↔ q ∈ x ∧ q.1 ≠ n := by simp [outE]
theorem mem_insE {p q : Ent} : ∀ {x : List Ent}, q ∈ insE p x ↔ q = p ∨ q ∈ x
  | [] => by simp [insE]
  | y :: r => by
    unfold insE
    split
    · simp
    · simp only [List.mem_cons, mem_insE (x := r)]
      constructor
      · rintro (h | h | h)
        · exact .inr (.inl h)
        · exact .inl h
        · exact .inr (.inr h)
      · rintro (h | h | h)
        · exact .inr (.inl h)
        · exact .inl h
        · exact .inr (.inr h)
theorem mem_putE {x : List Ent} {e q : Ent} : q ∈ putE x e ↔ q = e ∨ (q ∈ x ∧ q.1 ≠ e.1) := by unfold putE; rw [mem_insE, mem_outE]
theorem insE_length (p : Ent) : ∀ x : List Ent, (insE p x).length = x.length + 1
  | [] => rfl
  | y :: r => by
    unfold insE
    split
    · rfl
    · simp [insE_length p r]
theorem outE_length (x : List Ent) (n : Int) : (outE x n).length ≤ x.length := List.length_filter_le _ _
theorem putE_length (x : List Ent) (e : Ent) : (putE x e).length ≤ x.length + 1 := by
  have := outE_length x e.1
  rw [putE, insE_length]; omega
/-- entries, rising, each name once -/
structure GoodE (x : List Ent) : Prop where
  up : RisingE x
  names : NamesE x
theorem GoodE.nil : GoodE [] := ⟨List.Pairwise.nil, List.Pairwise.nil⟩
theorem GoodE.out {x : List Ent} (h : GoodE x) (n : Int) : GoodE (outE x n) := ⟨h.up.filter _, h.names.filter _⟩
theorem goodE_ins {p : Ent} : ∀ {x : List Ent}, GoodE x → (∀ q ∈ x, q.1 ≠ p.1) → GoodE (insE p x)
  | [], _, _ => ⟨by simp [insE, RisingE], by simp [insE, NamesE]⟩
  | y :: r, h, hne => by
    obtain ⟨h1, h2⟩ := List.pairwise_cons.1 h.up
    obtain ⟨n1, n2⟩ := List.pairwise_cons.1 h.names
    have hny := hne y (by simp)
    unfold insE
    split
    · rename_i hlt
      refine ⟨List.pairwise_cons.2 ⟨fun q hq => ?_, h.up⟩, List.pairwise_cons.2 ⟨fun q hq e => hne q hq e.symm, h.names⟩⟩
      rcases List.mem_cons.1 hq with rfl | hq
      · exact hlt
      · exact ahead_trans hlt (h1 q hq)
    · rename_i hlt
      have ih := goodE_ins (p := p) ⟨h2, n2⟩ fun q hq => hne q (by simp [hq])
      have hyp : ahead y p := by
        by_cases e : ahead y p
        · exact e
        · exact absurd (by rw [antisymm_E e hlt]) hny
      refine ⟨List.pairwise_cons.2 ⟨fun q hq => ?_, ih.up⟩, List.pairwise_cons.2 ⟨fun q hq => ?_, ih.names⟩⟩
      · rcases mem_insE.1 hq with rfl | hq
        · exact hyp
        · exact h1 q hq
      · rcases mem_insE.1 hq with rfl | hq
        · exact hny
        · exact n1 q hq
theorem GoodE.put {x : List Ent} (h : GoodE x) (e : Ent) : GoodE (putE x e) := goodE_ins (h.out e.1) fun q hq => (mem_outE.1 hq).2
theorem GoodE.nodup {x : List Ent} (h : GoodE x) : x.Nodup := h.names.imp fun e e2 => e (by rw [e2])
theorem GoodE.one {x : List Ent} (h : GoodE x) {a b : Ent} (ha : a ∈ x) (hb : b ∈ x) (e : a.1 = b.1) : a = b := by
  have hn := h.names
  unfold NamesE at hn
  rw [List.pairwise_iff_getElem] at hn
  obtain ⟨i, hi, rfl⟩ := List.mem_iff_getElem.1 ha
  obtain ⟨j, hj, rfl⟩ := List.mem_iff_getElem.1 hb
  rcases Nat.lt_trichotomy i j with hij | rfl | hij
  · exact absurd e (hn i j hi hj hij)
  · rfl
  · exact absurd e.symm (hn j i hj hi hij)
/-- two such lists with the same entries are one -/
theorem GoodE.unique {x y : List Ent} (h : GoodE x) (k : GoodE y) (hm : ∀ r, r ∈ x ↔ r ∈ y) : x = y :=
  List.Perm.eq_of_pairwise (le := ahead) (fun a b _ _ h1 h2 => absurd h2 (ahead_asymm h1)) h.up k.up ((List.perm_ext_iff_of_nodup h.nodup k.nodup).2 hm)
theorem GoodE.perm {x t : List Ent} {ks : List Int} {f : Int → Int} (h : GoodE x) (k : TreeOk t ks f) (hm : ∀ r, r ∈ t ↔ r ∈ x) : t.Perm x := (List.perm_ext_iff_of_nodup k.nodup h.nodup).2 hm
theorem GoodE.first {x t : List Ent} {ks : List Int} {f : Int → Int} (h : GoodE x) (k : TreeOk t ks f) (hm : ∀ r, r ∈ t ↔ r ∈ x) : t[0]? = x[0]? := by
  have hl := (h.perm k hm).length_eq
  cases x with
  | nil => simp at hl; simp [hl]
  | cons y r =>
    cases t with
    | nil => simp at hl
    | cons a s =>
      simp only [List.getElem?_cons_zero]
      congr 1
      have hy : y ∈ a :: s := (hm y).2 (by simp)
      obtain ⟨i, hi⟩ := List.mem_iff_getElem?.1 hy
      have h1 := k.heap.first (a := a) rfl i y hi
      have ha : a ∈ y :: r := (hm a).1 (by simp)
      rcases List.mem_cons.1 ha with rfl | ha
      · rfl
      · exact absurd ((List.pairwise_cons.1 h.up).1 a ha) (fun e => h1 e)
end Go.Proofs.YtdlgihgdpdiglaaGreat.quo
end

section
namespace Go.Proofs.YtdlgihgdpdiglaaGreat.quo
open Go.ChangeShapes Go.WideShapes Go.ChangeAt Go.RowKit Go.Maps
set_option linter.unusedVariables false

/-! ### a map of ints -/
theorem keyed : Keyed Tryz.prog 3 := int_keyed Tryz.underlying3
theorem zero_int (w : World) : (zeroValue 3).run Tryz.prog w = .ok (.int .i64 0) w := by kernel_rfl
theorem key_of {k : Int} (h1 : -9223372036854775808 ≤ k) (h2 : k ≤ 9223372036854775807) : keyOf Tryz.prog 3 (.int .i64 k) = some (.int .i64 k) :=
  keyOf_int_mk Tryz.underlying3 (WalkArith.wf_i64 (by omega))
def heldR (v : Value) : Option (DataW Value × List MemPlace) := some (.held v, [])
def encK (f : Int → Int) (k : Int) : Lit × DataW Value := (.int .i64 k, .held (.int .i64 (f k)))
def intsD (ks : List Int) (f : Int → Int) : DataW Value := .map (ks.map (encK f))
theorem encK_filter (x : List Int) (f : Int → Int) (k : Int) : (x.map (encK f)).filter (fun p => !p.1.sameKey (.int .i64 k)) = (outK x k).map (encK f) := by
  rw [List.filter_map]
  congr 1
  apply List.filter_congr
  intro p _
  simp [encK, Lit.sameKey, Bool.not_eq_eq_eq_not]
  by_cases e : p = k <;> simp [e]
theorem insert_encK (f : Int → Int) (p : Int) : ∀ x : List Int, DataW.insert (encK f p) (x.map (encK f)) = (insK p x).map (encK f)
  | [] => rfl
  | y :: r => by
    simp only [List.map_cons, DataW.insert, insK]
    by_cases hlt : p < y
    · have e : (encK f p).1.before (encK f y).1 = true := by simp [encK, Lit.before, hlt]
      rw [if_pos e, if_pos hlt]; rfl
    · have e : ¬ (encK f p).1.before (encK f y).1 = true := by simp [encK, Lit.before, hlt]
      rw [if_neg e, if_neg hlt, insert_encK f p r]; rfl
theorem intsD_put (x : List Int) (f : Int → Int) (k v : Int) : (intsD x f).put (.int .i64 k) (.held (.int .i64 v)) = intsD (putK x k) (upd f k v) := by
  unfold intsD DataW.put putK
  simp only
  rw [encK_filter]
  congr 1
  have e : (outK x k).map (encK f) = (outK x k).map (encK (upd f k v)) := by
    apply List.map_congr_left
    intro p hp
    simp only [encK, upd_other (mem_outK.1 hp).2]
  rw [e, ← insert_encK]
  congr 1
  simp only [encK, upd_same]
theorem intsD_del (x : List Int) (f : Int → Int) (k : Int) : (intsD x f).del (.int .i64 k) = intsD (outK x k) f := by
  unfold intsD DataW.del
  simp only
  rw [encK_filter]
theorem intsD_has (x : List Int) (f : Int → Int) (k : Int) : has (intsD x f) (.int .i64 k) = decide (k ∈ x) := by
  unfold intsD
  rw [has_eq, List.any_map, Bool.eq_iff_iff]
  simp [encK, Lit.sameKey]
theorem intsD_size (x : List Int) (f : Int → Int) : Maps.size (intsD x f) = x.length := by simp [intsD, Maps.size]
theorem intsD_at {x : List Int} {f : Int → Int} {k : Int} {z : DataW Value} (hk : k ∈ x) : (intsD x f).atKey (.int .i64 k) z = .held (.int .i64 (f k)) := by
  unfold intsD DataW.atKey
  simp only
  have : ∃ q ∈ x, q = k ∧ (x.map (encK f)).find? (fun q => q.1.sameKey (.int .i64 k)) = some (encK f q) := by
    cases hf : (x.map (encK f)).find? (fun q => q.1.sameKey (.int .i64 k)) with
    | none =>
      have := List.find?_eq_none.1 hf (encK f k) (List.mem_map.2 ⟨k, hk, rfl⟩)
      simp [encK, Lit.sameKey] at this
    | some y =>
      have h1 := List.find?_some hf
      obtain ⟨q, hq, rfl⟩ := List.mem_map.1 (List.mem_of_find?_eq_some hf)
      refine ⟨q, hq, ?_, rfl⟩
      simpa [encK, Lit.sameKey] using h1
  obtain ⟨q, hq, rfl, e⟩ := this
  rw [e]
  rfl
theorem intsD_none {x : List Int} {f : Int → Int} {k : Int} {z : DataW Value} (hk : ¬ k ∈ x) : (intsD x f).atKey (.int .i64 k) z = z := by
  unfold intsD DataW.atKey
  simp only
  have : (x.map (encK f)).find? (fun q => q.1.sameKey (.int .i64 k)) = none := by
    rw [List.find?_eq_none]
    intro y hy
    obtain ⟨q, hq, rfl⟩ := List.mem_map.1 hy
    intro hs
    have e : q = k := by simpa [encK, Lit.sameKey] using hs
    exact hk (e ▸ hq)
  rw [this]
/-- a map at b that has the names ks, each at its place -/
def PlacesAt (w : World) (b : Nat) (ks : List Int) (f : Int → Int) : Prop := w.ownsMap Tryz.prog 3 heldR b ks.length (intsD ks f)
theorem map_turned {p : Nat → Prop} {w w' : World} {m n : Nat} {D : DataW Value} (h : w.ownsMap Tryz.prog 3 heldR m n D) (ht : Turned p w w') (hp : ¬ p m) : w'.ownsMap Tryz.prog 3 heldR m n D := by
  obtain ⟨es, clock, hb, F, hs, hD⟩ := h
  exact ⟨es, clock, ht.heap hb hp, F, hs, hD⟩
theorem map_lt {w : World} {m n : Nat} {D : DataW Value} (h : w.ownsMap Tryz.prog 3 heldR m n D) : ∃ es clock, w.heap[m]? = some (.map es clock) := by
  obtain ⟨es, clock, hb, _⟩ := h
  exact ⟨es, clock, hb⟩
theorem map_size {w : World} {m n : Nat} {D : DataW Value} (h : w.ownsMap Tryz.prog 3 heldR m n D) : w.ownsMap Tryz.prog 3 heldR m (Maps.size D) D := by
  obtain ⟨es, clock, hb, F, hs, rfl⟩ := h
  exact ⟨es, clock, hb, F, by simp [Maps.size, length_sorted], rfl⟩
theorem PlacesAt.turned {p : Nat → Prop} {w w' : World} {b : Nat} {ks : List Int} {f : Int → Int} (h : PlacesAt w b ks f) (ht : Turned p w w') (hp : ¬ p b) : PlacesAt w' b ks f := map_turned h ht hp
theorem PlacesAt.made (w : World) (f : Int → Int) : PlacesAt (w.alloc (.map #[] 0)) w.heap.size [] f := World.ownsMap_made w _ _ _

section
variable {w : World} {ops : Array Oper} {rest : List Oper} {o : Oper} {a : Act} {Q : Exit → Act → World → Prop}
theorem turned_of_map {w w' : World} {b : Nat} (h : w.mapTurned w' b) : Turned (fun k => k = b) w w' := Turned.of_grown h.grown (p := fun k => k = b) fun k e => by injection e with e; exact e.symm
/-- m[k] = v -/
theorem wpList_putI (hg : o.guard = none) (m x v : Operand) (hop : o.op = Op.mapUpdate 207 m x v) (b : Nat) (ks : List Int) (f : Int → Int) (k val : Int) (hm : a.eval m = .map (some b)) (hx : a.eval x = .int .i64 k) (hv : a.eval v = .int .i64 val)
    (h : PlacesAt w b ks f) (h1 : -9223372036854775808 ≤ k) (h2 : k ≤ 9223372036854775807) (hl : ks.length ≤ 1000000)
    (hK : ∀ w', PlacesAt w' b (putK ks k) (upd f k val) → Turned (fun k => k = b) w w' → wpList Tryz.prog ops Q rest (a.put o.dst undef) w') : wpList Tryz.prog ops Q (o :: rest) a w := by
  refine wpList_mapUpdate_in w hg m x v _ hop 3 3 keyed Tryz.underlying207 heldR b _ _ hm h (by unfold maxLen; omega) _ _ (.int .i64 k) hx hv (key_of h1 h2) (.held (.int .i64 val)) [] rfl ?_
  intro w' hown' hturn
  rw [intsD_put] at hown'
  have hsz := map_size hown'
  rw [intsD_size] at hsz
  exact hK w' hsz (turned_of_map hturn)
/-- m[k] = v in a literal -/
theorem wpList_insI (hg : o.guard = none) (m x v : Operand) (hop : o.op = Op.insert 207 m x v) (b : Nat) (ks : List Int) (f : Int → Int) (k val : Int) (hm : a.eval m = .map (some b)) (hx : a.eval x = .int .i64 k) (hv : a.eval v = .int .i64 val)
    (h : PlacesAt w b ks f) (h1 : -9223372036854775808 ≤ k) (h2 : k ≤ 9223372036854775807) (hl : ks.length ≤ 1000000)
    (hK : ∀ w', PlacesAt w' b (putK ks k) (upd f k val) → Turned (fun k => k = b) w w' → wpList Tryz.prog ops Q rest (a.put o.dst undef) w') : wpList Tryz.prog ops Q (o :: rest) a w := by
  refine wpList_plain hg fun K' hK' => ?_
  obtain ⟨w', hrun, hown', hturn⟩ := World.ownsMap.store h keyed Tryz.underlying207 (show ks.length < maxLen by unfold maxLen; omega) (key_of h1 h2) (val := .int .i64 val) (d := .held (.int .i64 val)) (ps := []) rfl
  unfold Oper.wp
  simp [execOp, hop, hm, hx, hv, hrun, Result.andThen]
  rw [intsD_put] at hown'
  have hsz := map_size hown'
  rw [intsD_size] at hsz
  exact hK' _ _ (hK w' hsz (turned_of_map hturn))
end

/-! ### a map as a function -/
def MapF (w : World) (b n : Nat) (f : Int → Int) : Prop := ∃ ks F, PlacesAt w b ks F ∧ ks.length ≤ n ∧ ∀ k, f k = if k ∈ ks then F k else 0
theorem MapF.turned {p : Nat → Prop} {w w' : World} {b n : Nat} {f : Int → Int} (h : MapF w b n f) (ht : Turned p w w') (hp : ¬ p b) : MapF w' b n f := by
  obtain ⟨ks, F, h1, h2, h3⟩ := h
  exact ⟨ks, F, h1.turned ht hp, h2, h3⟩
theorem MapF.below {w w' : World} {b n : Nat} {f : Int → Int} (h : MapF w b n f) (hb : Below w.heap.size w w') : MapF w' b n f := h.turned (p := fun _ => False) (.of_below hb) id
theorem MapF.mono {w : World} {b n m : Nat} {f : Int → Int} (h : MapF w b n f) (hm : n ≤ m) : MapF w b m f := by
  obtain ⟨ks, F, h1, h2, h3⟩ := h
  exact ⟨ks, F, h1, by omega, h3⟩
theorem MapF.of_eq {w : World} {b n : Nat} {f g : Int → Int} (h : MapF w b n f) (e : ∀ k, g k = f k) : MapF w b n g := by
  obtain ⟨ks, F, h1, h2, h3⟩ := h
  exact ⟨ks, F, h1, h2, fun k => (e k).trans (h3 k)⟩
theorem MapF.made (w : World) : MapF (w.alloc (.map #[] 0)) w.heap.size 0 (fun _ => 0) := ⟨[], fun _ => 0, PlacesAt.made w _, Nat.le_refl _, fun k => by simp⟩
theorem MapF.lt {w : World} {b n : Nat} {f : Int → Int} (h : MapF w b n f) : b < w.heap.size := by
  obtain ⟨ks, F, h1, h2, h3⟩ := h
  obtain ⟨es, cl, hc⟩ := map_lt h1
  exact (Array.getElem?_eq_some_iff.1 hc).1
theorem mapF_put {w : World} {b n : Nat} {f F : Int → Int} {ks : List Int} {k v : Int} (h1 : PlacesAt w b (putK ks k) (upd F k v)) (h2 : ks.length ≤ n) (h3 : ∀ k, f k = if k ∈ ks then F k else 0) : MapF w b (n + 1) (upd f k v) := by
  refine ⟨_, _, h1, Nat.le_trans (putK_length ks k) (by omega), fun j => ?_⟩
  by_cases e : j = k
  · subst e
    rw [upd_same, if_pos (mem_putK.2 (.inl rfl)), upd_same]
  · rw [upd_other e, upd_other e, h3 j]
    by_cases hj : j ∈ ks
    · rw [if_pos hj, if_pos (mem_putK.2 (.inr hj))]
    · rw [if_neg hj, if_neg fun hh => (mem_putK.1 hh).elim e hj]

section
variable {w : World} {ops : Array Oper} {rest : List Oper} {o : Oper} {a : Act} {Q : Exit → Act → World → Prop}
theorem wpList_putF (hg : o.guard = none) (m x v : Operand) (hop : o.op = Op.mapUpdate 207 m x v) (b n : Nat) (f : Int → Int) (k val : Int) (hm : a.eval m = .map (some b)) (hx : a.eval x = .int .i64 k) (hv : a.eval v = .int .i64 val)
    (h : MapF w b n f) (h1 : -9223372036854775808 ≤ k) (h2 : k ≤ 9223372036854775807) (hl : n ≤ 1000000)
    (hK : ∀ w', MapF w' b (n + 1) (upd f k val) → Turned (fun k => k = b) w w' → wpList Tryz.prog ops Q rest (a.put o.dst undef) w') : wpList Tryz.prog ops Q (o :: rest) a w := by
  obtain ⟨ks, F, p1, p2, p3⟩ := h
  exact wpList_putI hg m x v hop b ks F k val hm hx hv p1 h1 h2 (by omega) fun w' q ht => hK w' (mapF_put q p2 p3) ht
theorem wpList_insF (hg : o.guard = none) (m x v : Operand) (hop : o.op = Op.insert 207 m x v) (b n : Nat) (f : Int → Int) (k val : Int) (hm : a.eval m = .map (some b)) (hx : a.eval x = .int .i64 k) (hv : a.eval v = .int .i64 val)
    (h : MapF w b n f) (h1 : -9223372036854775808 ≤ k) (h2 : k ≤ 9223372036854775807) (hl : n ≤ 1000000)
    (hK : ∀ w', MapF w' b (n + 1) (upd f k val) → Turned (fun k => k = b) w w' → wpList Tryz.prog ops Q rest (a.put o.dst undef) w') : wpList Tryz.prog ops Q (o :: rest) a w := by
  obtain ⟨ks, F, p1, p2, p3⟩ := h
  exact wpList_insI hg m x v hop b ks F k val hm hx hv p1 h1 h2 (by omega) fun w' q ht => hK w' (mapF_put q p2 p3) ht
set_option maxRecDepth 100000 in
/-- m[k] -/
theorem wpList_getF (hg : o.guard = none) (m x : Operand) (hop : o.op = Op.lookup 207 m x false) (b n : Nat) (f : Int → Int) (k : Int) (hm : a.eval m = .map (some b)) (hx : a.eval x = .int .i64 k)
    (h : MapF w b n f) (h1 : -9223372036854775808 ≤ k) (h2 : k ≤ 9223372036854775807)
    (hK : wpList Tryz.prog ops Q rest (a.put o.dst (.int .i64 (f k))) w) : wpList Tryz.prog ops Q (o :: rest) a w := by
  obtain ⟨ks, F, hmap, p2, p3⟩ := h
  refine wpList_plain hg fun K' hK' => ?_
  obtain ⟨v, ps, hrun, hv⟩ := World.ownsMap.lookup hmap keyed Tryz.underlying207 (zero_int w) (zd := .held (.int .i64 0)) (zp := []) rfl (key_of h1 h2)
  have ev : v = .int .i64 (f k) := by
    simp only [heldR, Option.some.injEq, Prod.mk.injEq] at hv
    rw [p3 k]
    by_cases hk : k ∈ ks
    · rw [intsD_at hk] at hv
      injection hv.1 with e
      rw [e, if_pos hk]
    · rw [intsD_none hk] at hv
      injection hv.1 with e
      rw [e, if_neg hk]
  subst ev
  unfold Oper.wp
  simp [execOp, hop, hm, hx, hrun, Result.andThen]
  exact hK' _ _ hK
end
end Go.Proofs.YtdlgihgdpdiglaaGreat.quo
end

section
namespace Go.Proofs.YtdlgihgdpdiglaaGreat
open Go.ChangeShapes Go.WideShapes Go.ChangeAt Go.RowKit
set_option linter.unusedVariables false

theorem bool_retI {a b : Bool} (h : a = b) : Ending.returned (.bool a) = Ending.returned (.bool b) := by rw [h]
theorem take_more_ofI {α : Type} {xs : List α} {k : Nat} {x : α} (h : xs[k]? = some x) : xs.take (k + 1) = xs.take k ++ [x] := by
  obtain ⟨hk, rfl⟩ := List.getElem?_eq_some_iff.1 h
  exact List.take_succ_eq_append_getElem hk
theorem differ_ofI {α : Type} {xs ys : List α} {k : Nat} {x y : α} (h1 : xs[k]? = some x) (h2 : ys[k]? = some y) (h : x ≠ y) : xs ≠ ys := fun e => by
  rw [e, h2] at h1
  injection h1 with h1
  exact h h1.symm
theorem alike_ofI {α : Type} {xs ys : List α} {k : Nat} (h : xs.take k = ys.take k) (h1 : xs.length = k) (h2 : ys.length = k) : xs = ys := by
  rw [List.take_of_length_le (by omega), List.take_of_length_le (by omega)] at h
  exact h

set_option maxRecDepth 100000 in
theorem SameInts_any (A C : Option Addr) (n m c d : Nat) (xs ys : List Int) (w : World) (hn : xs.length = n) (hm : ys.length = m) (ha : Seen w A (numsV xs)) (hb : Seen w C (numsV ys)) (hl : n ≤ maxLen) :
    Calls Tryz.prog 15 #[.slice A n c, .slice C m d] w fun e w' => e = .returned (.bool (decide (xs = ys))) ∧ Below w.heap.size w w' := by
  have Ha := Lib.hid ha; clear ha
  have Hb := Lib.hid hb; clear hb
  unfold maxLen at hl
  by_cases hnm : n = m
  · subst hnm
    have Hn := Lib.hid hn; clear hn
    have Hm := Lib.hid hm; clear hm
    go_enter Tryz.func15, Tryz.ntmps15
    go_wp2
    go_loopw [5] (fun i wr => ∃ k : Nat, k ≤ n ∧ i = .int .i64 k ∧ Below w.heap.size w wr ∧ xs.take k = ys.take k) (fun i _ => n - (intOf i).toNat)
    case atStart => exact ⟨0, by omega, rfl, Below.refl _ _, rfl⟩
    case round =>
      obtain ⟨k, hk, rfl, hbw, htk⟩ := hrel
      have Hbw := Lib.hid hbw; clear hbw
      have Htk := Lib.hid htk; clear htk
      by_cases hlt : k < n
      · obtain ⟨g, o, x, rfl, hx, hc⟩ := (Ha.out.below Hbw.out).num (j := k) (by have := Hn.out; omega)
        obtain ⟨g2, o2, y, rfl, hy, hc2⟩ := (Hb.out.below Hbw.out).num (j := k) (by have := Hm.out; omega)
        have Hx := Lib.hid hx; clear hx
        have Hy := Lib.hid hy; clear hy
        have b0 : (0 : Int) ≤ (k : Int) := by omega
        have b1 : (k : Int) < (n : Int) := by omega
        by_cases he : x = y
        · have hq : (x != y) = false := by rw [he]; simp
          have He := Lib.hid he; clear he
          go_wp2
          go_quiet (fail)
          go_wp2
          go_roundw
          case rel => exact ⟨k + 1, by omega, by go_num, below_drewN Hbw.out _, by rw [take_more_ofI Hx.out, take_more_ofI Hy.out, Htk.out, He.out]⟩
          case measure => simp [intOf]; omega
        · have hq : (x != y) = true := by simpa using he
          have He := Lib.hid he; clear he
          go_wp2
          go_quiet (fail)
          go_wp2
          go_ret
          exact ⟨bool_retI (by rw [decide_eq_false (differ_ofI Hx.out Hy.out He.out)]), below_drewN Hbw.out _⟩
      · obtain rfl : k = n := by omega
        go_wp2
        go_ret
        exact ⟨bool_retI (by rw [decide_eq_true (alike_ofI Htk.out Hn.out Hm.out)]), Hbw.out⟩
  · go_enter Tryz.func15, Tryz.ntmps15
    go_wp2
    go_ret
    exact ⟨bool_retI (by rw [decide_eq_false]; intro e; rw [e] at hn; omega), Below.refl _ _⟩
end Go.Proofs.YtdlgihgdpdiglaaGreat
end
