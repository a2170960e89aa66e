/-
  Members, majorities and changes as mathematics: RightQ, how many have at least a number (cntGe), what a majority has (IsIdx), who won (wonQ), what a change makes (changeE, changeL), the fields of members (bytesQ) and how they are read. No program here. No condition but what each lemma names.
-/
import Derived.Test.YtpoooehnobfjfaaPackMath
namespace Go.Proofs.Ytpoooehnobfjfaa
set_option linter.unusedVariables false

/-! ### members that are right -/
def InQ (x : Int) : Prop := 0 ≤ x ∧ x ≤ 15
instance (x : Int) : Decidable (InQ x) := by unfold InQ; infer_instance
def GoodQ (l : List Int) : Prop := (∀ x ∈ l, InQ x) ∧ l.Pairwise (· < ·)
instance (l : List Int) : Decidable (GoodQ l) := by unfold GoodQ; infer_instance
def RightQ (l : List Int) : Prop := (1 ≤ l.length ∧ l.length ≤ 7) ∧ GoodQ l
instance (l : List Int) : Decidable (RightQ l) := by unfold RightQ; infer_instance

theorem good_nil : GoodQ [] := ⟨fun x h => absurd h (by simp), List.Pairwise.nil⟩
theorem good_sub {xs ys : List Int} (h : GoodQ (xs ++ ys)) : GoodQ xs := ⟨fun x hx => h.1 x (List.mem_append_left _ hx), (List.pairwise_append.1 h.2).1⟩
theorem good_take {l : List Int} (h : GoodQ l) (k : Nat) : GoodQ (l.take k) := good_sub (ys := l.drop k) (by rw [List.take_append_drop]; exact h)
theorem le_last {xs : List Int} {y : Int} (h : (xs ++ [y]).Pairwise (· < ·)) : ∀ a ∈ xs ++ [y], a ≤ y := by
  intro a ha
  rcases List.mem_append.1 ha with h1 | h1
  · exact Int.le_of_lt ((List.pairwise_append.1 h).2.2 a h1 y (by simp))
  · simp at h1; omega
/-- the first -/
theorem good_one {x : Int} : GoodQ [x] ↔ InQ x := by
  simp [GoodQ]
/-- one more behind y -/
theorem good_snoc {xs : List Int} {y x : Int} (h : GoodQ (xs ++ [y])) : GoodQ (xs ++ [y] ++ [x]) ↔ InQ x ∧ y < x := by
  constructor
  · intro h1
    refine ⟨h1.1 x (by simp), ?_⟩
    exact (List.pairwise_append.1 h1.2).2.2 y (by simp) x (by simp)
  · rintro ⟨h1, h2⟩
    refine ⟨fun a ha => ?_, List.pairwise_append.2 ⟨h.2, by simp, fun a ha b hb => ?_⟩⟩
    · rcases List.mem_append.1 ha with h3 | h3
      · exact h.1 a h3
      · simp at h3; subst h3; exact h1
    · simp at hb; subst hb
      have := le_last h.2 a ha
      omega
theorem take_snoc {α : Type} {l : List α} {k : Nat} {x : α} (h : l[k]? = some x) : l.take (k + 1) = l.take k ++ [x] := by
  obtain ⟨hk, rfl⟩ := List.getElem?_eq_some_iff.1 h
  exact List.take_succ_eq_append_getElem hk
/-- one step of the look -/
theorem good_step0 {l : List Int} {x : Int} (h0 : l[0]? = some x) : GoodQ (l.take 1) ↔ InQ x := by
  rw [take_snoc h0, List.take_zero, List.nil_append]
  exact good_one
theorem good_step {l : List Int} {k : Nat} {y x : Int} (h : GoodQ (l.take (k + 1))) (hy : l[k]? = some y) (hx : l[k + 1]? = some x) : GoodQ (l.take (k + 1 + 1)) ↔ InQ x ∧ y < x := by
  rw [take_snoc hx, take_snoc hy]
  rw [take_snoc hy] at h
  exact good_snoc h
theorem rising_ext : ∀ {x y : List Int}, x.Pairwise (· < ·) → y.Pairwise (· < ·) → (∀ a, a ∈ x ↔ a ∈ y) → x = y
  | [], [], _, _, _ => rfl
  | [], b :: s, _, _, h => absurd ((h b).2 (by simp)) (by simp)
  | a :: r, [], _, _, h => absurd ((h a).1 (by simp)) (by simp)
  | a :: r, b :: s, hx, hy, h => by
    rw [List.pairwise_cons] at hx hy
    have e : a = b := by
      rcases List.mem_cons.1 ((h a).1 (by simp)) with h1 | h1
      · exact h1
      · rcases List.mem_cons.1 ((h b).2 (by simp)) with h2 | h2
        · exact h2.symm
        · have := hx.1 b h2
          have := hy.1 a h1
          omega
    subst e
    congr 1
    refine rising_ext hx.2 hy.2 fun c => ⟨fun hc => ?_, fun hc => ?_⟩
    · rcases List.mem_cons.1 ((h c).1 (List.mem_cons_of_mem _ hc)) with h1 | h1
      · have := hx.1 c hc; omega
      · exact h1
    · rcases List.mem_cons.1 ((h c).2 (List.mem_cons_of_mem _ hc)) with h1 | h1
      · have := hy.1 c hc; omega
      · exact h1

/-! ### what a majority has -/
def cntGe (vs : List Int) (v : Int) : Nat := vs.countP fun x => decide (v ≤ x)
/-- i is the greatest number that more than half have, at least -/
def IsIdx (vs : List Int) (i : Int) : Prop := ∀ v, v ≤ i ↔ vs.length < 2 * cntGe vs v
theorem IsIdx.one {vs : List Int} {i j : Int} (h : IsIdx vs i) (k : IsIdx vs j) : i = j := by
  have h1 := (k i).2 ((h i).1 (Int.le_refl _))
  have h2 := (h j).2 ((k j).1 (Int.le_refl _))
  omega
theorem IsIdx.perm {vs us : List Int} {i : Int} (h : IsIdx vs i) (p : vs.Perm us) : IsIdx us i := by
  intro v
  rw [h v, cntGe, cntGe, p.countP_eq, p.length_eq]
theorem idx_sorted {s : List Int} {k : Nat} {x : Int} (hs : s.Pairwise (· ≤ ·)) (hk : k + (s.length / 2 + 1) = s.length) (hx : s[k]? = some x) : IsIdx s x := by
  intro v
  have hlt : k < s.length := by omega
  have e : s = s.take k ++ s.drop k := (List.take_append_drop k s).symm
  have hgd : s[k] = x := by
    rw [List.getElem?_eq_getElem hlt] at hx
    exact Option.some.inj hx
  have hd : s.drop k = x :: s.drop (k + 1) := by rw [List.drop_eq_getElem_cons hlt, hgd]
  have hp : (s.take k ++ x :: s.drop (k + 1)).Pairwise (· ≤ ·) := by rw [← hd, List.take_append_drop]; exact hs
  have hp' := List.pairwise_append.1 hp
  have hp2 := List.pairwise_cons.1 hp'.2.1
  have hc : cntGe s v = cntGe (s.take k) v + cntGe (x :: s.drop (k + 1)) v := by
    conv => lhs; rw [e, hd]
    exact List.countP_append
  rw [hc]
  constructor
  · intro hv
    have : cntGe (x :: s.drop (k + 1)) v = (x :: s.drop (k + 1)).length := by
      rw [cntGe, List.countP_eq_length]
      intro a ha
      rcases List.mem_cons.1 ha with h1 | h1
      · subst h1; simpa using hv
      · have := hp2.1 a h1
        simp; omega
    rw [this, List.length_cons, List.length_drop]
    omega
  · intro hlen
    refine Int.not_lt.1 fun hv => ?_
    have h1 : cntGe (s.take k) v = 0 := by
      rw [cntGe, List.countP_eq_zero]
      intro a ha
      have := hp'.2.2 a ha x (by simp)
      simp; omega
    have h2 : cntGe (x :: s.drop (k + 1)) v ≤ (s.drop (k + 1)).length := by
      rw [cntGe, List.countP_cons_of_neg (by simp; omega)]
      exact List.countP_le_length
    rw [List.length_drop] at h2
    omega
theorem idx_mem {vs : List Int} {i : Int} (h : IsIdx vs i) (hl : 0 < vs.length) : i ∈ vs := by
  refine Decidable.byContradiction fun hn => ?_
  have h1 : cntGe vs i = cntGe vs (i + 1) := by
    unfold cntGe
    apply List.countP_congr
    intro a ha
    have : a ≠ i := fun e => hn (e ▸ ha)
    simp; omega
  have h2 := (h i).1 (Int.le_refl _)
  rw [h1] at h2
  have := (h (i + 1)).2 h2
  omega
/-- who has more can't make it less -/
theorem idx_more {vs us : List Int} {i j : Int} (h : IsIdx vs i) (k : IsIdx us j) (hl : us.length = vs.length) (hm : ∀ v, cntGe vs v ≤ cntGe us v) : i ≤ j := by
  refine (k i).2 ?_
  have h1 := (h i).1 (Int.le_refl _)
  have h2 := hm i
  omega
/-- what all have a majority has -/
theorem idx_least {vs : List Int} {i m : Int} (h : IsIdx vs i) (hl : 0 < vs.length) (hm : ∀ x ∈ vs, m ≤ x) : m ≤ i := by
  refine (h m).2 ?_
  have : cntGe vs m = vs.length := by
    rw [cntGe, List.countP_eq_length]
    intro a ha
    simpa using hm a ha
  omega

/-! ### who won -/
def cntIn (l yes : List Int) : Nat := l.countP fun x => decide (x ∈ yes)
def wonQ (l yes : List Int) : Bool := decide (RightQ l ∧ l.length < 2 * cntIn l yes)
/-- who has said yes has 1 -/
def saidF (yes : List Int) (k : Int) : Int := if k ∈ yes ∧ InQ k then 1 else 0
theorem said_won {l yes : List Int} {i : Int} (hr : RightQ l) (h : IsIdx (l.map (saidF yes)) i) : decide (i = 1) = wonQ l yes := by
  have h1 : cntGe (l.map (saidF yes)) 1 = cntIn l yes := by
    unfold cntGe cntIn
    rw [List.countP_map]
    apply List.countP_congr
    intro a ha
    have := hr.2.1 a ha
    by_cases hy : a ∈ yes
    · have e : saidF yes a = 1 := if_pos ⟨hy, this⟩
      simp [e, hy]
    · have e : saidF yes a = 0 := if_neg fun h => hy h.1
      simp [e, hy]
  have h2 : cntGe (l.map (saidF yes)) 2 = 0 := by
    rw [cntGe, List.countP_map, List.countP_eq_zero]
    intro a _
    by_cases hy : a ∈ yes ∧ InQ a
    · have e : saidF yes a = 1 := if_pos hy
      simp [e]
    · have e : saidF yes a = 0 := if_neg hy
      simp [e]
  have hi1 := h 1
  have hi2 := h 2
  rw [h1, List.length_map] at hi1
  rw [h2] at hi2
  unfold wonQ
  rw [decide_eq_decide]
  constructor
  · rintro rfl
    exact ⟨hr, hi1.1 (Int.le_refl _)⟩
  · rintro ⟨_, h3⟩
    have h4 := hi1.2 h3
    have h5 : ¬ 2 ≤ i := fun h6 => by have := hi2.1 h6; omega
    omega
theorem countP_both {α : Type} (p q : α → Bool) : ∀ l : List α, l.countP p + l.countP q ≤ l.length + l.countP fun x => p x && q x
  | [] => by simp
  | a :: r => by
    have ih := countP_both p q r
    simp only [List.countP_cons, List.length_cons]
    cases p a <;> cases q a <;> simp <;> omega
/-- two that are enough meet -/
theorem meet_of {l a b : List Int} (h : l.length < cntIn l a + cntIn l b) : ∃ x ∈ l, x ∈ a ∧ x ∈ b := by
  have h1 := countP_both (fun x => decide (x ∈ a)) (fun x => decide (x ∈ b)) l
  unfold cntIn at h
  have h2 : 0 < l.countP fun x => decide (x ∈ a) && decide (x ∈ b) := by omega
  obtain ⟨x, hx, hxp⟩ := List.countP_pos_iff.1 h2
  exact ⟨x, hx, by simpa using hxp⟩

/-! ### changes -/
def changeE (l : List Int) (add : Bool) (id : Int) : Nat :=
  if ¬ RightQ l ∨ ¬ InQ id then 1 else if add = true ∧ id ∈ l then 8 else if add = false ∧ ¬ id ∈ l then 7 else if add = true ∧ l.length = 7 then 6 else if add = false ∧ l.length = 1 then 9 else 0
/-- l with id where it belongs -/
def putQ (l : List Int) (id : Int) : List Int := l.take (l.countP fun x => decide (x < id)) ++ [id] ++ l.drop (l.countP fun x => decide (x < id))
/-- l without the one at id's place -/
def outQ (l : List Int) (id : Int) : List Int := l.take (l.countP fun x => decide (x < id)) ++ l.drop ((l.countP fun x => decide (x < id)) + 1)
def changeL (l : List Int) (add : Bool) (id : Int) : List Int := if changeE l add id = 0 then (if add = true then putQ l id else outQ l id) else []

theorem parts_below : ∀ {l : List Int} (id : Int), l.Pairwise (· < ·) → (∀ x ∈ l.take (l.countP fun x => decide (x < id)), x < id) ∧ (∀ x ∈ l.drop (l.countP fun x => decide (x < id)), id ≤ x)
  | [], _, _ => by simp
  | a :: r, id, h => by
    rw [List.pairwise_cons] at h
    have ih := parts_below (l := r) id h.2
    by_cases ha : a < id
    · rw [List.countP_cons_of_pos (by simpa using ha)]
      refine ⟨fun x hx => ?_, fun x hx => ?_⟩
      · rw [List.take_succ_cons] at hx
        rcases List.mem_cons.1 hx with h1 | h1
        · omega
        · exact ih.1 x h1
      · rw [List.drop_succ_cons] at hx
        exact ih.2 x hx
    · rw [List.countP_cons_of_neg (by simpa using ha)]
      have h0 : r.countP (fun x => decide (x < id)) = 0 := by
        rw [List.countP_eq_zero]
        intro x hx
        have := h.1 x hx
        simp; omega
      rw [h0]
      refine ⟨fun x hx => by simp at hx, fun x hx => ?_⟩
      rw [List.drop_zero] at hx
      rcases List.mem_cons.1 hx with h1 | h1
      · omega
      · have := h.1 x h1; omega
theorem place_lt {l : List Int} {id : Int} (h : l.Pairwise (· < ·)) (hm : id ∈ l) : (l.countP fun x => decide (x < id)) < l.length ∧ l[l.countP fun x => decide (x < id)]? = some id := by
  have hp := parts_below id h
  have hle : (l.countP fun x => decide (x < id)) ≤ l.length := List.countP_le_length
  generalize hk : (l.countP fun x => decide (x < id)) = k at hp hle
  have e : l = l.take k ++ l.drop k := (List.take_append_drop k l).symm
  have hd : id ∈ l.drop k := by
    rw [e] at hm
    rcases List.mem_append.1 hm with h1 | h1
    · have := hp.1 id h1; omega
    · exact h1
  cases hc : l.drop k with
  | nil => rw [hc] at hd; cases hd
  | cons b s =>
    have hlt : k < l.length := by
      have : (l.drop k).length = s.length + 1 := by rw [hc]; rfl
      rw [List.length_drop] at this
      omega
    refine ⟨hlt, ?_⟩
    have hb : l[k]? = some b := by
      have : (l.drop k)[0]? = some b := by rw [hc]; rfl
      rw [List.getElem?_drop] at this
      simpa using this
    rw [hb]
    rw [hc] at hd
    rcases List.mem_cons.1 hd with h1 | h1
    · rw [h1]
    · have h2 := hp.2 b (by rw [hc]; simp)
      have h3 : (b :: s).Pairwise (· < ·) := by
        rw [← hc]
        exact h.sublist (List.drop_sublist _ _)
      have := (List.pairwise_cons.1 h3).1 id h1
      omega
theorem mem_putQ {l : List Int} {id a : Int} : a ∈ putQ l id ↔ a ∈ l ∨ a = id := by
  unfold putQ
  conv => rhs; rw [← List.take_append_drop (l.countP fun x => decide (x < id)) l]
  simp only [List.mem_append, List.mem_singleton]
  constructor
  · rintro ((h | h) | h)
    · exact .inl (.inl h)
    · exact .inr h
    · exact .inl (.inr h)
  · rintro ((h | h) | h)
    · exact .inl (.inl h)
    · exact .inr h
    · exact .inl (.inr h)
theorem rising_putQ {l : List Int} {id : Int} (h : l.Pairwise (· < ·)) (hm : ¬ id ∈ l) : (putQ l id).Pairwise (· < ·) := by
  have hp := parts_below id h
  unfold putQ
  have h2 : (l.take (l.countP fun x => decide (x < id)) ++ l.drop (l.countP fun x => decide (x < id))).Pairwise (· < ·) := by rw [List.take_append_drop]; exact h
  have h3 := List.pairwise_append.1 h2
  have hgt : ∀ x ∈ l.drop (l.countP fun x => decide (x < id)), id < x := fun x hx => by
    have h4 := hp.2 x hx
    have h5 : x ≠ id := fun e => hm (e ▸ List.mem_of_mem_drop hx)
    omega
  refine List.pairwise_append.2 ⟨List.pairwise_append.2 ⟨h3.1, by simp, fun a ha b hb => ?_⟩, h3.2.1, fun a ha b hb => ?_⟩
  · simp at hb; subst hb; exact hp.1 a ha
  · rcases List.mem_append.1 ha with h4 | h4
    · exact h3.2.2 a h4 b hb
    · simp at h4; subst h4; exact hgt b hb
theorem length_putQ (l : List Int) (id : Int) : (putQ l id).length = l.length + 1 := by
  unfold putQ
  have : (l.countP fun x => decide (x < id)) ≤ l.length := List.countP_le_length
  simp only [List.length_append, List.length_take, List.length_drop, List.length_singleton]
  omega
theorem mem_outQ {l : List Int} {id a : Int} (h : l.Pairwise (· < ·)) (hm : id ∈ l) : a ∈ outQ l id ↔ a ∈ l ∧ a ≠ id := by
  have hpl := place_lt h hm
  have hp := parts_below id h
  unfold outQ
  generalize hk : (l.countP fun x => decide (x < id)) = k at hpl hp
  have hd : l.drop k = id :: l.drop (k + 1) := by
    rw [List.drop_eq_getElem_cons hpl.1]
    congr 1
    have := hpl.2
    rw [List.getElem?_eq_getElem hpl.1] at this
    exact Option.some.inj this
  have h2 : (l.take k ++ l.drop k).Pairwise (· < ·) := by rw [List.take_append_drop]; exact h
  have h3 := (List.pairwise_append.1 h2).2.1
  rw [hd, List.pairwise_cons] at h3
  conv => rhs; rw [← List.take_append_drop k l, hd]
  simp only [List.mem_append, List.mem_cons]
  constructor
  · rintro (h4 | h4)
    · have := hp.1 a h4
      exact ⟨.inl h4, by omega⟩
    · have := h3.1 a h4
      exact ⟨.inr (.inr h4), by omega⟩
  · rintro ⟨h4 | h4 | h4, h5⟩
    · exact .inl h4
    · exact absurd h4 h5
    · exact .inr h4
theorem rising_outQ {l : List Int} {id : Int} (h : l.Pairwise (· < ·)) : (outQ l id).Pairwise (· < ·) := by
  refine h.sublist ?_
  unfold outQ
  conv => rhs; rw [← List.take_append_drop (l.countP fun x => decide (x < id)) l]
  refine List.Sublist.append (List.Sublist.refl _) ?_
  rw [← List.drop_drop]
  exact List.drop_sublist _ _
theorem length_outQ {l : List Int} {id : Int} (h : l.Pairwise (· < ·)) (hm : id ∈ l) : (outQ l id).length + 1 = l.length := by
  have hpl := place_lt h hm
  unfold outQ
  simp only [List.length_append, List.length_take, List.length_drop]
  omega

/-- what a change that is done says -/
theorem change_ok {l : List Int} {add : Bool} {id : Int} (h : changeE l add id = 0) : RightQ l ∧ InQ id ∧ (add = true → ¬ id ∈ l ∧ l.length < 7) ∧ (add = false → id ∈ l ∧ 1 < l.length) := by
  unfold changeE at h
  split at h
  · cases h
  · rename_i h1
    rw [not_or, Decidable.not_not, Decidable.not_not] at h1
    split at h
    · cases h
    · rename_i h2
      split at h
      · cases h
      · rename_i h3
        split at h
        · cases h
        · rename_i h4
          split at h
          · cases h
          · rename_i h5
            refine ⟨h1.1, h1.2, fun e => ⟨fun hm => h2 ⟨e, hm⟩, ?_⟩, fun e => ⟨Decidable.byContradiction fun hm => h3 ⟨e, hm⟩, ?_⟩⟩
            · have : ¬ l.length = 7 := fun e2 => h4 ⟨e, e2⟩
              have := h1.1.1.2
              omega
            · have : ¬ l.length = 1 := fun e2 => h5 ⟨e, e2⟩
              have := h1.1.1.1
              omega
theorem changeL_put {l : List Int} {id : Int} (h : changeE l true id = 0) : changeL l true id = putQ l id := by unfold changeL; rw [if_pos h, if_pos rfl]
theorem changeL_out {l : List Int} {id : Int} (h : changeE l false id = 0) : changeL l false id = outQ l id := by unfold changeL; rw [if_pos h, if_neg (by decide)]
theorem changeL_no {l : List Int} {add : Bool} {id : Int} (h : changeE l add id ≠ 0) : changeL l add id = [] := by unfold changeL; rw [if_neg h]
/-- who is among them behind a change -/
theorem mem_change {l : List Int} {add : Bool} {id a : Int} (h : changeE l add id = 0) : a ∈ changeL l add id ↔ (a ∈ l ∧ (add = true ∨ a ≠ id)) ∨ (add = true ∧ a = id) := by
  have hk := change_ok h
  cases add with
  | true =>
    rw [changeL_put h, mem_putQ]
    simp
  | false =>
    rw [changeL_out h, mem_outQ hk.1.2.2 (hk.2.2.2 rfl).1]
    simp
theorem right_change {l : List Int} {add : Bool} {id : Int} (h : changeE l add id = 0) : RightQ (changeL l add id) := by
  have hk := change_ok h
  refine ⟨?_, fun a ha => ?_, ?_⟩
  · cases add with
    | true => rw [changeL_put h, length_putQ]; have := hk.2.2.1 rfl; omega
    | false =>
      rw [changeL_out h]
      have h1 := length_outQ hk.1.2.2 (hk.2.2.2 rfl).1
      have := hk.2.2.2 rfl
      have := hk.1.1
      omega
  · rcases (mem_change h).1 ha with h1 | h1
    · exact hk.1.2.1 a h1.1
    · rw [h1.2]; exact hk.2.1
  · cases add with
    | true => rw [changeL_put h]; exact rising_putQ hk.1.2.2 (hk.2.2.1 rfl).1
    | false => rw [changeL_out h]; exact rising_outQ hk.1.2.2
/-- a change is undone by the other one -/
theorem change_back {l : List Int} {id : Int} (h : changeE l true id = 0) : changeE (changeL l true id) false id = 0 ∧ changeL (changeL l true id) false id = l := by
  have hk := change_ok h
  have hr := right_change h
  have hm : id ∈ changeL l true id := (mem_change h).2 (.inr ⟨rfl, rfl⟩)
  have hl : (changeL l true id).length = l.length + 1 := by rw [changeL_put h, length_putQ]
  have h0 : changeE (changeL l true id) false id = 0 := by
    unfold changeE
    rw [if_neg (by rw [not_or, Decidable.not_not, Decidable.not_not]; exact ⟨hr, hk.2.1⟩), if_neg (by simp), if_neg (by simp [hm]), if_neg (by simp), if_neg (by have := hk.1.1.1; omega)]
  refine ⟨h0, rising_ext (right_change h0).2.2 hk.1.2.2 fun a => ?_⟩
  rw [mem_change h0, mem_change h]
  have := (hk.2.2.1 rfl).1
  constructor
  · rintro (⟨(h1 | h1), h2⟩ | h1)
    · exact h1.1
    · simp at h2; exact absurd h1.2 h2
    · cases h1.1
  · intro ha
    exact .inl ⟨.inl ⟨ha, .inl rfl⟩, .inr fun e => this (e ▸ ha)⟩
/-- the document's own way: all numbers one by one -/
def refIn (l : List Int) (add : Bool) (id v : Int) : Bool := (decide (v ∈ l) && (add || v != id)) || (add && v == id)
def upTo (n : Nat) : List Int := (List.range n).map fun (i : Nat) => (i : Int)
theorem rising_upTo (n : Nat) : (upTo n).Pairwise (· < ·) := by
  unfold upTo
  rw [List.pairwise_map]
  exact List.pairwise_lt_range.imp fun h => by omega
theorem upTo_succ (n : Nat) : upTo (n + 1) = upTo n ++ [(n : Int)] := by
  unfold upTo
  rw [List.range_succ, List.map_append]; rfl
theorem ref_change {l : List Int} {add : Bool} {id : Int} (h : changeE l add id = 0) : (upTo 16).filter (refIn l add id) = changeL l add id := by
  have hk := right_change h
  refine rising_ext ((rising_upTo 16).filter _) hk.2.2 fun a => ?_
  rw [mem_change h, List.mem_filter]
  have hin : a ∈ changeL l add id → a ∈ upTo 16 := fun ha => by
    have := hk.2.1 a ha
    unfold InQ at this
    unfold upTo
    rw [List.mem_map]
    exact ⟨a.toNat, List.mem_range.2 (by omega), by omega⟩
  have hb : refIn l add id a = true ↔ (a ∈ l ∧ (add = true ∨ a ≠ id)) ∨ (add = true ∧ a = id) := by
    unfold refIn
    simp
  rw [hb]
  exact ⟨fun h1 => h1.2, fun h1 => ⟨hin ((mem_change h).2 h1), h1⟩⟩

/-! ### majorities meet -/
theorem won_right {l a : List Int} (h : wonQ l a = true) : RightQ l ∧ l.length < 2 * cntIn l a := by
  unfold wonQ at h
  simpa using h
theorem meet_same {l a b : List Int} (h : wonQ l a = true) (k : wonQ l b = true) : ∃ x ∈ l, x ∈ a ∧ x ∈ b := by
  have h1 := (won_right h).2
  have h2 := (won_right k).2
  exact meet_of (by omega)
theorem cnt_put (l b : List Int) (id : Int) : cntIn (putQ l id) b ≤ cntIn l b + 1 := by
  have e : cntIn l b = (l.take (l.countP fun x => decide (x < id))).countP (fun x => decide (x ∈ b)) + (l.drop (l.countP fun x => decide (x < id))).countP (fun x => decide (x ∈ b)) := by
    rw [← List.countP_append, List.take_append_drop]; rfl
  have e2 : [id].countP (fun x => decide (x ∈ b)) ≤ 1 := List.countP_le_length (l := [id])
  unfold putQ
  unfold cntIn at e ⊢
  rw [List.countP_append, List.countP_append]
  omega
theorem cnt_out {l b : List Int} {id : Int} (h : l.Pairwise (· < ·)) (hm : id ∈ l) : cntIn l b ≤ cntIn (outQ l id) b + 1 ∧ cntIn (outQ l id) b ≤ cntIn l b := by
  have hpl := place_lt h hm
  generalize hk : (l.countP fun x => decide (x < id)) = k at hpl
  have hd : l.drop k = id :: l.drop (k + 1) := by
    rw [List.drop_eq_getElem_cons hpl.1]
    congr 1
    have := hpl.2
    rw [List.getElem?_eq_getElem hpl.1] at this
    exact Option.some.inj this
  have e : cntIn l b = (l.take k).countP (fun x => decide (x ∈ b)) + ([id].countP (fun x => decide (x ∈ b)) + (l.drop (k + 1)).countP (fun x => decide (x ∈ b))) := by
    rw [← List.countP_append, ← List.countP_append]
    have : l.take k ++ ([id] ++ l.drop (k + 1)) = l := by rw [List.singleton_append, ← hd, List.take_append_drop]
    rw [this]; rfl
  have e2 : [id].countP (fun x => decide (x ∈ b)) ≤ 1 := List.countP_le_length (l := [id])
  unfold outQ
  rw [hk]
  unfold cntIn at e ⊢
  rw [List.countP_append]
  omega
theorem meet_next {l a b : List Int} {add : Bool} {id : Int} (h : wonQ l a = true) (hc : changeE l add id = 0) (k : wonQ (changeL l add id) b = true) : (∃ x ∈ l, x ∈ a ∧ x ∈ b) ∧ ∃ x ∈ changeL l add id, x ∈ a ∧ x ∈ b := by
  have h1 := won_right h
  have h2 := won_right k
  have hk := change_ok hc
  cases add with
  | true =>
    rw [changeL_put hc, length_putQ] at h2
    have h3 := cnt_put l b id
    obtain ⟨x, hx, hab⟩ := meet_of (l := l) (a := a) (b := b) (by omega)
    exact ⟨⟨x, hx, hab⟩, x, (mem_change hc).2 (.inl ⟨hx, .inl rfl⟩), hab⟩
  | false =>
    rw [changeL_out hc] at h2
    have hm := (hk.2.2.2 rfl).1
    have hr := hk.1.2.2
    have h3 := length_outQ hr hm
    have h4 := cnt_out (b := a) hr hm
    obtain ⟨x, hx, hab⟩ := meet_of (l := outQ l id) (a := a) (b := b) (by omega)
    exact ⟨⟨x, ((mem_outQ hr hm).1 hx).1, hab⟩, x, by rw [changeL_out hc]; exact hx, hab⟩
end Go.Proofs.Ytpoooehnobfjfaa
