/-
  Heaps as mathematics: entries (a name, a key), which one is ahead, a tree in a list with a hole in it, how a hole goes up and down, where names stand, and lists of entries in their order. It speaks of no program. No condition but what each lemma names.
-/
import Derived.WalkKit
import Derived.Lib.Small
namespace Go.Proofs.Ytfigohlgckandaa
set_option linter.unusedVariables false

/-- a name and a key -/
abbrev Ent := Int × Int
def ahead (a b : Ent) : Prop := a.2 < b.2 ∨ (a.2 = b.2 ∧ a.1 < b.1)
instance (a b : Ent) : Decidable (ahead a b) := inferInstanceAs (Decidable (_ ∨ _))
theorem ahead_irr (a : Ent) : ¬ ahead a a := by unfold ahead; omega
theorem ahead_asymm {a b : Ent} (h : ahead a b) : ¬ ahead b a := by unfold ahead at *; omega
theorem ahead_trans {a b c : Ent} (h : ahead a b) (k : ahead b c) : ahead a c := by unfold ahead at *; omega
theorem le_trans_E {a b c : Ent} (h : ¬ ahead b a) (k : ¬ ahead c b) : ¬ ahead c a := by unfold ahead at *; omega
theorem antisymm_E {a b : Ent} (h : ¬ ahead b a) (k : ¬ ahead a b) : a = b := by
  obtain ⟨a1, a2⟩ := a
  obtain ⟨b1, b2⟩ := b
  unfold ahead at *
  simp only at h k
  have : a1 = b1 := by omega
  have : a2 = b2 := by omega
  simp_all

/-- as heap.compare tells it -/
def cmpE (a b : Ent) : Int := if Lib.compareInt a.2 b.2 = 0 then Lib.compareInt a.1 b.1 else Lib.compareInt a.2 b.2
theorem cmpI_lt (a b : Int) : Lib.compareInt a b < 0 ↔ a < b := by unfold Lib.compareInt; split <;> (try split) <;> omega
theorem cmpI_zero (a b : Int) : Lib.compareInt a b = 0 ↔ a = b := by unfold Lib.compareInt; split <;> (try split) <;> omega
theorem cmpI_range (a b : Int) : -1 ≤ Lib.compareInt a b ∧ Lib.compareInt a b ≤ 1 := by unfold Lib.compareInt; split <;> (try split) <;> omega
theorem cmpE_lt (a b : Ent) : cmpE a b < 0 ↔ ahead a b := by
  have h1 := cmpI_lt a.2 b.2; have h2 := cmpI_lt a.1 b.1; have h3 := cmpI_zero a.2 b.2
  unfold cmpE ahead
  split <;> omega
theorem cmpE_gt (a b : Ent) : 0 < cmpE a b ↔ ahead b a := by
  have h1 := cmpI_lt a.2 b.2; have h2 := cmpI_lt a.1 b.1; have h3 := cmpI_zero a.2 b.2; have h4 := cmpI_zero a.1 b.1
  unfold cmpE ahead
  split <;> omega
theorem cmpE_range (a b : Ent) : -1 ≤ cmpE a b ∧ cmpE a b ≤ 1 := by unfold cmpE; split <;> apply cmpI_range

/-- no entry of the tree is ahead of the one above it -/
def HeapOk (t : List Ent) : Prop := ∀ (i : Nat) a b, 0 < i → t[(i - 1) / 2]? = some a → t[i]? = some b → ¬ ahead b a
/-- a heap but for the place p, whose own entry counts no more -/
structure Hole (p : Nat) (t : List Ent) : Prop where
  off : ∀ (i : Nat) a b, 0 < i → i ≠ p → (i - 1) / 2 ≠ p → t[(i - 1) / 2]? = some a → t[i]? = some b → ¬ ahead b a
  over : ∀ (c : Nat) a b, 0 < p → 0 < c → (c - 1) / 2 = p → t[(p - 1) / 2]? = some a → t[c]? = some b → ¬ ahead b a
/-- e may stand below what stands above p -/
def AboveOk (p : Nat) (t : List Ent) (e : Ent) : Prop := ∀ a, 0 < p → t[(p - 1) / 2]? = some a → ¬ ahead e a

theorem HeapOk.nil : HeapOk [] := fun i a b _ h => by simp at h
theorem HeapOk.hole {t : List Ent} (h : HeapOk t) (p : Nat) : Hole p t := by
  refine ⟨fun i a b h0 _ _ ha hb => h i a b h0 ha hb, fun c a b hp hc he ha hb => ?_⟩
  have hl : p < t.length := by
    have := (List.getElem?_eq_some_iff.1 hb).1
    omega
  have h1 := h p a t[p] hp ha (List.getElem?_eq_getElem hl)
  have h2 := h c t[p] b hc (by rw [he]; exact List.getElem?_eq_getElem hl) hb
  exact le_trans_E h1 h2
theorem HeapOk.take {t : List Ent} (h : HeapOk t) (k : Nat) : HeapOk (t.take k) := by
  intro i a b h0 ha hb
  rw [List.getElem?_take] at ha hb
  split at ha
  · split at hb
    · exact h i a b h0 ha hb
    · cases hb
  · cases ha
theorem HeapOk.grow {t : List Ent} (h : HeapOk t) (z : Ent) : Hole t.length (t ++ [z]) := by
  have hh : ∀ {i : Nat} {b : Ent}, (t ++ [z])[i]? = some b → i ≠ t.length → t[i]? = some b := by
    intro i b hb hi
    have hl := (List.getElem?_eq_some_iff.1 hb).1
    rw [List.length_append, List.length_singleton] at hl
    rwa [List.getElem?_append_left (by omega)] at hb
  refine ⟨fun i a b h0 hi hp ha hb => h i a b h0 (hh ha hp) (hh hb hi), fun c a b hp hc he ha hb => ?_⟩
  have hl := (List.getElem?_eq_some_iff.1 hb).1
  rw [List.length_append, List.length_singleton] at hl
  omega
theorem set_get {t : List Ent} {p i : Nat} {a b : Ent} (h : (t.set p a)[i]? = some b) : (i = p ∧ b = a ∧ p < t.length) ∨ (i ≠ p ∧ t[i]? = some b) := by
  rw [List.getElem?_set] at h
  by_cases hi : p = i
  · rw [if_pos hi] at h
    split at h
    · injection h with h
      exact .inl ⟨hi.symm, h.symm, ‹_›⟩
    · cases h
  · rw [if_neg hi] at h
    exact .inr ⟨fun e => hi e.symm, h⟩
theorem get_set {t : List Ent} {p i : Nat} {a b : Ent} (hi : i ≠ p) (h : t[i]? = some b) : (t.set p a)[i]? = some b := by
  rw [List.getElem?_set, if_neg (fun e => hi e.symm)]; exact h
theorem get_set_self {t : List Ent} {p : Nat} {a : Ent} (h : p < t.length) : (t.set p a)[p]? = some a := by
  rw [List.getElem?_set, if_pos rfl, if_pos h]
theorem Hole.up {p : Nat} {t : List Ent} (h : Hole p t) (hp : 0 < p) {a : Ent} (ha : t[(p - 1) / 2]? = some a) : Hole ((p - 1) / 2) (t.set p a) := by
  refine ⟨fun i x y h0 hi hpi hx hy => ?_, fun c x y hq hc he hx hy => ?_⟩
  · rcases set_get hy with ⟨rfl, rfl, hl⟩ | ⟨hip, hy'⟩
    · exact absurd rfl hpi
    · rcases set_get hx with ⟨e, rfl, hl⟩ | ⟨hpp, hx'⟩
      · exact h.over i _ y hp h0 e ha hy'
      · exact h.off i x y h0 hip hpp hx' hy'
  · have hne : ((p - 1) / 2 - 1) / 2 ≠ p := by omega
    rcases set_get hx with ⟨e, _, _⟩ | ⟨_, hx⟩
    · exact absurd e hne
    · have h1 := h.off ((p - 1) / 2) x a hq (by omega) hne hx ha
      rcases set_get hy with ⟨rfl, rfl, hl⟩ | ⟨hcp, hy⟩
      · exact h1
      · exact le_trans_E h1 (h.off c a y hc hcp (by rw [he]; omega) (by rw [he]; exact ha) hy)
theorem Hole.down {p q : Nat} {t : List Ent} (h : Hole p t) (hq : 0 < q) (he : (q - 1) / 2 = p) {b : Ent} (hb : t[q]? = some b) (hleast : ∀ (j : Nat) y, 0 < j → (j - 1) / 2 = p → t[j]? = some y → ¬ ahead y b) : Hole q (t.set p b) := by
  refine ⟨fun i x y h0 hi hpi hx hy => ?_, fun c x y hq' hc hce hx hy => ?_⟩
  · rcases set_get hy with ⟨rfl, rfl, hl⟩ | ⟨hip, hy'⟩
    · rcases set_get hx with ⟨e, _, _⟩ | ⟨_, hx'⟩
      · omega
      · exact h.over q x _ h0 hq he hx' hb
    · rcases set_get hx with ⟨e, rfl, hl⟩ | ⟨hpp, hx'⟩
      · exact hleast i y h0 e hy'
      · exact h.off i x y h0 hip hpp hx' hy'
  · rcases set_get hx with ⟨_, rfl, _⟩ | ⟨hn, _⟩
    · rcases set_get hy with ⟨rfl, _, _⟩ | ⟨hcp, hy⟩
      · omega
      · exact h.off c x y hc hcp (by omega) (by rw [hce]; exact hb) hy
    · exact absurd he hn
theorem AboveOk.down {p q : Nat} {t : List Ent} {b e : Ent} (hl : p < t.length) (he : (q - 1) / 2 = p) (hbe : ahead b e) : AboveOk q (t.set p b) e := by
  intro a _ ha
  rw [he] at ha
  rcases set_get ha with ⟨_, rfl, _⟩ | ⟨hn, _⟩
  · exact ahead_asymm hbe
  · exact absurd rfl hn
theorem Hole.done {p : Nat} {t : List Ent} {e : Ent} (h : Hole p t) (ha : AboveOk p t e) (hb : ∀ (j : Nat) y, 0 < j → (j - 1) / 2 = p → t[j]? = some y → ¬ ahead y e) : HeapOk (t.set p e) := by
  intro i x y h0 hx hy
  rcases set_get hy with ⟨rfl, rfl, hl⟩ | ⟨hip, hy'⟩
  · rcases set_get hx with ⟨e1, _, _⟩ | ⟨_, hx'⟩
    · omega
    · exact ha x h0 hx'
  · rcases set_get hx with ⟨e1, rfl, hl⟩ | ⟨hpp, hx'⟩
    · exact hb i y h0 e1 hy'
    · exact h.off i x y h0 hip hpp hx' hy'
/-- the first is not behind any -/
theorem HeapOk.first {t : List Ent} (h : HeapOk t) {a : Ent} (ha : t[0]? = some a) : ∀ (i : Nat) b, t[i]? = some b → ¬ ahead b a := by
  intro i
  induction i using Nat.strongRecOn with
  | ind i ih =>
    intro b hb
    by_cases h0 : i = 0
    · subst h0
      rw [ha] at hb
      injection hb with hb
      subst hb
      exact ahead_irr _
    · have hl := (List.getElem?_eq_some_iff.1 hb).1
      have hp : (i - 1) / 2 < t.length := by omega
      exact le_trans_E (ih ((i - 1) / 2) (by omega) _ (List.getElem?_eq_getElem hp)) (h i _ b (by omega) (List.getElem?_eq_getElem hp) hb)

/-! ### what stands off a hole, and where -/
def Off (p : Nat) (t : List Ent) (r : Ent) : Prop := ∃ i, i ≠ p ∧ t[i]? = some r
theorem Off.moved {p q : Nat} {t : List Ent} {b : Ent} (hpq : q ≠ p) (hb : t[q]? = some b) (hl : p < t.length) (r : Ent) : Off q (t.set p b) r ↔ Off p t r := by
  constructor
  · rintro ⟨i, hi, h⟩
    rcases set_get h with ⟨rfl, rfl, _⟩ | ⟨hip, h⟩
    · exact ⟨q, hpq, hb⟩
    · exact ⟨i, hip, h⟩
  · rintro ⟨i, hi, h⟩
    by_cases hiq : i = q
    · subst hiq
      rw [hb] at h
      injection h with h
      subst h
      exact ⟨p, fun e => hpq e.symm, get_set_self hl⟩
    · exact ⟨i, hiq, get_set hi h⟩
theorem Off.done {p : Nat} {t : List Ent} {e : Ent} (hl : p < t.length) (r : Ent) : r ∈ t.set p e ↔ r = e ∨ Off p t r := by
  rw [List.mem_iff_getElem?]
  constructor
  · rintro ⟨i, h⟩
    rcases set_get h with ⟨rfl, rfl, _⟩ | ⟨hip, h⟩
    · exact .inl rfl
    · exact .inr ⟨i, hip, h⟩
  · rintro (rfl | ⟨i, hi, h⟩)
    · exact ⟨p, get_set_self hl⟩
    · exact ⟨i, get_set hi h⟩
/-- where names stand, as a map tells it -/
def upd (f : Int → Int) (k v : Int) : Int → Int := fun j => if j = k then v else f j
theorem upd_same (f : Int → Int) (k v : Int) : upd f k v k = v := if_pos rfl
theorem upd_other {f : Int → Int} {k j v : Int} (e : j ≠ k) : upd f k v j = f j := if_neg e
/-- of all but the hole the map tells where it stands -/
def PlacesOff (p : Nat) (t : List Ent) (ks : List Int) (f : Int → Int) : Prop := ∀ (i : Nat) r, i ≠ p → t[i]? = some r → r.1 ∈ ks ∧ f r.1 = (i : Int)
theorem PlacesOff.moved {p q : Nat} {t : List Ent} {ks : List Int} {f : Int → Int} {b : Ent} (h : PlacesOff p t ks f) (hpq : q ≠ p) (hb : t[q]? = some b) : PlacesOff q (t.set p b) ks (upd f b.1 (p : Int)) := by
  intro i r hi hr
  obtain ⟨b1, b2⟩ := h q b hpq hb
  rcases set_get hr with ⟨rfl, rfl, _⟩ | ⟨hip, hr⟩
  · exact ⟨b1, upd_same _ _ _⟩
  · obtain ⟨r1, r2⟩ := h i r hip hr
    have hne : r.1 ≠ b.1 := fun e => by rw [e, b2] at r2; omega
    exact ⟨r1, by rw [upd_other hne]; exact r2⟩
/-- the names that a map has, with one more -/
def insK (k : Int) : List Int → List Int
  | [] => [k]
  | y :: r => if k < y then k :: y :: r else y :: insK k r
def outK (ks : List Int) (k : Int) : List Int := ks.filter fun j => j != k
def putK (ks : List Int) (k : Int) : List Int := insK k (outK ks k)
theorem mem_insK {k j : Int} : ∀ {ks : List Int}, j ∈ insK k ks ↔ j = k ∨ j ∈ ks
  | [] => by simp [insK]
  | y :: r => by
    unfold insK
    split
    · simp
    · simp only [List.mem_cons, mem_insK (ks := r)]
      constructor
      · rintro (h | h | h)
        · exact .inr (.inl h)
        · exact .inl h
        · exact .inr (.inr h)
      · rintro (h | h | h)
        · exact .inr (.inl h)
        · exact .inl h
        · exact .inr (.inr h)
theorem mem_outK {k j : Int} {ks : List Int} : j ∈ outK ks k ↔ j ∈ ks ∧ j ≠ k := by simp [outK]
theorem mem_putK {k j : Int} {ks : List Int} : j ∈ putK ks k ↔ j = k ∨ j ∈ ks := by
  unfold putK
  rw [mem_insK, mem_outK]
  by_cases e : j = k <;> simp [e]
theorem insK_length (k : Int) : ∀ ks : List Int, (insK k ks).length = ks.length + 1
  | [] => rfl
  | y :: r => by
    unfold insK
    split
    · rfl
    · simp [insK_length k r]
/-- rising -/
def RisingK (ks : List Int) : Prop := ks.Pairwise fun a b => a < b
theorem RisingK.out {ks : List Int} (h : RisingK ks) (k : Int) : RisingK (outK ks k) := h.filter _
theorem risingK_ins {k : Int} : ∀ {ks : List Int}, RisingK ks → (∀ j ∈ ks, j ≠ k) → RisingK (insK k ks)
  | [], _, _ => by simp [insK, RisingK]
  | y :: r, h, hne => by
    obtain ⟨h1, h2⟩ := List.pairwise_cons.1 h
    unfold insK
    split
    · rename_i hlt
      refine List.pairwise_cons.2 ⟨fun q hq => ?_, h⟩
      rcases List.mem_cons.1 hq with rfl | hq
      · exact hlt
      · exact Int.lt_trans hlt (h1 q hq)
    · rename_i hlt
      have hny := hne y (by simp)
      refine List.pairwise_cons.2 ⟨fun q hq => ?_, risingK_ins h2 fun q hq => hne q (by simp [hq])⟩
      rcases mem_insK.1 hq with rfl | hq
      · omega
      · exact h1 q hq
theorem RisingK.put {ks : List Int} (h : RisingK ks) (k : Int) : RisingK (putK ks k) := risingK_ins (h.out k) fun j hj => (mem_outK.1 hj).2
/-- of a name that is there the map gets no greater -/
theorem RisingK.nodup {ks : List Int} (h : RisingK ks) : ks.Nodup := h.imp fun e => by omega
theorem putK_length_mem {ks : List Int} (h : RisingK ks) {k : Int} (hk : k ∈ ks) : (putK ks k).length = ks.length :=
  List.Perm.length_eq ((List.perm_ext_iff_of_nodup (h.put k).nodup h.nodup).2 fun j => by rw [mem_putK]; exact ⟨fun e => e.elim (fun e => e ▸ hk) id, .inr⟩)
theorem putK_length (ks : List Int) (k : Int) : (putK ks k).length ≤ ks.length + 1 := by
  rw [putK, insK_length]
  have := List.length_filter_le (fun j => j != k) ks
  unfold outK; omega

/-- a tree and its map, whole -/
structure TreeOk (t : List Ent) (ks : List Int) (f : Int → Int) : Prop where
  heap : HeapOk t
  place : ∀ (i : Nat) r, t[i]? = some r → r.1 ∈ ks ∧ f r.1 = (i : Int)
  keys : ∀ k ∈ ks, ∃ r ∈ t, r.1 = k
  rise : RisingK ks
theorem TreeOk.nil (f : Int → Int) : TreeOk [] [] f := ⟨HeapOk.nil, fun i r h => by simp at h, fun k h => (by cases h), List.Pairwise.nil⟩
theorem TreeOk.names {t : List Ent} {ks : List Int} {f : Int → Int} (h : TreeOk t ks f) {i j : Nat} {a b : Ent} (ha : t[i]? = some a) (hb : t[j]? = some b) (e : a.1 = b.1) : i = j := by
  have h1 := (h.place i a ha).2
  have h2 := (h.place j b hb).2
  rw [e, h2] at h1
  omega
theorem TreeOk.distinct {t : List Ent} {ks : List Int} {f : Int → Int} (h : TreeOk t ks f) : t.Pairwise fun a b => a.1 ≠ b.1 := by
  rw [List.pairwise_iff_getElem]
  intro i j hi hj hij e
  exact absurd (h.names (List.getElem?_eq_getElem hi) (List.getElem?_eq_getElem hj) e) (by omega)
theorem TreeOk.nodup {t : List Ent} {ks : List Int} {f : Int → Int} (h : TreeOk t ks f) : t.Nodup := h.distinct.imp fun e e2 => e (by rw [e2])
theorem TreeOk.has {t : List Ent} {ks : List Int} {f : Int → Int} (h : TreeOk t ks f) {k : Int} (hk : k ∈ ks) : ∃ (i : Nat) (v : Int), f k = (i : Int) ∧ t[i]? = some (k, v) := by
  obtain ⟨r, hr, rfl⟩ := h.keys k hk
  obtain ⟨i, hi⟩ := List.mem_iff_getElem?.1 hr
  exact ⟨i, r.2, (h.place i r hi).2, hi⟩

/-! ### entries in their order -/
def outE (x : List Ent) (n : Int) : List Ent := x.filter fun p => p.1 != n
def insE (e : Ent) : List Ent → List Ent
  | [] => [e]
  | y :: r => if ahead e y then e :: y :: r else y :: insE e r
def putE (x : List Ent) (e : Ent) : List Ent := insE e (outE x e.1)
def RisingE (x : List Ent) : Prop := x.Pairwise ahead
def NamesE (x : List Ent) : Prop := x.Pairwise fun a b => a.1 ≠ b.1
theorem mem_outE {x : List Ent} {n : Int} {q : Ent} : q ∈ outE x n ↔ q ∈ x ∧ q.1 ≠ n := by simp [outE]
theorem mem_insE {p q : Ent} : ∀ {x : List Ent}, q ∈ insE p x ↔ q = p ∨ q ∈ x
  | [] => by simp [insE]
  | y :: r => by
    unfold insE
    split
    · simp
    · simp only [List.mem_cons, mem_insE (x := r)]
      constructor
      · rintro (h | h | h)
        · exact .inr (.inl h)
        · exact .inl h
        · exact .inr (.inr h)
      · rintro (h | h | h)
        · exact .inr (.inl h)
        · exact .inl h
        · exact .inr (.inr h)
theorem mem_putE {x : List Ent} {e q : Ent} : q ∈ putE x e ↔ q = e ∨ (q ∈ x ∧ q.1 ≠ e.1) := by unfold putE; rw [mem_insE, mem_outE]
theorem insE_length (p : Ent) : ∀ x : List Ent, (insE p x).length = x.length + 1
  | [] => rfl
  | y :: r => by
    unfold insE
    split
    · rfl
    · simp [insE_length p r]
theorem outE_length (x : List Ent) (n : Int) : (outE x n).length ≤ x.length := List.length_filter_le _ _
theorem putE_length (x : List Ent) (e : Ent) : (putE x e).length ≤ x.length + 1 := by
  have := outE_length x e.1
  rw [putE, insE_length]; omega
/-- entries, rising, each name once -/
structure GoodE (x : List Ent) : Prop where
  up : RisingE x
  names : NamesE x
theorem GoodE.nil : GoodE [] := ⟨List.Pairwise.nil, List.Pairwise.nil⟩
theorem GoodE.out {x : List Ent} (h : GoodE x) (n : Int) : GoodE (outE x n) := ⟨h.up.filter _, h.names.filter _⟩
theorem goodE_ins {p : Ent} : ∀ {x : List Ent}, GoodE x → (∀ q ∈ x, q.1 ≠ p.1) → GoodE (insE p x)
  | [], _, _ => ⟨by simp [insE, RisingE], by simp [insE, NamesE]⟩
  | y :: r, h, hne => by
    obtain ⟨h1, h2⟩ := List.pairwise_cons.1 h.up
    obtain ⟨n1, n2⟩ := List.pairwise_cons.1 h.names
    have hny := hne y (by simp)
    unfold insE
    split
    · rename_i hlt
      refine ⟨List.pairwise_cons.2 ⟨fun q hq => ?_, h.up⟩, List.pairwise_cons.2 ⟨fun q hq e => hne q hq e.symm, h.names⟩⟩
      rcases List.mem_cons.1 hq with rfl | hq
      · exact hlt
      · exact ahead_trans hlt (h1 q hq)
    · rename_i hlt
      have ih := goodE_ins (p := p) ⟨h2, n2⟩ fun q hq => hne q (by simp [hq])
      have hyp : ahead y p := by
        by_cases e : ahead y p
        · exact e
        · exact absurd (by rw [antisymm_E e hlt]) hny
      refine ⟨List.pairwise_cons.2 ⟨fun q hq => ?_, ih.up⟩, List.pairwise_cons.2 ⟨fun q hq => ?_, ih.names⟩⟩
      · rcases mem_insE.1 hq with rfl | hq
        · exact hyp
        · exact h1 q hq
      · rcases mem_insE.1 hq with rfl | hq
        · exact hny
        · exact n1 q hq
theorem GoodE.put {x : List Ent} (h : GoodE x) (e : Ent) : GoodE (putE x e) := goodE_ins (h.out e.1) fun q hq => (mem_outE.1 hq).2
theorem GoodE.nodup {x : List Ent} (h : GoodE x) : x.Nodup := h.names.imp fun e e2 => e (by rw [e2])
theorem GoodE.one {x : List Ent} (h : GoodE x) {a b : Ent} (ha : a ∈ x) (hb : b ∈ x) (e : a.1 = b.1) : a = b := by
  have hn := h.names
  unfold NamesE at hn
  rw [List.pairwise_iff_getElem] at hn
  obtain ⟨i, hi, rfl⟩ := List.mem_iff_getElem.1 ha
  obtain ⟨j, hj, rfl⟩ := List.mem_iff_getElem.1 hb
  rcases Nat.lt_trichotomy i j with hij | rfl | hij
  · exact absurd e (hn i j hi hj hij)
  · rfl
  · exact absurd e.symm (hn j i hj hi hij)
/-- two such lists with the same entries are one -/
theorem GoodE.unique {x y : List Ent} (h : GoodE x) (k : GoodE y) (hm : ∀ r, r ∈ x ↔ r ∈ y) : x = y :=
  List.Perm.eq_of_pairwise (le := ahead) (fun a b _ _ h1 h2 => absurd h2 (ahead_asymm h1)) h.up k.up ((List.perm_ext_iff_of_nodup h.nodup k.nodup).2 hm)
theorem GoodE.perm {x t : List Ent} {ks : List Int} {f : Int → Int} (h : GoodE x) (k : TreeOk t ks f) (hm : ∀ r, r ∈ t ↔ r ∈ x) : t.Perm x := (List.perm_ext_iff_of_nodup k.nodup h.nodup).2 hm
theorem GoodE.first {x t : List Ent} {ks : List Int} {f : Int → Int} (h : GoodE x) (k : TreeOk t ks f) (hm : ∀ r, r ∈ t ↔ r ∈ x) : t[0]? = x[0]? := by
  have hl := (h.perm k hm).length_eq
  cases x with
  | nil => simp at hl; simp [hl]
  | cons y r =>
    cases t with
    | nil => simp at hl
    | cons a s =>
      simp only [List.getElem?_cons_zero]
      congr 1
      have hy : y ∈ a :: s := (hm y).2 (by simp)
      obtain ⟨i, hi⟩ := List.mem_iff_getElem?.1 hy
      have h1 := k.heap.first (a := a) rfl i y hi
      have ha : a ∈ y :: r := (hm a).1 (by simp)
      rcases List.mem_cons.1 ha with rfl | ha
      · rfl
      · exact absurd ((List.pairwise_cons.1 h.up).1 a ha) (fun e => h1 e)
end Go.Proofs.Ytfigohlgckandaa
