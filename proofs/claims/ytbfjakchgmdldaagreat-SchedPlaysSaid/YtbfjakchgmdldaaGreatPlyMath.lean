/-
  The document's flows as a list rising by their numbers, beside a scheduler's flows: what a set, a push, a pick and a drop do to both; the first of those of which something holds. Of the program: nothing. Conditions: what each names.
-/
import Derived.Test.YtbfjakchgmdldaaGreatPlyMem
namespace Go.Proofs.YtbfjakchgmdldaaGreat
set_option linter.unusedVariables false

def idsY (y : List RF) : List Int := y.map (·.id)
/-- the list tells what the scheduler has -/
structure Rel (ks : List Int) (F : Int → Fl) (y : List RF) : Prop where
  ids : ks = idsY y
  fl : ∀ r ∈ y, F r.id = r.f
theorem Rel.nil (F : Int → Fl) : Rel [] F [] := ⟨rfl, fun r h => by cases h⟩
theorem rising_ext : ∀ {a b : List Int}, RisingK a → RisingK b → (∀ j, j ∈ a ↔ j ∈ b) → a = b
  | [], [], _, _, _ => rfl
  | [], y :: b, _, _, h => absurd ((h y).2 List.mem_cons_self) (by simp)
  | x :: a, [], _, _, h => absurd ((h x).1 List.mem_cons_self) (by simp)
  | x :: a, y :: b, ha, hb, h => by
    obtain ⟨a1, a2⟩ := List.pairwise_cons.1 ha
    obtain ⟨b1, b2⟩ := List.pairwise_cons.1 hb
    have hxy : x = y := by
      rcases List.mem_cons.1 ((h x).1 List.mem_cons_self) with e | e
      · exact e
      · rcases List.mem_cons.1 ((h y).2 List.mem_cons_self) with e2 | e2
        · exact e2.symm
        · have := a1 _ e2
          have := b1 _ e
          omega
    subst hxy
    rw [rising_ext a2 b2 fun j => ?_]
    constructor
    · intro hj
      have := a1 j hj
      rcases List.mem_cons.1 ((h j).1 (List.mem_cons_of_mem _ hj)) with e | e
      · omega
      · exact e
    · intro hj
      have := b1 j hj
      rcases List.mem_cons.1 ((h j).2 (List.mem_cons_of_mem _ hj)) with e | e
      · omega
      · exact e
section
variable {ks : List Int} {F : Int → Fl} {y : List RF}
theorem Rel.mem (h : Rel ks F y) {k : Int} : k ∈ ks ↔ ∃ r ∈ y, r.id = k := by
  rw [h.ids]
  unfold idsY
  rw [List.mem_map]
theorem Rel.at_ (h : Rel ks F y) {i : Nat} {r : RF} (hi : y[i]? = some r) : r.id ∈ ks ∧ F r.id = r.f := ⟨h.mem.2 ⟨r, List.mem_of_getElem? hi, rfl⟩, h.fl r (List.mem_of_getElem? hi)⟩
theorem Rel.less (h : Rel ks F y) (hr : RisingK ks) {i j : Nat} {r s : RF} (hi : y[i]? = some r) (hj : y[j]? = some s) (hij : i < j) : r.id < s.id := by
  rw [h.ids] at hr
  unfold RisingK idsY at hr
  rw [List.pairwise_map] at hr
  obtain ⟨h1, e1⟩ := List.getElem?_eq_some_iff.1 hi
  obtain ⟨h2, e2⟩ := List.getElem?_eq_some_iff.1 hj
  have := List.pairwise_iff_getElem.1 hr i j h1 h2 hij
  rwa [e1, e2] at this
theorem Rel.one (h : Rel ks F y) (hr : RisingK ks) {i j : Nat} {r s : RF} (hi : y[i]? = some r) (hj : y[j]? = some s) (e : r.id = s.id) : i = j := by
  rcases Nat.lt_trichotomy i j with hlt | e2 | hlt
  · have := h.less hr hi hj hlt; omega
  · exact e2
  · have := h.less hr hj hi hlt; omega
theorem Rel.len (h : Rel ks F y) : ks.length = y.length := by rw [h.ids]; unfold idsY; rw [List.length_map]
/-- a flow has turned -/
theorem Rel.set (h : Rel ks F y) (hr : RisingK ks) {i : Nat} {r r' : RF} (hi : y[i]? = some r) (hid : r'.id = r.id) : Rel ks (updF F r.id r'.f) (y.set i r') := by
  obtain ⟨hlt, e⟩ := List.getElem?_eq_some_iff.1 hi
  refine ⟨?_, fun s hs => ?_⟩
  · rw [h.ids]
    unfold idsY
    rw [List.map_set, hid, ← e]
    conv => rhs; rw [← List.getElem_map (f := fun x : RF => x.id) (h := by rw [List.length_map]; exact hlt)]
    exact (List.set_getElem_self _).symm
  · obtain ⟨j, hj⟩ := List.mem_iff_getElem?.1 hs
    rw [List.getElem?_set] at hj
    by_cases hij : i = j
    · rw [if_pos hij, if_pos hlt] at hj
      injection hj with hj
      subst hj
      rw [hid, updF_same]
    · rw [if_neg hij] at hj
      rw [updF_other fun e2 => hij (h.one hr hi hj e2.symm)]
      exact h.fl s (List.mem_of_getElem? hj)
/-- a flow comes -/
theorem Rel.ins (h : Rel ks F y) (hr : RisingK ks) {k : Int} (hk : ¬ k ∈ ks) {c : Nat} (hlo : ∀ (j : Nat) s, j < c → y[j]? = some s → s.id < k) (hhi : ∀ s, y[c]? = some s → ¬ s.id < k) (r : RF) (hid : r.id = k) :
    Rel (putK ks k) (updF F k r.f) (y.take c ++ [r] ++ y.drop c) := by
  have hin : ∀ {s}, s ∈ y.take c ++ [r] ++ y.drop c ↔ s = r ∨ s ∈ y := by
    intro s
    rw [List.mem_append, List.mem_append, List.mem_singleton]
    constructor
    · rintro ((h | h) | h)
      · exact .inr (List.mem_of_mem_take h)
      · exact .inl h
      · exact .inr (List.mem_of_mem_drop h)
    · rintro (h | h)
      · exact .inl (.inr h)
      · rw [← List.take_append_drop c y] at h
        rcases List.mem_append.1 h with h | h
        · exact .inl (.inl h)
        · exact .inr h
  have hlo' : ∀ s ∈ y.take c, s.id < k := fun s hs => by
    obtain ⟨j, hj⟩ := List.mem_iff_getElem?.1 hs
    rw [List.getElem?_take] at hj
    split at hj
    · exact hlo j s (by assumption) hj
    · cases hj
  have hne : ∀ s ∈ y, s.id ≠ k := fun s hs e => hk (h.mem.2 ⟨s, hs, e⟩)
  have hhi' : ∀ s ∈ y.drop c, k < s.id := fun s hs => by
    obtain ⟨j, hj⟩ := List.mem_iff_getElem?.1 hs
    rw [List.getElem?_drop] at hj
    have h1 := hne s (List.mem_of_getElem? hj)
    obtain ⟨hlt, _⟩ := List.getElem?_eq_some_iff.1 hj
    have hc : y[c]? = some y[c] := List.getElem?_eq_getElem (by omega)
    have h2 := hhi _ hc
    have h3 := hne _ (List.mem_of_getElem? hc)
    by_cases hj0 : j = 0
    · subst hj0
      have hj' : y[c]? = some s := hj
      rw [hc] at hj'
      injection hj' with hj'
      rw [← hj']
      omega
    · have := h.less hr hc hj (by omega)
      omega
  have hry : (idsY y).Pairwise (· < ·) := by have := hr; rw [h.ids] at this; exact this
  refine ⟨rising_ext (hr.put k) ?_ fun j => ?_, fun s hs => ?_⟩
  · unfold RisingK idsY
    rw [List.map_append, List.map_append, List.append_assoc, List.pairwise_append]
    have e1 : (idsY y) = (y.take c).map (·.id) ++ (y.drop c).map (·.id) := by unfold idsY; rw [← List.map_append, List.take_append_drop]
    rw [e1, List.pairwise_append] at hry
    obtain ⟨p1, p2, p3⟩ := hry
    refine ⟨p1, ?_, fun a ha b hb => ?_⟩
    · show ([r].map (·.id) ++ (y.drop c).map (·.id)).Pairwise (· < ·)
      refine List.pairwise_append.2 ⟨List.pairwise_singleton _ _, p2, fun a ha b hb => ?_⟩
      simp only [List.map_cons, List.map_nil, List.mem_singleton] at ha
      obtain ⟨s, hs, rfl⟩ := List.mem_map.1 hb
      rw [ha, hid]
      exact hhi' s hs
    · obtain ⟨s, hs, rfl⟩ := List.mem_map.1 ha
      rcases List.mem_append.1 hb with hb | hb
      · simp only [List.map_cons, List.map_nil, List.mem_singleton] at hb
        rw [hb, hid]
        exact hlo' s hs
      · exact p3 _ (List.mem_map.2 ⟨s, hs, rfl⟩) _ hb
  · rw [mem_putK, h.mem]
    unfold idsY
    rw [List.mem_map]
    constructor
    · rintro (rfl | ⟨s, hs, e⟩)
      · exact ⟨r, hin.2 (.inl rfl), hid⟩
      · exact ⟨s, hin.2 (.inr hs), e⟩
    · rintro ⟨s, hs, e⟩
      rcases hin.1 hs with rfl | hs
      · exact .inl (by rw [← e, hid])
      · exact .inr ⟨s, hs, e⟩
  · rcases hin.1 hs with rfl | hs
    · rw [hid, updF_same]
    · rw [updF_other (hne s hs)]
      exact h.fl s hs
/-- a flow goes -/
theorem Rel.out (h : Rel ks F y) (hr : RisingK ks) {i : Nat} {r : RF} (hi : y[i]? = some r) : Rel (outK ks r.id) F (y.take i ++ y.drop (i + 1)) := by
  obtain ⟨hlt, e⟩ := List.getElem?_eq_some_iff.1 hi
  have hin : ∀ {s}, s ∈ y.take i ++ y.drop (i + 1) ↔ s ∈ y ∧ s.id ≠ r.id := by
    intro s
    rw [List.mem_append]
    constructor
    · rintro (hs | hs)
      · obtain ⟨j, hj⟩ := List.mem_iff_getElem?.1 hs
        rw [List.getElem?_take] at hj
        split at hj
        · exact ⟨List.mem_of_getElem? hj, by have := h.less hr hj hi (by assumption); omega⟩
        · cases hj
      · obtain ⟨j, hj⟩ := List.mem_iff_getElem?.1 hs
        rw [List.getElem?_drop] at hj
        exact ⟨List.mem_of_getElem? hj, by have := h.less hr hi hj (by omega); omega⟩
    · rintro ⟨hs, hne⟩
      obtain ⟨j, hj⟩ := List.mem_iff_getElem?.1 hs
      rcases Nat.lt_trichotomy j i with hji | hji | hji
      · exact .inl (List.mem_iff_getElem?.2 ⟨j, by rw [List.getElem?_take, if_pos hji]; exact hj⟩)
      · subst hji
        rw [hi] at hj
        injection hj with hj
        exact absurd (by rw [hj]) hne
      · exact .inr (List.mem_iff_getElem?.2 ⟨j - (i + 1), by rw [List.getElem?_drop, show i + 1 + (j - (i + 1)) = j by omega]; exact hj⟩)
  refine ⟨rising_ext (hr.out r.id) ?_ fun j => ?_, fun s hs => h.fl s (hin.1 hs).1⟩
  · have hry : (idsY y).Pairwise (· < ·) := by have := hr; rw [h.ids] at this; exact this
    unfold RisingK idsY
    have hsub : (y.take i ++ y.drop (i + 1)).Sublist y := by
      conv => rhs; rw [← List.take_append_drop i y]
      refine List.Sublist.append (List.Sublist.refl _) ?_
      rw [← List.drop_drop]
      exact List.drop_sublist 1 _
    exact List.Pairwise.sublist (hsub.map _) hry
  · rw [mem_outK, h.mem]
    unfold idsY
    rw [List.mem_map]
    constructor
    · rintro ⟨⟨s, hs, rfl⟩, hne⟩
      exact ⟨s, hin.2 ⟨hs, hne⟩, rfl⟩
    · rintro ⟨s, hs, rfl⟩
      exact ⟨⟨s, (hin.1 hs).1, rfl⟩, (hin.1 hs).2⟩
theorem Rel.gone (h : Rel ks F y) {k : Int} (hk : ¬ k ∈ ks) : outK ks k = ks := by
  unfold outK
  rw [List.filter_eq_self]
  intro j hj
  have : j ≠ k := fun e => hk (e ▸ hj)
  simpa using this
end

/-! ### the least P of those that are up -/
def LeastY (y : List RF) (l : Int) : Prop := ((∀ r ∈ y, r.f.q = []) ∧ l = 0) ∨ ∃ r ∈ y, r.f.q ≠ [] ∧ l = r.f.c.p ∧ ∀ s ∈ y, s.f.q ≠ [] → l ≤ s.f.c.p
theorem LeastIs.one {ks : List Int} {F : Int → Fl} {a b : Int} (h : LeastIs ks F a) (h2 : LeastIs ks F b) : a = b := by
  rcases h with ⟨n1, rfl⟩ | ⟨j, hj, hu, rfl, hl⟩
  · rcases h2 with ⟨_, rfl⟩ | ⟨j, hj, hu, _⟩
    · rfl
    · rw [n1 j hj] at hu; cases hu
  · rcases h2 with ⟨n2, _⟩ | ⟨k, hk, hv, rfl, hm⟩
    · rw [n2 j hj] at hu; cases hu
    · have := hl k hk hv
      have := hm j hj hu
      omega
theorem Rel.least {ks : List Int} {F : Int → Fl} {y : List RF} {l : Int} (h : Rel ks F y) (hl : LeastY y l) : LeastIs ks F l := by
  rcases hl with ⟨hn, rfl⟩ | ⟨r, hr, hq, rfl, hm⟩
  · refine .inl ⟨fun j hj => ?_, rfl⟩
    obtain ⟨r, hr, rfl⟩ := h.mem.1 hj
    rw [h.fl r hr]
    unfold upF
    rw [hn r hr]
    rfl
  · refine .inr ⟨r.id, h.mem.2 ⟨r, hr, rfl⟩, (upF_iff _).2 (by rw [h.fl r hr]; exact hq), by rw [h.fl r hr], fun j hj hu => ?_⟩
    obtain ⟨s, hs, rfl⟩ := h.mem.1 hj
    rw [h.fl s hs] at hu ⊢
    exact hm s hs ((upF_iff _).1 hu)

/-! ### the first of those of which p holds -/
def FirstY (p : RF → Prop) (key : RF → Int) (y : List RF) (i : Nat) : Prop := ∃ r, y[i]? = some r ∧ p r ∧ ∀ (j : Nat) s, y[j]? = some s → p s → j ≠ i → key r < key s ∨ (key r = key s ∧ i < j)
/-- what a loop over the first k has found -/
def FoundY (p : RF → Prop) (key : RF → Int) (y : List RF) (k : Nat) (v : Int) : Prop := (v = -1 ∧ ∀ (j : Nat) s, j < k → y[j]? = some s → ¬ p s) ∨ ∃ i : Nat, v = i ∧ i < k ∧ ∃ r, y[i]? = some r ∧ p r ∧ ∀ (j : Nat) s, j < k → y[j]? = some s → p s → j ≠ i → key r < key s ∨ (key r = key s ∧ i < j)
theorem FoundY.start (p : RF → Prop) (key : RF → Int) (y : List RF) : FoundY p key y 0 (-1) := .inl ⟨rfl, fun j s h => by omega⟩
theorem FoundY.skip {p : RF → Prop} {key : RF → Int} {y : List RF} {k : Nat} {v : Int} {r : RF} (h : FoundY p key y k v) (hr : y[k]? = some r) (hp : ¬ p r) : FoundY p key y (k + 1) v := by
  have hk : ∀ (j : Nat) s, j < k + 1 → y[j]? = some s → p s → j < k := fun j s hj hs hps => by
    by_cases e : j = k
    · subst e
      rw [hr] at hs
      injection hs with hs
      exact absurd (hs ▸ hps) hp
    · omega
  rcases h with ⟨rfl, hn⟩ | ⟨i, rfl, hi, s, hs, hps, hm⟩
  · exact .inl ⟨rfl, fun j s hj hs hps => hn j s (hk j s hj hs hps) hs hps⟩
  · exact .inr ⟨i, rfl, by omega, s, hs, hps, fun j s' hj hs' hps' hne => hm j s' (hk j s' hj hs' hps') hs' hps' hne⟩
theorem FoundY.first {p : RF → Prop} {key : RF → Int} {y : List RF} {k : Nat} {r : RF} (h : FoundY p key y k (-1)) (hr : y[k]? = some r) (hp : p r) : FoundY p key y (k + 1) k := by
  rcases h with ⟨_, hn⟩ | ⟨i, hv, _⟩
  · refine .inr ⟨k, rfl, by omega, r, hr, hp, fun j s hj hs hps hne => absurd hps (hn j s (by omega) hs)⟩
  · omega
theorem FoundY.than {p : RF → Prop} {key : RF → Int} {y : List RF} {k i : Nat} {r s : RF} (h : FoundY p key y k i) (hr : y[k]? = some r) (hp : p r) (hs : y[i]? = some s) : (key r < key s → FoundY p key y (k + 1) k) ∧ (¬ key r < key s → FoundY p key y (k + 1) i) := by
  rcases h with ⟨hv, _⟩ | ⟨i', hv, hi, s', hs', hps, hm⟩
  · omega
  · have e : i' = i := by omega
    subst e
    rw [hs] at hs'
    injection hs' with hs'
    subst hs'
    refine ⟨fun hlt => .inr ⟨k, rfl, by omega, r, hr, hp, fun j u hj hu hpu hne => ?_⟩, fun hge => .inr ⟨i', rfl, by omega, s, hs, hps, fun j u hj hu hpu hne => ?_⟩⟩
    · by_cases e : j = i'
      · subst e
        rw [hs] at hu
        injection hu with hu
        subst hu
        exact .inl hlt
      · rcases hm j u (by omega) hu hpu e with h | ⟨h, _⟩
        · exact .inl (by omega)
        · exact .inl (by omega)
    · by_cases e : j = k
      · subst e
        rw [hr] at hu
        injection hu with hu
        subst hu
        by_cases h2 : key s < key r
        · exact .inl h2
        · exact .inr ⟨by omega, hi⟩
      · exact hm j u (by omega) hu hpu hne
theorem FoundY.none {p : RF → Prop} {key : RF → Int} {y : List RF} {v : Int} (h : FoundY p key y y.length v) (hv : v < 0) : ∀ r ∈ y, ¬ p r := by
  rcases h with ⟨_, hn⟩ | ⟨i, rfl, _⟩
  · intro r hr
    obtain ⟨j, hj⟩ := List.mem_iff_getElem?.1 hr
    exact hn j r (List.getElem?_eq_some_iff.1 hj).1 hj
  · omega
theorem FoundY.some_ {p : RF → Prop} {key : RF → Int} {y : List RF} {v : Int} (h : FoundY p key y y.length v) (hv : ¬ v < 0) : ∃ i : Nat, v = i ∧ FirstY p key y i := by
  rcases h with ⟨rfl, _⟩ | ⟨i, rfl, _, r, hr, hp, hm⟩
  · omega
  · exact ⟨i, rfl, r, hr, hp, fun j s hs hps hne => hm j s (List.getElem?_eq_some_iff.1 hs).1 hs hps hne⟩
def dueY (now : Int) (r : RF) : Prop := r.f.q ≠ [] ∧ byReserveF r.f.p r.f.c now = true
def freeY (now : Int) (r : RF) : Prop := r.f.q ≠ [] ∧ byLimitF r.f.p r.f.c now = true
theorem Rel.due {ks : List Int} {F : Int → Fl} {y : List RF} (h : Rel ks F y) {r : RF} (hr : r ∈ y) (now : Int) : Due ks F now r.id ↔ dueY now r := by
  unfold Due dueY
  rw [h.fl r hr, upF_iff]
  exact ⟨fun e => e.2, fun e => ⟨h.mem.2 ⟨r, hr, rfl⟩, e⟩⟩
theorem Rel.free {ks : List Int} {F : Int → Fl} {y : List RF} (h : Rel ks F y) {r : RF} (hr : r ∈ y) (now : Int) : Free ks F now r.id ↔ freeY now r := by
  unfold Free freeY
  rw [h.fl r hr, upF_iff]
  exact ⟨fun e => e.2, fun e => ⟨h.mem.2 ⟨r, hr, rfl⟩, e⟩⟩
theorem Rel.firstOf {ks : List Int} {F : Int → Fl} {y : List RF} (h : Rel ks F y) (hr : RisingK ks) {P : Int → Prop} {p : RF → Prop} {key : Int → Int} {keyY : RF → Int} (hP : ∀ r ∈ y, P r.id ↔ p r) (hin : ∀ k, P k → k ∈ ks) (hk : ∀ r ∈ y, key r.id = keyY r) {i : Nat} {r : RF} (hi : y[i]? = some r) (hf : FirstY p keyY y i) : FirstOf P key r.id := by
  obtain ⟨r', hr', hp, hm⟩ := hf
  rw [hi] at hr'
  injection hr' with hr'
  subst hr'
  have hry := List.mem_of_getElem? hi
  refine ⟨(hP r hry).2 hp, fun j hj hne => ?_⟩
  obtain ⟨s, hs, rfl⟩ := h.mem.1 (hin j hj)
  obtain ⟨n, hn⟩ := List.mem_iff_getElem?.1 hs
  have hni : n ≠ i := fun e => by
    subst e
    rw [hi] at hn
    injection hn with hn
    exact hne (by rw [hn])
  unfold ahead
  simp only
  rw [hk r hry, hk s hs]
  rcases hm n s hn ((hP s hs).1 hj) hni with h1 | ⟨h1, h2⟩
  · exact .inl h1
  · exact .inr ⟨h1, h.less hr hi hn h2⟩
/-- which is next, by the list -/
def NextY (y : List RF) (now : Int) (i : Nat) (ph : Int) : Prop := (ph = 1 ∧ FirstY (dueY now) (fun r => r.f.c.r) y i) ∨ (ph = 2 ∧ (∀ r ∈ y, ¬ dueY now r) ∧ FirstY (freeY now) (fun r => r.f.c.p) y i)
theorem Rel.next {ks : List Int} {F : Int → Fl} {y : List RF} (h : Rel ks F y) (hr : RisingK ks) {now : Int} {i : Nat} {ph : Int} {r : RF} (hi : y[i]? = some r) (hn : NextY y now i ph) : Next ks F now r.id ph true := by
  rcases hn with ⟨rfl, hf⟩ | ⟨rfl, hd, hf⟩
  · exact .inl ⟨rfl, rfl, h.firstOf hr (fun r hr => h.due hr now) (fun k hk => hk.1) (fun r hr => by unfold kR; rw [h.fl r hr]) hi hf⟩
  · refine .inr (.inl ⟨rfl, rfl, fun j hj => ?_, h.firstOf hr (fun r hr => h.free hr now) (fun k hk => hk.1) (fun r hr => by unfold kW; rw [h.fl r hr]) hi hf⟩)
    obtain ⟨s, hs, rfl⟩ := h.mem.1 hj.1
    exact hd s hs ((h.due hs now).1 hj)
/-- two answers of what is next are one -/
theorem Next.one {ks : List Int} {F : Int → Fl} {now j k p q : Int} (h : Next ks F now j p true) (h2 : Next ks F now k q true) : j = k ∧ p = q := by
  rcases h with ⟨_, rfl, hf⟩ | ⟨_, rfl, hd, hf⟩ | ⟨h, _⟩
  · rcases h2 with ⟨_, rfl, hg⟩ | ⟨_, rfl, he, _⟩ | ⟨h, _⟩
    · exact ⟨hf.one hg, rfl⟩
    · exact absurd hf.1 (he j)
    · cases h
  · rcases h2 with ⟨_, rfl, hg⟩ | ⟨_, rfl, he, hg⟩ | ⟨h, _⟩
    · exact absurd hg.1 (hd k)
    · exact ⟨hf.one hg, rfl⟩
    · cases h
  · cases h
theorem Next.not_both {ks : List Int} {F : Int → Fl} {now j k p q : Int} (h : Next ks F now j p true) (h2 : Next ks F now k q false) : False := by
  rcases h2 with ⟨h, _⟩ | ⟨h, _⟩ | ⟨_, _, _, hn⟩
  · cases h
  · cases h
  · rcases h with ⟨_, _, hf⟩ | ⟨_, _, _, hf⟩ | ⟨h, _⟩
    · exact hn j (due_free hf.1)
    · exact hn j hf.1
    · cases h
end Go.Proofs.YtbfjakchgmdldaaGreat
