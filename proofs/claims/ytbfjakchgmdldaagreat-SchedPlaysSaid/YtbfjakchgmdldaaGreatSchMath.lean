/-
  A scheduler by definition: items, flows (Fl), which entries its two heaps have (Listed), and which flow is next (Next). Of the program: nothing but what policies and clocks are. No condition but what each lemma names.
-/
import Derived.Test.YtbfjakchgmdldaaGreatHeapMath
import Derived.Test.YtbfjakchgmdldaaGreatClkMem
namespace Go.Proofs.YtbfjakchgmdldaaGreat
set_option linter.unusedVariables false

structure Itm where
  na : Int
  de : Int
  rh : Int
  deriving DecidableEq
def InT (i : Itm) : Prop := In64 i.na ∧ In64 i.de ∧ In64 i.rh
structure Fl where
  ver : Int
  p : Pol
  c : Clk
  q : List Itm
def upF (f : Fl) : Bool := !f.q.isEmpty
def inR (f : Fl) : Bool := upF f && decide (0 < f.p.re)
theorem upF_iff (f : Fl) : upF f = true ↔ f.q ≠ [] := by unfold upF; cases f.q <;> simp
theorem inR_iff (f : Fl) : inR f = true ↔ f.q ≠ [] ∧ 0 < f.p.re := by unfold inR; rw [Bool.and_eq_true, upF_iff, decide_eq_true_eq]
structure FlOk (f : Fl) : Prop where
  ver : In64 f.ver
  pol : InP f.p
  clk : InC f.c
  items : ∀ i ∈ f.q, InT i
  len : f.q.length ≤ 1024
  right : rightP f.p = true
def updF (F : Int → Fl) (k : Int) (f : Fl) : Int → Fl := fun j => if j = k then f else F j
theorem updF_same (F : Int → Fl) (k : Int) (f : Fl) : updF F k f k = f := if_pos rfl
theorem updF_other {F : Int → Fl} {k j : Int} {f : Fl} (h : j ≠ k) : updF F k f j = F j := if_neg h
def updB (b : Int → Nat) (k : Int) (g : Nat) : Int → Nat := fun j => if j = k then g else b j
theorem updB_same (b : Int → Nat) (k : Int) (g : Nat) : updB b k g k = g := if_pos rfl
theorem updB_other {b : Int → Nat} {k j : Int} {g : Nat} (h : j ≠ k) : updB b k g j = b j := if_neg h

/-! ### what a heap lists -/
/-- the entries of x are just those of the names of which P holds, each with its key -/
def Listed (P : Int → Bool) (key : Int → Int) (x : List Ent) : Prop := ∀ e, e ∈ x ↔ P e.1 = true ∧ e.2 = key e.1
def holdE (x : List Ent) (k v : Int) (b : Bool) : List Ent := if b = true then putE x (k, v) else outE x k
theorem Listed.hold {P P' : Int → Bool} {key key' : Int → Int} {x : List Ent} (h : Listed P key x) (k : Int) (hP : ∀ j, j ≠ k → P' j = P j) (hk : ∀ j, j ≠ k → key' j = key j) :
    Listed P' key' (holdE x k (key' k) (P' k)) := by
  intro e
  unfold holdE
  by_cases hb : P' k = true
  · rw [if_pos hb, mem_putE]
    constructor
    · rintro (rfl | ⟨he, hne⟩)
      · exact ⟨hb, rfl⟩
      · obtain ⟨h1, h2⟩ := (h e).1 he
        exact ⟨by rw [hP _ hne]; exact h1, by rw [hk _ hne]; exact h2⟩
    · rintro ⟨h1, h2⟩
      by_cases hek : e.1 = k
      · subst hek
        exact .inl (Prod.ext rfl h2)
      · exact .inr ⟨(h e).2 ⟨by rw [← hP _ hek]; exact h1, by rw [← hk _ hek]; exact h2⟩, hek⟩
  · rw [if_neg hb, mem_outE]
    constructor
    · rintro ⟨he, hne⟩
      obtain ⟨h1, h2⟩ := (h e).1 he
      exact ⟨by rw [hP _ hne]; exact h1, by rw [hk _ hne]; exact h2⟩
    · rintro ⟨h1, h2⟩
      have hek : e.1 ≠ k := fun e2 => hb (by rw [← e2]; exact h1)
      exact ⟨(h e).2 ⟨by rw [← hP _ hek]; exact h1, by rw [← hk _ hek]; exact h2⟩, hek⟩
theorem Listed.out {P P' : Int → Bool} {key : Int → Int} {x : List Ent} (h : Listed P key x) (k : Int) (hP : ∀ j, j ≠ k → P' j = P j) (hk : P' k = false) : Listed P' key (outE x k) := by
  have := h.hold (P' := P') (key' := key) k hP (fun _ _ => rfl)
  unfold holdE at this
  rwa [if_neg (by simp [hk])] at this
theorem holdE_length (x : List Ent) (k v : Int) (b : Bool) : (holdE x k v b).length ≤ x.length + 1 := by
  unfold holdE
  split
  · exact putE_length _ _
  · have := outE_length x k; omega
theorem holdE_good {x : List Ent} (h : GoodE x) (k v : Int) (b : Bool) : GoodE (holdE x k v b) := by
  unfold holdE
  split
  · exact h.put _
  · exact h.out _
theorem nodup_le : ∀ {a b : List Int}, a.Nodup → (∀ k ∈ a, k ∈ b) → a.length ≤ b.length
  | [], b, _, _ => by simp
  | k :: r, b, hn, hs => by
    rw [List.nodup_cons] at hn
    have hk := hs k (List.mem_cons_self)
    have h := nodup_le (a := r) (b := b.erase k) hn.2 fun j hj => (List.mem_erase_of_ne (fun e : j = k => hn.1 (by rw [← e]; exact hj))).2 (hs j (List.mem_cons_of_mem _ hj))
    have h2 := List.length_erase_of_mem hk
    have h3 := List.length_pos_of_mem hk
    rw [List.length_cons]
    omega
theorem listed_length {P : Int → Bool} {key : Int → Int} {x : List Ent} {ks : List Int} (h : Listed P key x) (hg : GoodE x) (hks : ∀ k, P k = true → k ∈ ks) : x.length ≤ ks.length := by
  have hn : (x.map (·.1)).Nodup := by
    unfold List.Nodup
    rw [List.pairwise_map]
    exact hg.names
  have hs : ∀ k ∈ x.map (·.1), k ∈ ks := fun k hk => by
    obtain ⟨e, he, rfl⟩ := List.mem_map.1 hk
    exact hks _ ((h e).1 he).1
  have := nodup_le hn hs
  simpa using this

/-! ### the lists of a scheduler -/
def pR (ks : List Int) (F : Int → Fl) : Int → Bool := fun k => decide (k ∈ ks) && inR (F k)
def pW (ks : List Int) (F : Int → Fl) : Int → Bool := fun k => decide (k ∈ ks) && upF (F k)
def kR (F : Int → Fl) : Int → Int := fun k => (F k).c.r
def kW (F : Int → Fl) : Int → Int := fun k => (F k).c.p
structure Lists (ks : List Int) (F : Int → Fl) (xr xw : List Ent) : Prop where
  r : Listed (pR ks F) (kR F) xr
  w : Listed (pW ks F) (kW F) xw
theorem pW_iff {ks : List Int} {F : Int → Fl} {k : Int} : pW ks F k = true ↔ k ∈ ks ∧ upF (F k) = true := by unfold pW; rw [Bool.and_eq_true, decide_eq_true_eq]
theorem pR_iff {ks : List Int} {F : Int → Fl} {k : Int} : pR ks F k = true ↔ k ∈ ks ∧ inR (F k) = true := by unfold pR; rw [Bool.and_eq_true, decide_eq_true_eq]
theorem Lists.nil (F : Int → Fl) : Lists [] F [] [] := ⟨fun e => by simp [pR], fun e => by simp [pW]⟩
/-- a flow has turned, and stands where it belongs -/
theorem Lists.stand {ks ks' : List Int} {F : Int → Fl} {xr xw : List Ent} (h : Lists ks F xr xw) (k : Int) (f : Fl) (hk : k ∈ ks') (hks : ∀ j, j ≠ k → (j ∈ ks' ↔ j ∈ ks)) :
    Lists ks' (updF F k f) (holdE xr k f.c.r (inR f)) (holdE xw k f.c.p (upF f)) := by
  constructor
  · have := h.r.hold (P' := pR ks' (updF F k f)) (key' := kR (updF F k f)) k (fun j hj => by unfold pR; rw [updF_other hj, decide_eq_decide.2 (hks j hj)]) (fun j hj => by unfold kR; rw [updF_other hj])
    rwa [show kR (updF F k f) k = f.c.r by unfold kR; rw [updF_same], show pR ks' (updF F k f) k = inR f by unfold pR; rw [updF_same, decide_eq_true hk, Bool.true_and]] at this
  · have := h.w.hold (P' := pW ks' (updF F k f)) (key' := kW (updF F k f)) k (fun j hj => by unfold pW; rw [updF_other hj, decide_eq_decide.2 (hks j hj)]) (fun j hj => by unfold kW; rw [updF_other hj])
    rwa [show kW (updF F k f) k = f.c.p by unfold kW; rw [updF_same], show pW ks' (updF F k f) k = upF f by unfold pW; rw [updF_same, decide_eq_true hk, Bool.true_and]] at this
theorem Lists.drop {ks : List Int} {F : Int → Fl} {xr xw : List Ent} (h : Lists ks F xr xw) (k : Int) : Lists (outK ks k) F (outE xr k) (outE xw k) := by
  have hm : ∀ j, j ≠ k → (j ∈ outK ks k ↔ j ∈ ks) := fun j hj => by rw [mem_outK]; exact ⟨fun e => e.1, fun e => ⟨e, hj⟩⟩
  have hk : ¬ k ∈ outK ks k := fun e => (mem_outK.1 e).2 rfl
  exact ⟨h.r.out k (fun j hj => by unfold pR; rw [decide_eq_decide.2 (hm j hj)]) (by unfold pR; rw [decide_eq_false hk]; rfl), h.w.out k (fun j hj => by unfold pW; rw [decide_eq_decide.2 (hm j hj)]) (by unfold pW; rw [decide_eq_false hk]; rfl)⟩

/-! ### which flow is next -/
def Due (ks : List Int) (F : Int → Fl) (now k : Int) : Prop := k ∈ ks ∧ upF (F k) = true ∧ byReserveF (F k).p (F k).c now = true
def Free (ks : List Int) (F : Int → Fl) (now k : Int) : Prop := k ∈ ks ∧ upF (F k) = true ∧ byLimitF (F k).p (F k).c now = true
/-- the first of those of which P holds -/
def FirstOf (P : Int → Prop) (key : Int → Int) (k : Int) : Prop := P k ∧ ∀ j, P j → j ≠ k → ahead (k, key k) (j, key j)
theorem FirstOf.one {P : Int → Prop} {key : Int → Int} {j k : Int} (h : FirstOf P key j) (h2 : FirstOf P key k) : j = k := by
  by_cases e : j = k
  · exact e
  · exact absurd (h.2 k h2.1 (fun e2 => e e2.symm)) (ahead_asymm (h2.2 j h.1 e))
/-- flow k is next, by phase ph; ok is false: none is -/
def Next (ks : List Int) (F : Int → Fl) (now k ph : Int) (ok : Bool) : Prop :=
  (ok = true ∧ ph = 1 ∧ FirstOf (Due ks F now) (kR F) k) ∨ (ok = true ∧ ph = 2 ∧ (∀ j, ¬ Due ks F now j) ∧ FirstOf (Free ks F now) (kW F) k) ∨ (ok = false ∧ ph = 0 ∧ k = 0 ∧ ∀ j, ¬ Free ks F now j)
theorem due_free {ks : List Int} {F : Int → Fl} {now k : Int} (h : Due ks F now k) : Free ks F now k := by
  obtain ⟨h1, h2, h3⟩ := h
  unfold byReserveF at h3
  rw [Bool.and_eq_true] at h3
  exact ⟨h1, h2, h3.1⟩
theorem due_listed {ks : List Int} {F : Int → Fl} {now k : Int} {xr xw : List Ent} (hl : Lists ks F xr xw) (h : Due ks F now k) : (k, kR F k) ∈ xr := by
  obtain ⟨h1, h2, h3⟩ := h
  refine (hl.r _).2 ⟨pR_iff.2 ⟨h1, ?_⟩, rfl⟩
  unfold byReserveF byLimitF at h3
  simp only [Bool.and_eq_true, decide_eq_true_eq] at h3
  have := ((rightP_iff _).1 h3.1.1).1.1
  unfold inR
  rw [Bool.and_eq_true, decide_eq_true_eq]
  refine ⟨h2, ?_⟩
  show 0 < (F k).p.re
  omega
theorem free_listed {ks : List Int} {F : Int → Fl} {now k : Int} {xr xw : List Ent} (hl : Lists ks F xr xw) (h : Free ks F now k) : (k, kW F k) ∈ xw := (hl.w _).2 ⟨pW_iff.2 ⟨h.1, h.2.1⟩, rfl⟩
theorem listed_at {P : Int → Bool} {key : Int → Int} {x : List Ent} (h : Listed P key x) {i : Nat} {e : Ent} (hi : x[i]? = some e) : P e.1 = true ∧ e.2 = key e.1 := (h e).1 (List.mem_iff_getElem?.2 ⟨i, hi⟩)
/-- the i-th entry is the first of which Q holds -/
theorem first_at {P : Int → Bool} {Q : Int → Prop} {key : Int → Int} {x : List Ent} (h : Listed P key x) (hg : GoodE x) (hq : ∀ k, Q k → (k, key k) ∈ x) {i : Nat} {e : Ent} (hi : x[i]? = some e) (he : Q e.1) (hn : ∀ (j : Nat) r, j < i → x[j]? = some r → ¬ Q r.1) : FirstOf Q key e.1 := by
  refine ⟨he, fun k hk hne => ?_⟩
  obtain ⟨j, hj⟩ := List.mem_iff_getElem?.1 (hq k hk)
  have hij : i < j := by
    rcases Nat.lt_trichotomy j i with hlt | rfl | hlt
    · exact absurd hk (hn j _ hlt hj)
    · rw [hi] at hj
      injection hj with hj
      exact absurd (by rw [hj]) hne
    · exact hlt
  have := List.pairwise_iff_getElem.1 hg.up i j (List.getElem?_eq_some_iff.1 hi).1 (List.getElem?_eq_some_iff.1 hj).1 hij
  rw [(List.getElem?_eq_some_iff.1 hi).2, (List.getElem?_eq_some_iff.1 hj).2] at this
  rw [show (e.1, key e.1) = e from Prod.ext rfl ((listed_at h hi).2).symm]
  exact this
/-- who stands behind one that isn't due isn't due -/
theorem not_due_behind {ks : List Int} {F : Int → Fl} {now : Int} {xr xw : List Ent} (hl : Lists ks F xr xw) (hg : GoodE xr) {i : Nat} {e : Ent} (hi : xr[i]? = some e) (hlate : now < (F e.1).c.r) (hn : ∀ (j : Nat) r, j < i → xr[j]? = some r → ¬ Due ks F now r.1) (k : Int) : ¬ Due ks F now k := by
  intro hk
  have hk3 := hk.2.2
  unfold byReserveF at hk3
  simp only [Bool.and_eq_true, decide_eq_true_eq] at hk3
  obtain ⟨j, hj⟩ := List.mem_iff_getElem?.1 (due_listed hl hk)
  have he := (listed_at hl.r hi).2
  rcases Nat.lt_trichotomy j i with hlt | rfl | hlt
  · exact hn j _ hlt hj hk
  · rw [hi] at hj
    injection hj with hj
    subst hj
    simp only at hlate
    omega
  · have := List.pairwise_iff_getElem.1 hg.up i j (List.getElem?_eq_some_iff.1 hi).1 (List.getElem?_eq_some_iff.1 hj).1 hlt
    rw [(List.getElem?_eq_some_iff.1 hi).2, (List.getElem?_eq_some_iff.1 hj).2] at this
    unfold ahead kR at *
    simp only at this
    omega
theorem none_of {Q : Int → Prop} {key : Int → Int} {x : List Ent} (hq : ∀ k, Q k → (k, key k) ∈ x) (hn : ∀ (j : Nat) r, x[j]? = some r → ¬ Q r.1) (k : Int) : ¬ Q k := fun hk => by
  obtain ⟨j, hj⟩ := List.mem_iff_getElem?.1 (hq k hk)
  exact hn j _ hj hk
end Go.Proofs.YtbfjakchgmdldaaGreat
