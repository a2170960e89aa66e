/-
  SchedLimit's own memory (an array of six slices of ints, to which is appended), and what is known of the flows. Conditions: what each names.
-/
import Derived.Test.YtbfjakchgmdldaaSchM
import Derived.Test.YtbfjakchgmdldaaSchNum
namespace Go.Proofs.Ytbfjakchgmdldaa
open Go.ChangeShapes Go.WideShapes Go.ChangeAt Go.RowKit
set_option linter.unusedVariables false

/-! ### an array of six slices -/
def whenRow (v : Nat → Value) : Array Value := #[v 0, v 1, v 2, v 3, v 4, v 5]
theorem whenRow_at (v : Nat → Value) {k : Nat} (hk : k < 6) : (whenRow v)[k]? = some (v k) := by
  rcases (show k = 0 ∨ k = 1 ∨ k = 2 ∨ k = 3 ∨ k = 4 ∨ k = 5 by omega) with rfl | rfl | rfl | rfl | rfl | rfl <;> rfl
def vSet (v : Nat → Value) (k : Nat) (x : Value) : Nat → Value := fun j => if j = k then x else v j
theorem whenRow_set (v : Nat → Value) {k : Nat} (hk : k < 6) (x : Value) : (whenRow v).setIfInBounds k x = whenRow (vSet v k x) := by
  rcases (show k = 0 ∨ k = 1 ∨ k = 2 ∨ k = 3 ∨ k = 4 ∨ k = 5 by omega) with rfl | rfl | rfl | rfl | rfl | rfl <;> rfl
/-- the array at g: its slices read as the lists ts, each in a row of its own -/
def WhenAt (w : World) (Z g : Nat) (ts : Nat → List Int) : Prop :=
  Z ≤ g ∧ ∃ v : Nat → Value, w.heap[g]? = some (.cells (whenRow v) 34 (0, 0)) ∧ (∀ k, k < 6 → w.ownsRow Z 3 1 (v k) (ts k).length (numsV (ts k))) ∧ ∀ j k, j < 6 → k < 6 → j ≠ k → ∀ b, (v j).ownBlock = some b → (v k).ownBlock ≠ some b
theorem WhenAt.turned {p : Nat → Prop} {w w' : World} {Z g : Nat} {ts : Nat → List Int} (h : WhenAt w Z g ts) (ht : Turned p w w') (hp : ∀ k cs T, w.heap[k]? = some (.cells cs T (0, 0)) → T = 3 ∨ T = 34 → ¬ p k) : WhenAt w' Z g ts := by
  obtain ⟨hg, v, hr, ho, hd⟩ := h
  refine ⟨hg, v, ht.heap hr (hp _ _ _ hr (.inr rfl)), fun k hk => ht.own (ho k hk) fun b hb => ?_, hd⟩
  obtain ⟨cs, hb'⟩ := row_blockM (ho k hk) hb
  exact hp _ _ _ hb' (.inl rfl)
theorem WhenAt.below {w w' : World} {Z g : Nat} {ts : Nat → List Int} (h : WhenAt w Z g ts) (hb : Below w.heap.size w w') : WhenAt w' Z g ts := h.turned (p := fun _ => False) (.of_below hb) fun _ _ _ _ _ e => e
theorem WhenAt.kept {B : Nat} {w w' : World} {Z g : Nat} {ts : Nat → List Int} (h : WhenAt w Z g ts) (hk : KeptS B w w') : WhenAt w' Z g ts :=
  h.turned hk fun k cs T hh hT hm => by
    rcases hm.2 with ⟨cs', T', fr', hb', hT'⟩ | ⟨es, c, hb'⟩
    · rw [hh] at hb'
      injection hb' with hb'
      injection hb' with _ e2
      subst e2
      revert hT'
      rcases hT with rfl | rfl <;> unfold TouchS <;> decide
    · rw [hh] at hb'; cases hb'
theorem WhenAt.new {w : World} {Z : Nat} (hZ : Z ≤ w.heap.size) : WhenAt (w.alloc (.cells #[.slice none 0 0, .slice none 0 0, .slice none 0 0, .slice none 0 0, .slice none 0 0, .slice none 0 0] 34)) Z w.heap.size (fun _ => []) :=
  ⟨hZ, fun _ => .slice none 0 0, heap_alloc_new _ _, fun k hk => World.ownsRow_nil _ _ _ _, fun j k _ _ _ b hb => by cases hb⟩
/-- one of its slices -/
theorem WhenAt.get {w : World} {Z g : Nat} {ts : Nat → List Int} (h : WhenAt w Z g ts) {k : Nat} (hk : k < 6) : ∃ A c, w.cell? ⟨g, k, none⟩ = some (.slice A (ts k).length c) ∧ w.frozen? ⟨g, k, none⟩ = false ∧ w.ownsRow Z 3 1 (.slice A (ts k).length c) (ts k).length (numsV (ts k)) := by
  obtain ⟨hg, v, hr, ho, hd⟩ := h
  obtain ⟨A, c, e⟩ := own_form (ho k hk)
  refine ⟨A, c, ?_, row_frozen hr k, by rw [← e]; exact ho k hk⟩
  rw [row_cell hr, whenRow_at v hk, e]
theorem WhenAt.seen {w : World} {Z g : Nat} {ts : Nat → List Int} (h : WhenAt w Z g ts) {k : Nat} (hk : k < 6) : ∃ A c, w.cell? ⟨g, k, none⟩ = some (.slice A (ts k).length c) ∧ Seen w A (numsV (ts k)) := by
  obtain ⟨A, c, h1, _, h3⟩ := h.get hk
  exact ⟨A, c, h1, Seen.of_own h3⟩
def tsMore (ts : Nat → List Int) (k : Nat) (t : Int) : Nat → List Int := fun j => if j = k then ts k ++ [t] else ts j
/-- a number more in one of them -/
theorem WhenAt.more {w w1 w2 : World} {Z g k : Nat} {ts : Nat → List Int} {t : Int} {A A' : Option Addr} {c c' : Nat} (h : WhenAt w Z g ts) (hk : k < 6) (hc : w.cell? ⟨g, k, none⟩ = some (.slice A (ts k).length c)) (hb1 : Below w.heap.size w w1)
    (hown : w2.ownsRow Z 3 1 (.slice A' ((ts k).length + 1) c') ((ts k).length + 1) (numsV (ts k) ++ [.int .i64 t])) (hgr : w1.grownBy w2 (Value.slice A (ts k).length c).ownBlock) (hbl : ∀ b, (Value.slice A' ((ts k).length + 1) c').ownBlock = some b → (Value.slice A (ts k).length c).ownBlock = some b ∨ b = w1.heap.size) :
    WhenAt (w2.setCell ⟨g, k, none⟩ (.slice A' ((ts k).length + 1) c')) Z g (tsMore ts k t) ∧ Turned (fun j => j = g ∨ (Value.slice A (ts k).length c).ownBlock = some j) w (w2.setCell ⟨g, k, none⟩ (.slice A' ((ts k).length + 1) c')) ∧
      (∀ j o, (j = g ∨ (Value.slice A (ts k).length c).ownBlock = some j) → w.heap[j]? = some o → ∃ cs T fr, o = .cells cs T fr ∧ ¬ TouchS T) ∧ (∀ j, (j = g ∨ (Value.slice A (ts k).length c).ownBlock = some j) → Z ≤ j) ∧ w2.cell? ⟨g, k, none⟩ = some (.slice A (ts k).length c) ∧ w2.frozen? ⟨g, k, none⟩ = false := by
  obtain ⟨hg, v, hr, ho, hd⟩ := h
  have ev : v k = .slice A (ts k).length c := by
    have e := row_cell hr k
    rw [hc, whenRow_at v hk] at e
    injection e with e
    exact e.symm
  obtain ⟨b, hb⟩ : ∃ b, (Value.slice A (ts k).length c).ownBlock = b := ⟨_, rfl⟩
  rw [hb] at hgr hbl ⊢
  have hgk : ∀ j, j < 6 → (v j).ownBlock ≠ some g := fun j hj e => by
    obtain ⟨cs, e2⟩ := row_blockM (ho j hj) e
    rw [hr] at e2
    injection e2 with e2
    injection e2 with _ e2
    exact absurd e2 (by decide)
  have hgb : b ≠ some g := by rw [← hb, ← ev]; exact hgk k hk
  have hglt := (Array.getElem?_eq_some_iff.1 hr).1
  have t1 : Turned (fun j => j = g ∨ b = some j) w w1 := .of_below hb1
  have t2 : Turned (fun j => j = g ∨ b = some j) w w2 := t1.trans (Turned.of_grown (p := fun j => b = some j) hgr fun j e => e) (fun _ e => e) fun _ _ e => .inr e
  have t3 : Turned (fun j => j = g ∨ b = some j) w (w2.setCell ⟨g, k, none⟩ (.slice A' ((ts k).length + 1) c')) := t2.setCell (fun _ => .inl rfl) _
  have hr2 : w2.heap[g]? = some (.cells (whenRow v) 34 (0, 0)) := by
    have h1 := (hb1.block g hglt).trans hr
    rw [hgr.block g (Array.getElem?_eq_some_iff.1 h1).1 (fun e => hgb e.symm)]
    exact h1
  have hset := row_set hr2 k (.slice A' ((ts k).length + 1) c')
  rw [whenRow_set v hk] at hset
  have hlt2 : ∀ j, j < 6 → ∀ x, (v j).ownBlock = some x → x < w.heap.size := fun j hj x hx => ((ho j hj).lt x hx).2
  refine ⟨⟨hg, _, hset, fun j hj => ?_, fun i j hi hj hne x hx hy => ?_⟩, t3, ?_, ?_, by rw [row_cell hr2, whenRow_at v hk, ev], row_frozen hr2 k⟩
  · unfold tsMore vSet
    by_cases e : j = k
    · rw [if_pos e, if_pos e]
      have hown' : w2.ownsRow Z 3 1 (.slice A' ((ts k).length + 1) c') ((ts k ++ [t]).length) (numsV (ts k ++ [t])) := by
        rw [numsV_append, List.length_append]
        exact hown
      refine (set_wo (g := g) k _).own hown' fun x hx e2 => ?_
      subst e2
      rcases hbl _ hx with e3 | e3
      · exact hgb e3
      · have := hb1.size
        omega
    · rw [if_neg e, if_neg e]
      refine t3.own (ho j hj) fun x hx => ?_
      rintro (e2 | e2)
      · subst e2; exact hgk j hj hx
      · rw [← hb, ← ev] at e2
        exact hd j k hj hk e x hx e2
  · unfold vSet at hx hy
    have hnew : ∀ x, (Value.slice A' ((ts k).length + 1) c').ownBlock = some x → ∀ j, j < 6 → j ≠ k → (v j).ownBlock ≠ some x := fun x hx j hj hjk e => by
      rcases hbl _ hx with e3 | e3
      · rw [← hb, ← ev] at e3
        exact hd j k hj hk hjk x e e3
      · have := hlt2 j hj x e
        have := hb1.size
        omega
    by_cases e1 : i = k
    · rw [if_pos e1] at hx
      by_cases e2 : j = k
      · exact hne (e1.trans e2.symm)
      · rw [if_neg e2] at hy
        exact hnew x hx j hj e2 hy
    · rw [if_neg e1] at hx
      by_cases e2 : j = k
      · rw [if_pos e2] at hy
        exact hnew x hy i hi e1 hx
      · rw [if_neg e2] at hy
        exact hd i j hi hj hne x hx hy
  · rintro j o (rfl | e) hjo
    · rw [hr] at hjo
      injection hjo with hjo
      exact ⟨_, _, _, hjo.symm, by unfold TouchS; decide⟩
    · rw [← hb, ← ev] at e
      obtain ⟨cs, e2⟩ := row_blockM (ho k hk) e
      rw [e2] at hjo
      injection hjo with hjo
      exact ⟨_, _, _, hjo.symm, by unfold TouchS; decide⟩
  · rintro j (rfl | e)
    · exact hg
    · rw [← hb, ← ev] at e
      exact ((ho k hk).lt j e).1

/-! ### the flows, and when they were picked -/
structure LimF (m : Nat) (now : Int) (ts : Nat → List Int) (F : Int → Fl) : Prop where
  lim : ∀ k : Nat, k < m → (F k).p.li ≠ 0 → LimOk (wideF (F k).p.li) (F k).p.bu (ts k) (F k).c.l
  past : ∀ k : Nat, k < m → ∀ x ∈ ts k, 0 ≤ x ∧ x ≤ now
  up : ∀ k : Nat, k < m → (ts k).Pairwise (· ≤ ·)
theorem LimF.later {m : Nat} {a b : Int} {ts : Nat → List Int} {F : Int → Fl} (h : LimF m a ts F) (hab : a ≤ b) : LimF m b ts F := ⟨h.lim, fun k hk x hx => by have := h.past k hk x hx; omega, h.up⟩
theorem LimF.start (m : Nat) (F : Int → Fl) : LimF m 0 (fun _ => []) F := ⟨fun k hk hl => limOk_nil _ _ _, fun k hk x hx => (by cases hx), fun k hk => List.Pairwise.nil⟩
theorem LimF.again {l : List Pol} {m j : Nat} {t ph : Int} {ts : Nat → List Int} {F : Int → Fl} {f : Fl} (h : LimF m t ts F) (hU : UpF l m F) (hj : j < m) (hN : Next (ksN m) F (atF t) j ph true) (ht0 : 0 ≤ t) (ht : t ≤ 1000) (hp : f.p = (F j).p) (hc : f.c = cPick F j t ph) :
    LimF m t (tsMore ts j t) (updF F j (againFl f)) := by
  refine ⟨fun k hk hl => ?_, fun k hk x hx => ?_, fun k hk => ?_⟩
  · by_cases e : (k : Int) = j
    · have e' : k = j := by omega
      subst e'
      rw [updF_same] at hl ⊢
      have hl' : (F k).p.li ≠ 0 := by rw [← hp]; exact hl
      obtain ⟨hb, hph⟩ := hN.by_limit
      have hr := (hU.pol k hk).2
      obtain ⟨r1, r2, r3, r4, r5⟩ := (rightP_iff _).1 hr
      have ea := atF_small ht0 (show t ≤ 1000000 by omega)
      rw [ea] at hb
      have hcl : (F k).c.l ≤ 65536 * t := by
        unfold byLimitF at hb
        rw [hr] at hb
        simpa [hl'] using hb
      have hch := charge_l (ph := ph) hr hl' (hU.tags k hk) (now := 65536 * t) (by omega) (by omega) hcl hph
      show LimOk (wideF f.p.li) f.p.bu (tsMore ts k t k) f.c.l
      rw [hp, hc]
      unfold cPick
      rw [ea, hch]
      unfold tsMore
      rw [if_pos rfl]
      have hw := wideF_bd (a := (F k).p.li) (by omega) r3.2
      exact limOk_more (h.lim k hk hl') (by omega) r4.1 hcl fun x hx => (h.past k hk x hx).2
    · rw [updF_other e] at hl ⊢
      unfold tsMore
      rw [if_neg (by omega)]
      exact h.lim k hk hl
  · unfold tsMore at hx
    by_cases e : k = j
    · rw [if_pos e] at hx
      rcases List.mem_append.1 hx with hx | hx
      · exact h.past j hj x hx
      · rw [List.mem_singleton] at hx
        subst hx
        omega
    · rw [if_neg e] at hx
      exact h.past k hk x hx
  · unfold tsMore
    split
    · refine List.pairwise_append.2 ⟨h.up j hj, List.pairwise_singleton _ _, fun a ha b hb => ?_⟩
      rw [List.mem_singleton] at hb
      subst hb
      exact (h.past j hj a ha).2
    · exact h.up k hk
/-- what the law asks of two of them -/
theorem LimF.asks {m : Nat} {now : Int} {ts : Nat → List Int} {F : Int → Fl} (h : LimF m now ts F) {k a b : Nat} (hk : k < m) (hl : (F k).p.li ≠ 0) (hab : a ≤ b) {x y : Int} (hx : (ts k)[a]? = some x) (hy : (ts k)[b]? = some y) :
    (b : Int) - a + 1 ≤ 65536 * (y - x) / wideF (F k).p.li + (F k).p.bu + 1 ∧ x ≤ y ∧ 0 ≤ x ∧ y ≤ now := by
  refine ⟨(h.lim k hk hl).holds a b x y hx hy hab, ?_, (h.past k hk x (List.mem_of_getElem? hx)).1, (h.past k hk y (List.mem_of_getElem? hy)).2⟩
  obtain ⟨h1, e1⟩ := List.getElem?_eq_some_iff.1 hx
  obtain ⟨h2, e2⟩ := List.getElem?_eq_some_iff.1 hy
  rcases Nat.lt_or_eq_of_le hab with hlt | e
  · have := List.pairwise_iff_getElem.1 (h.up k hk) a b h1 h2 hlt
    rw [e1, e2] at this
    exact this
  · subst e
    rw [hx] at hy
    injection hy with hy
    omega
end Go.Proofs.Ytbfjakchgmdldaa
