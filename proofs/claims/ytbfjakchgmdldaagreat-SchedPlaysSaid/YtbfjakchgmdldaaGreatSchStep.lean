/-
  A flow of a scheduler that turns (its state, its queue), a flow that comes, a flow that goes; SchAt: a scheduler whose heaps list just what they should. Conditions: what each names.
-/
import Derived.Test.YtbfjakchgmdldaaGreatSchMem
namespace Go.Proofs.YtbfjakchgmdldaaGreat
open Go.ChangeShapes Go.WideShapes Go.ChangeAt Go.RowKit Go.Maps
set_option linter.unusedVariables false

section
variable {w : World} {B s mf : Nat} {q1 m1 q2 m2 : Option Nat} {ks : List Int} {bs : Int → Nat} {qs : Int → Value} {F : Int → Fl} {xr xw : List Ent}
theorem SchRaw.qblock (H : SchRaw w B s mf q1 m1 q2 m2 ks bs qs F xr xw) {k : Int} (hk : k ∈ ks) {g : Nat} (hg : (qs k).ownBlock = some g) : B ≤ g ∧ ∃ cs, w.heap[g]? = some (.cells cs 30 (0, 0)) := (H.st k hk).2.2.block hg
/-- the heaps, where neither the struct nor a block of theirs turns -/
theorem SchRaw.heaps {p : Nat → Prop} {w' : World} (H : SchRaw w B s mf q1 m1 q2 m2 ks bs qs F xr xw) (ht : Turned p w w') (hs : ¬ p s) (he : ∀ k cs, w.heap[k]? = some (.cells cs 88 (0, 0)) → ¬ p k) (hm : ∀ k, m1 = some k ∨ m2 = some k → ¬ p k) :
    (∃ X Y, HeapAt w' B (homeR s mf X Y) q1 m1 xr) ∧ ∃ X Y, HeapAt w' B (homeW s mf X Y) q2 m2 xw := by
  constructor
  · obtain ⟨X, Y, h⟩ := H.hr
    refine ⟨X, Y, h.turned ht ?_⟩
    rintro k (rfl | e | e)
    · exact hs
    · obtain ⟨_, cs, e⟩ := H.block1 e; exact he k cs e
    · exact hm k (.inl e)
  · obtain ⟨X, Y, h⟩ := H.hw
    refine ⟨X, Y, h.turned ht ?_⟩
    rintro k (rfl | e | e)
    · exact hs
    · obtain ⟨_, cs, e⟩ := H.block2 e; exact he k cs e
    · exact hm k (.inr e)
/-- a flow has turned: its state, and its queue -/
theorem SchRaw.flow {p : Nat → Prop} {w' : World} {k : Int} {f : Fl} {v : Value} (H : SchRaw w B s mf q1 m1 q2 m2 ks bs qs F xr xw) (hk : k ∈ ks) (ht : Turned p w w')
    (hp : ∀ j, p j → j < w.heap.size → j = bs k ∨ (qs k).ownBlock = some j) (h1 : w'.heap[bs k]? = some (.cells (stRow f v) 69 (0, 0))) (hq : QAt w' B v f.q) (hv : ∀ g, v.ownBlock = some g → (qs k).ownBlock = some g ∨ w.heap.size ≤ g) (hf : FlOk f) :
    SchRaw w' B s mf q1 m1 q2 m2 ks bs (updV qs k v) (updF F k f) xr xw ∧ KeptS B w w' := by
  obtain ⟨A1, c1, A2, c2, hrow⟩ := H.row
  obtain ⟨es0, k0, hm0⟩ := H.map0
  have hst := (H.st k hk).2.1
  have hno : ∀ {j : Nat} {o : Obj}, w.heap[j]? = some o → (∀ cs T fr, o = .cells cs T fr → T ≠ 69 ∧ T ≠ 30) → ¬ p j := by
    intro j o ho h e
    rcases hp j e (Array.getElem?_eq_some_iff.1 ho).1 with e2 | e2
    · rw [e2, hst] at ho
      injection ho with ho
      exact (h _ _ _ ho.symm).1 rfl
    · obtain ⟨_, cs, e3⟩ := H.qblock hk e2
      rw [e3] at ho
      injection ho with ho
      exact (h _ _ _ ho.symm).2 rfl
  have hnm : ∀ {j es c}, w.heap[j]? = some (.map es c) → ¬ p j := fun hj => hno hj fun cs T fr e => by cases e
  have hh := H.heaps ht (hno hrow fun cs T fr e => by injection e with _ e; rw [← e]; exact ⟨by decide, by decide⟩) (fun j cs hj => hno hj fun cs T fr e => by injection e with _ e; rw [← e]; exact ⟨by decide, by decide⟩)
    (fun j hj => by
      rcases hj with e | e
      · obtain ⟨_, es, c, e⟩ := H.map1 e; exact hnm e
      · obtain ⟨_, es, c, e⟩ := H.map2 e; exact hnm e)
  have hnb : ∀ j ∈ ks, j ≠ k → ¬ p (bs j) := fun j hj hne e => by
    have hl := (Array.getElem?_eq_some_iff.1 (H.st j hj).2.1).1
    rcases hp _ e hl with e2 | e2
    · exact hne (H.inj j hj k hk e2)
    · obtain ⟨_, cs, e3⟩ := H.qblock hk e2
      exact cells_ne (H.st j hj).2.1 e3 (by decide) rfl
  have hnq : ∀ j ∈ ks, j ≠ k → ∀ g, (qs j).ownBlock = some g → ¬ p g := fun j hj hne g hg e => by
    obtain ⟨_, cs, e3⟩ := H.qblock hj hg
    rcases hp g e (Array.getElem?_eq_some_iff.1 e3).1 with e2 | e2
    · exact cells_ne e3 hst (by decide) e2
    · exact hne (H.qinj j hj k hk g hg e2)
  refine ⟨⟨H.base, H.mfb, hh.1, hh.2, H.flows.turned ht (hnm hm0), fun j hj => ?_, H.inj, fun i hi j hj g => ?_, H.mm, H.qq, H.rise, H.bd, fun j hj => ?_⟩, ?_⟩
  · by_cases e : j = k
    · subst e
      rw [updV_same, updF_same]
      exact ⟨(H.st j hj).1, h1, hq⟩
    · rw [updV_other e, updF_other e]
      exact (H.st j hj).turned ht (hnb j hj e) (hnq j hj e)
  · have old : ∀ j ∈ ks, ∀ g, (qs j).ownBlock = some g → g < w.heap.size := fun j hj g hg => by
      obtain ⟨_, cs, e3⟩ := H.qblock hj hg
      exact (Array.getElem?_eq_some_iff.1 e3).1
    by_cases e : i = k
    · subst e
      by_cases e' : j = i
      · intro _ _; exact e'.symm
      · rw [updV_same, updV_other e']
        intro h h'
        rcases hv g h with h | h
        · exact H.qinj i hi j hj g h h'
        · have := old j hj g h'; omega
    · by_cases e' : j = k
      · subst e'
        rw [updV_same, updV_other e]
        intro h' h
        rcases hv g h with h | h
        · exact H.qinj i hi j hj g h' h
        · have := old i hi g h'; omega
      · rw [updV_other e, updV_other e']
        exact H.qinj i hi j hj g
  · by_cases e : j = k
    · subst e; rw [updF_same]; exact hf
    · rw [updF_other e]; exact H.ok j hj
  · refine KeptS.of_turned ht fun j hj e => ?_
    rcases hp j e hj with e2 | e2
    · rw [e2]; exact ⟨(H.st k hk).1, .inl ⟨_, _, _, hst, .inr (.inl rfl)⟩⟩
    · obtain ⟨hB, cs, e3⟩ := H.qblock hk e2
      exact ⟨hB, .inl ⟨_, _, _, e3, .inr (.inr (.inl rfl))⟩⟩
/-- a flow comes -/
theorem SchRaw.add {w' : World} {k : Int} {f : Fl} {g : Nat} (H : SchRaw w B s mf q1 m1 q2 m2 ks bs qs F xr xw) (hk : ¬ k ∈ ks) (hb : 0 ≤ k ∧ k ≤ 9223372036854775807) (ht : Turned (fun j => j = mf) w w') (hm : FlowsAt w' mf (putK ks k) (updB bs k g)) (hg : w.heap.size ≤ g) (hB : B ≤ w.heap.size)
    (h1 : w'.heap[g]? = some (.cells (stRow f (.slice none 0 0)) 69 (0, 0))) (hq : f.q = []) (hf : FlOk f) :
    SchRaw w' B s mf q1 m1 q2 m2 (putK ks k) (updB bs k g) (updV qs k (.slice none 0 0)) (updF F k f) xr xw ∧ KeptS B w w' := by
  obtain ⟨A1, c1, A2, c2, hrow⟩ := H.row
  obtain ⟨es0, k0, hm0⟩ := H.map0
  have hnc : ∀ {j cs T}, w.heap[j]? = some (.cells cs T (0, 0)) → ¬ j = mf := fun hj e => cells_map hj hm0 e
  have hh := H.heaps ht (hnc hrow) (fun j cs hj => hnc hj) (fun j hj e => by
      subst e
      rcases hj with e | e
      · exact H.mm.1 e
      · exact H.mm.2.1 e)
  have hne : ∀ j ∈ ks, j ≠ k := fun j hj e => hk (e ▸ hj)
  have hin : ∀ {j}, j ∈ putK ks k → j = k ∨ j ∈ ks := fun hj => mem_putK.1 hj
  have hsm : ∀ j ∈ ks, bs j < w.heap.size := fun j hj => (Array.getElem?_eq_some_iff.1 (H.st j hj).2.1).1
  refine ⟨⟨H.base, H.mfb, hh.1, hh.2, hm, fun j hj => ?_, fun i hi j hj e => ?_, fun i hi j hj g' h h' => ?_, H.mm, H.qq, H.rise.put k, fun j hj => ?_, fun j hj => ?_⟩, ?_⟩
  · rcases hin hj with rfl | hj
    · rw [updB_same, updV_same, updF_same]
      exact ⟨by omega, h1, by rw [hq]; exact QAt.nil _ _⟩
    · rw [updB_other (hne j hj), updV_other (hne j hj), updF_other (hne j hj)]
      exact (H.st j hj).turned ht (hnc (H.st j hj).2.1) (fun g' hg' => by obtain ⟨_, cs, e3⟩ := H.qblock hj hg'; exact hnc e3)
  · rcases hin hi with rfl | hi2
    · rcases hin hj with rfl | hj2
      · rfl
      · rw [updB_same, updB_other (hne j hj2)] at e
        have := hsm j hj2; omega
    · rcases hin hj with rfl | hj2
      · rw [updB_same, updB_other (hne i hi2)] at e
        have := hsm i hi2; omega
      · rw [updB_other (hne i hi2), updB_other (hne j hj2)] at e
        exact H.inj i hi2 j hj2 e
  · rcases hin hi with rfl | hi2
    · rw [updV_same] at h; cases h
    · rcases hin hj with rfl | hj2
      · rw [updV_same] at h'; cases h'
      · rw [updV_other (hne i hi2)] at h
        rw [updV_other (hne j hj2)] at h'
        exact H.qinj i hi2 j hj2 g' h h'
  · rcases hin hj with rfl | hj
    · exact hb
    · exact H.bd j hj
  · rcases hin hj with rfl | hj
    · rw [updF_same]; exact hf
    · rw [updF_other (hne j hj)]; exact H.ok j hj
  · exact KeptS.of_turned ht fun j hj e => by subst e; exact ⟨H.mfb, .inr ⟨_, _, hm0⟩⟩
/-- the map has turned, and has no name more -/
theorem SchRaw.mapped {w' : World} {ks' : List Int} (hin : ∀ {j}, j ∈ ks' → j ∈ ks) (hrise : RisingK ks') (H : SchRaw w B s mf q1 m1 q2 m2 ks bs qs F xr xw) (ht : Turned (fun j => j = mf) w w') (hm : FlowsAt w' mf (ks') bs) :
    SchRaw w' B s mf q1 m1 q2 m2 (ks') bs qs F xr xw ∧ KeptS B w w' := by
  obtain ⟨A1, c1, A2, c2, hrow⟩ := H.row
  obtain ⟨es0, k0, hm0⟩ := H.map0
  have hnc : ∀ {j cs T}, w.heap[j]? = some (.cells cs T (0, 0)) → ¬ j = mf := fun hj e => cells_map hj hm0 e
  have hh := H.heaps ht (hnc hrow) (fun j cs hj => hnc hj) (fun j hj e => by
      subst e
      rcases hj with e | e
      · exact H.mm.1 e
      · exact H.mm.2.1 e)
  exact ⟨⟨H.base, H.mfb, hh.1, hh.2, hm, fun j hj => (H.st j (hin hj)).turned ht (hnc (H.st j (hin hj)).2.1) (fun g' hg' => by obtain ⟨_, cs, e3⟩ := H.qblock (hin hj) hg'; exact hnc e3), fun i hi j hj => H.inj i (hin hi) j (hin hj), fun i hi j hj => H.qinj i (hin hi) j (hin hj), H.mm, H.qq, hrise, fun j hj => H.bd j (hin hj), fun j hj => H.ok j (hin hj)⟩,
    KeptS.of_turned ht fun j hj e => by subst e; exact ⟨H.mfb, .inr ⟨_, _, hm0⟩⟩⟩
theorem SchRaw.gone {w' : World} {k : Int} (H : SchRaw w B s mf q1 m1 q2 m2 ks bs qs F xr xw) (ht : Turned (fun j => j = mf) w w') (hm : FlowsAt w' mf (outK ks k) bs) :
    SchRaw w' B s mf q1 m1 q2 m2 (outK ks k) bs qs F xr xw ∧ KeptS B w w' := SchRaw.mapped (fun hj => (mem_outK.1 hj).1) (H.rise.out k) H ht hm
theorem updB_self (b : Int → Nat) (k : Int) : updB b k (b k) = b := by
  funext j
  unfold updB
  split
  · rename_i e; rw [e]
  · rfl
theorem SchRaw.again {w' : World} {k : Int} {g : Nat} (H : SchRaw w B s mf q1 m1 q2 m2 ks bs qs F xr xw) (hk : k ∈ ks) (hg : bs k = g) (ht : Turned (fun j => j = mf) w w') (hm : FlowsAt w' mf (putK ks k) (updB bs k g)) :
    SchRaw w' B s mf q1 m1 q2 m2 ks bs qs F xr xw ∧ KeptS B w w' := by
  rw [putK_mem H.rise hk, ← hg, updB_self] at hm
  exact SchRaw.mapped (fun hj => hj) H.rise H ht hm
end

/-- a scheduler at s that has the flows ks, each as F tells -/
def SchAt (w : World) (B s : Nat) (ks : List Int) (F : Int → Fl) : Prop := ∃ mf q1 m1 q2 m2 bs qs xr xw, SchRaw w B s mf q1 m1 q2 m2 ks bs qs F xr xw ∧ Lists ks F xr xw
theorem SchAt.turned {p : Nat → Prop} {w w' : World} {B s : Nat} {ks : List Int} {F : Int → Fl} (H : SchAt w B s ks F) (ht : Turned p w w') (hp : ∀ k, p k → ∀ o, w.heap[k]? = some o → ∃ cs T fr, o = .cells cs T fr ∧ ¬ TouchS T) : SchAt w' B s ks F := by
  obtain ⟨mf, q1, m1, q2, m2, bs, qs, xr, xw, h, hl⟩ := H
  exact ⟨mf, q1, m1, q2, m2, bs, qs, xr, xw, h.turned ht hp, hl⟩
theorem SchAt.below {w w' : World} {B s : Nat} {ks : List Int} {F : Int → Fl} (H : SchAt w B s ks F) (hb : Below w.heap.size w w') : SchAt w' B s ks F := H.turned (p := fun _ => False) (.of_below hb) fun _ e => e.elim
theorem SchAt.ok {w : World} {B s : Nat} {ks : List Int} {F : Int → Fl} (H : SchAt w B s ks F) : ∀ k ∈ ks, FlOk (F k) := by
  obtain ⟨mf, q1, m1, q2, m2, bs, qs, xr, xw, h, hl⟩ := H
  exact h.ok
theorem SchAt.bd {w : World} {B s : Nat} {ks : List Int} {F : Int → Fl} (H : SchAt w B s ks F) : ∀ k ∈ ks, 0 ≤ k ∧ k ≤ 9223372036854775807 := by
  obtain ⟨mf, q1, m1, q2, m2, bs, qs, xr, xw, h, hl⟩ := H
  exact h.bd
theorem SchAt.rise {w : World} {B s : Nat} {ks : List Int} {F : Int → Fl} (H : SchAt w B s ks F) : RisingK ks := by
  obtain ⟨mf, q1, m1, q2, m2, bs, qs, xr, xw, h, hl⟩ := H
  exact h.rise
theorem SchAt.lt {w : World} {B s : Nat} {ks : List Int} {F : Int → Fl} (H : SchAt w B s ks F) : B ≤ s ∧ s < w.heap.size := by
  obtain ⟨mf, q1, m1, q2, m2, bs, qs, xr, xw, h, hl⟩ := H
  obtain ⟨A1, c1, A2, c2, hrow⟩ := h.row
  exact ⟨h.base, (Array.getElem?_eq_some_iff.1 hrow).1⟩
/-- two that agree on what is there -/
theorem SchAt.congr {w : World} {B s : Nat} {ks : List Int} {F G : Int → Fl} (H : SchAt w B s ks F) (h : ∀ k ∈ ks, G k = F k) : SchAt w B s ks G := by
  obtain ⟨mf, q1, m1, q2, m2, bs, qs, xr, xw, hr, hl⟩ := H
  refine ⟨mf, q1, m1, q2, m2, bs, qs, xr, xw, ⟨hr.base, hr.mfb, hr.hr, hr.hw, hr.flows, fun k hk => by rw [h k hk]; exact hr.st k hk, hr.inj, hr.qinj, hr.mm, hr.qq, hr.rise, hr.bd, fun k hk => by rw [h k hk]; exact hr.ok k hk⟩, ⟨fun e => ?_, fun e => ?_⟩⟩
  · rw [hl.r e]
    unfold pR kR
    by_cases hk : e.1 ∈ ks
    · rw [h _ hk]
    · simp [hk]
  · rw [hl.w e]
    unfold pW kW
    by_cases hk : e.1 ∈ ks
    · rw [h _ hk]
    · simp [hk]
/-- a scheduler whose queues lie in such blocks alone -/
def SchAtQ (w : World) (B s : Nat) (ks : List Int) (F : Int → Fl) (Q : Nat → Prop) : Prop := ∃ mf q1 m1 q2 m2 bs qs xr xw, SchRaw w B s mf q1 m1 q2 m2 ks bs qs F xr xw ∧ Lists ks F xr xw ∧ ∀ k ∈ ks, ∀ j, (qs k).ownBlock = some j → Q j
theorem SchAt.old {w : World} {B s : Nat} {ks : List Int} {F : Int → Fl} (h : SchAt w B s ks F) : SchAtQ w B s ks F (fun j => j < w.heap.size) := by
  obtain ⟨mf, q1, m1, q2, m2, bs, qs, xr, xw, h, hL⟩ := h
  refine ⟨mf, q1, m1, q2, m2, bs, qs, xr, xw, h, hL, fun k hk j hj => ?_⟩
  obtain ⟨_, cs, e3⟩ := h.qblock hk hj
  exact (Array.getElem?_eq_some_iff.1 e3).1
theorem SchAtQ.below {w w' : World} {B s : Nat} {ks : List Int} {F : Int → Fl} {Q : Nat → Prop} (h : SchAtQ w B s ks F Q) (hb : Below w.heap.size w w') : SchAtQ w' B s ks F Q := by
  obtain ⟨mf, q1, m1, q2, m2, bs, qs, xr, xw, h, hL, hQ⟩ := h
  exact ⟨mf, q1, m1, q2, m2, bs, qs, xr, xw, h.below hb, hL, hQ⟩
theorem SchAtQ.at_ {w : World} {B s : Nat} {ks : List Int} {F : Int → Fl} {Q : Nat → Prop} (h : SchAtQ w B s ks F Q) : SchAt w B s ks F := by
  obtain ⟨mf, q1, m1, q2, m2, bs, qs, xr, xw, h, hL, _⟩ := h
  exact ⟨mf, q1, m1, q2, m2, bs, qs, xr, xw, h, hL⟩
theorem SchAtQ.mono {w : World} {B s : Nat} {ks : List Int} {F : Int → Fl} {Q Q' : Nat → Prop} (h : SchAtQ w B s ks F Q) (hq : ∀ j, Q j → Q' j) : SchAtQ w B s ks F Q' := by
  obtain ⟨mf, q1, m1, q2, m2, bs, qs, xr, xw, h, hL, hQ⟩ := h
  exact ⟨mf, q1, m1, q2, m2, bs, qs, xr, xw, h, hL, fun k hk j hj => hq j (hQ k hk j hj)⟩
theorem SchAtQ.congr {w : World} {B s : Nat} {ks : List Int} {F G : Int → Fl} {Q : Nat → Prop} (H : SchAtQ w B s ks F Q) (h : ∀ k ∈ ks, G k = F k) : SchAtQ w B s ks G Q := by
  obtain ⟨mf, q1, m1, q2, m2, bs, qs, xr, xw, hr, hl, hQ⟩ := H
  refine ⟨mf, q1, m1, q2, m2, bs, qs, xr, xw, ⟨hr.base, hr.mfb, hr.hr, hr.hw, hr.flows, fun k hk => by rw [h k hk]; exact hr.st k hk, hr.inj, hr.qinj, hr.mm, hr.qq, hr.rise, hr.bd, fun k hk => by rw [h k hk]; exact hr.ok k hk⟩, ⟨fun e => ?_, fun e => ?_⟩, hQ⟩
  · rw [hl.r e]
    unfold pR kR
    by_cases hk : e.1 ∈ ks
    · rw [h _ hk]
    · simp [hk]
  · rw [hl.w e]
    unfold pW kW
    by_cases hk : e.1 ∈ ks
    · rw [h _ hk]
    · simp [hk]
/-- rows of items that lie in no such block are as they were -/
def KeepI (Q : Nat → Prop) (w w' : World) : Prop := ∀ (j : Nat) (cs : Array Value), ¬ Q j → w.heap[j]? = some (.cells cs 30 (0, 0)) → w'.heap[j]? = some (.cells cs 30 (0, 0))
theorem KeepI.trans {Q : Nat → Prop} {a b c : World} (h : KeepI Q a b) (k : KeepI Q b c) : KeepI Q a c := fun j cs hj e => k j cs hj (h j cs hj e)
theorem KeepI.of_below {Q : Nat → Prop} {w w' : World} (h : Below w.heap.size w w') : KeepI Q w w' := fun j cs _ e => (h.block j (Array.getElem?_eq_some_iff.1 e).1).trans e
theorem KeepI.of_turned {Q p : Nat → Prop} {w w' : World} (h : Turned p w w') (hp : ∀ (j : Nat) (cs : Array Value), w.heap[j]? = some (.cells cs 30 (0, 0)) → p j → Q j) : KeepI Q w w' := fun j cs hj e => h.heap e fun hpj => hj (hp j cs e hpj)
theorem KeptH.items {Q : Nat → Prop} {B : Nat} {w w' : World} (h : KeptH B w w') : KeepI Q w w' := fun j cs _ e => h.heap e (by unfold TouchH; decide)
end Go.Proofs.YtbfjakchgmdldaaGreat
