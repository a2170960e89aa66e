/-
  A scheduler in memory (SchRaw: its struct with two heaps within, its map of flows, each flow's state and queue; SchAt), what its methods may turn (KeptS), and the steps by which it turns. Conditions: what each names.
-/
import Derived.Test.YtbfjakchgmdldaaGreatSchMap
import Derived.Test.YtbfjakchgmdldaaGreatHomDrop
namespace Go.Proofs.YtbfjakchgmdldaaGreat
open Go.ChangeShapes Go.WideShapes Go.ChangeAt Go.RowKit Go.Maps
set_option linter.unusedVariables false

/-! ### what its methods may turn -/
/-- the kinds of blocks that a scheduler's methods write -/
def TouchS (T : TypeId) : Prop := T = 63 ∨ T = 69 ∨ T = 30 ∨ T = 88
def MayS (B : Nat) (w : World) (k : Nat) : Prop := B ≤ k ∧ ((∃ cs T fr, w.heap[k]? = some (.cells cs T fr) ∧ TouchS T) ∨ ∃ es c, w.heap[k]? = some (.map es c))
def KeptS (B : Nat) (w w' : World) : Prop := Turned (MayS B w) w w'
theorem KeptS.refl (B : Nat) (w : World) : KeptS B w w := Turned.refl _ _
theorem KeptS.of_below {B : Nat} {w w' : World} (h : Below w.heap.size w w') : KeptS B w w' := Turned.of_below h
theorem KeptS.of_turned {B : Nat} {p : Nat → Prop} {w w' : World} (h : Turned p w w') (hp : ∀ k, k < w.heap.size → p k → MayS B w k) : KeptS B w w' := h.mono hp
theorem KeptS.trans {B : Nat} {a b c : World} (h : KeptS B a b) (k : KeptS B b c) : KeptS B a c := by
  refine Turned.trans h k (fun _ e => e) fun i hi e => ?_
  by_cases hm : MayS B a i
  · exact hm
  · have hb := h.block i hi hm
    obtain ⟨e1, e2⟩ := e
    rw [hb] at e2
    exact ⟨e1, e2⟩
theorem KeptS.below {B : Nat} {w w' : World} (h : KeptS B w w') (hB : B ≤ w.heap.size) : Below B w w' := Turned.below h (fun k hk => hk.1) hB
theorem KeptS.heap {B : Nat} {w w' : World} (h : KeptS B w w') {k : Nat} {cs : Array Value} {T : TypeId} {fr : Nat × Nat} (hk : w.heap[k]? = some (.cells cs T fr)) (he : ¬ TouchS T) : w'.heap[k]? = some (.cells cs T fr) :=
  Turned.heap h hk fun hm => by
    rcases hm.2 with ⟨cs', T', fr', hb', hT⟩ | ⟨es, c, hb'⟩
    · rw [hk] at hb'
      injection hb' with hb'
      injection hb' with _ e2
      exact he (e2 ▸ hT)
    · rw [hk] at hb'; cases hb'
theorem KeptS.own {B B' : Nat} {w w' : World} (h : KeptS B w w') {e : TypeId} {n z : Nat} {v : Value} {xs : List Value} (ho : w.ownsRow B' e z v n xs) (he : ¬ TouchS e) : w'.ownsRow B' e z v n xs :=
  own_turnedM h ho fun k hk hm => by
    obtain ⟨cs, hb⟩ := row_blockM ho hk
    rcases hm.2 with ⟨cs', T, fr, hb', hT⟩ | ⟨es, c, hb'⟩
    · rw [hb] at hb'
      injection hb' with hb'
      injection hb' with _ e2
      exact he (e2 ▸ hT)
    · rw [hb] at hb'; cases hb'

/-- of what was there only the struct, the heaps' rows, and maps, may have turned -/
def TouchH (T : TypeId) : Prop := T = 63 ∨ T = 88
def MayH (B : Nat) (w : World) (k : Nat) : Prop := B ≤ k ∧ ((∃ cs T fr, w.heap[k]? = some (.cells cs T fr) ∧ TouchH T) ∨ ∃ es c, w.heap[k]? = some (.map es c))
def KeptH (B : Nat) (w w' : World) : Prop := Turned (MayH B w) w w'
theorem KeptH.of_below {B : Nat} {w w' : World} (h : Below w.heap.size w w') : KeptH B w w' := Turned.of_below h
theorem KeptH.of_turned {B : Nat} {p : Nat → Prop} {w w' : World} (h : Turned p w w') (hp : ∀ k, k < w.heap.size → p k → MayH B w k) : KeptH B w w' := h.mono hp
theorem KeptH.trans {B : Nat} {a b c : World} (h : KeptH B a b) (k : KeptH B b c) : KeptH B a c := by
  refine Turned.trans h k (fun _ e => e) fun i hi e => ?_
  by_cases hm : MayH B a i
  · exact hm
  · have hb := h.block i hi hm
    obtain ⟨e1, e2⟩ := e
    rw [hb] at e2
    exact ⟨e1, e2⟩
theorem KeptH.heap {B : Nat} {w w' : World} (h : KeptH B w w') {k : Nat} {cs : Array Value} {T : TypeId} {fr : Nat × Nat} (hk : w.heap[k]? = some (.cells cs T fr)) (he : ¬ TouchH T) : w'.heap[k]? = some (.cells cs T fr) :=
  Turned.heap h hk fun hm => by
    rcases hm.2 with ⟨cs', T', fr', hb', hT⟩ | ⟨es, c, hb'⟩
    · rw [hk] at hb'
      injection hb' with hb'
      injection hb' with _ e2
      exact he (e2 ▸ hT)
    · rw [hk] at hb'; cases hb'
theorem KeptH.s {B : Nat} {w w' : World} (h : KeptH B w w') : KeptS B w w' := Turned.mono h fun k _ e => ⟨e.1, e.2.imp (fun ⟨cs, T, fr, e1, e2⟩ => ⟨cs, T, fr, e1, e2.elim .inl fun e => .inr (.inr (.inr e))⟩) id⟩

/-! ### the parts -/
def homeR (s mf : Nat) (X Y : Value) : Home where
  b := s
  o := 1
  T := 63
  K := fun a b => #[.map (some mf), a, b, X, Y]
  get0 := fun _ _ => rfl
  get1 := fun _ _ => rfl
  set0 := fun _ _ _ => rfl
  set1 := fun _ _ _ => rfl
  other := by decide
def homeW (s mf : Nat) (X Y : Value) : Home where
  b := s
  o := 3
  T := 63
  K := fun a b => #[.map (some mf), X, Y, a, b]
  get0 := fun _ _ => rfl
  get1 := fun _ _ => rfl
  set0 := fun _ _ _ => rfl
  set1 := fun _ _ _ => rfl
  other := by decide
theorem HeapAt.rehome {p : Nat → Prop} {w w' : World} {B : Nat} {h h' : Home} {q m : Option Nat} {x : List Ent} (H : HeapAt w B h q m x) (ht : Turned p w w') (hp : ∀ k, q = some k ∨ m = some k → ¬ p k) (hb : B ≤ h'.b)
    (hrow : ∀ A n c, w.heap[h.b]? = some (.cells (h.K (.slice A n c) (.map m)) h.T (0, 0)) → w'.heap[h'.b]? = some (.cells (h'.K (.slice A n c) (.map m)) h'.T (0, 0))) : HeapAt w' B h' q m x := by
  obtain ⟨t, ks, f, ⟨_, ⟨A, c, h1, h2, h3⟩, h4⟩, h5⟩ := H
  exact ⟨t, ks, f, ⟨hb, ⟨A, c, hrow A _ c h1, own_turnedM ht h2 (fun k hk => hp k (.inl (by rw [← h3]; exact hk))), h3⟩, h4.turned ht fun k hk => hp k (.inr hk)⟩, h5⟩
/-- the row of a flow's state -/
def stRow (f : Fl) (v : Value) : Array Value := #[.int .i64 f.ver, .int .i64 f.p.re, .int .i64 f.p.we, .int .i64 f.p.li, .int .i64 f.p.bu, .int .i64 f.c.r, .int .i64 f.c.p, .int .i64 f.c.l, v]
/-- a flow's state at g, its queue at v -/
def StAt (w : World) (B g : Nat) (f : Fl) (v : Value) : Prop := B ≤ g ∧ w.heap[g]? = some (.cells (stRow f v) 69 (0, 0)) ∧ QAt w B v f.q
theorem StAt.turned {p : Nat → Prop} {w w' : World} {B g : Nat} {f : Fl} {v : Value} (h : StAt w B g f v) (ht : Turned p w w') (h1 : ¬ p g) (h2 : ∀ k, v.ownBlock = some k → ¬ p k) : StAt w' B g f v := ⟨h.1, ht.heap h.2.1 h1, h.2.2.turned ht h2⟩
def updV (q : Int → Value) (k : Int) (v : Value) : Int → Value := fun j => if j = k then v else q j
theorem updV_same (q : Int → Value) (k : Int) (v : Value) : updV q k v k = v := if_pos rfl
theorem updV_other {q : Int → Value} {k j : Int} {v : Value} (h : j ≠ k) : updV q k v j = q j := if_neg h

/-! ### a scheduler -/
structure SchRaw (w : World) (B s mf : Nat) (q1 m1 q2 m2 : Option Nat) (ks : List Int) (bs : Int → Nat) (qs : Int → Value) (F : Int → Fl) (xr xw : List Ent) : Prop where
  base : B ≤ s
  mfb : B ≤ mf
  hr : ∃ X Y, HeapAt w B (homeR s mf X Y) q1 m1 xr
  hw : ∃ X Y, HeapAt w B (homeW s mf X Y) q2 m2 xw
  flows : FlowsAt w mf ks bs
  st : ∀ k ∈ ks, StAt w B (bs k) (F k) (qs k)
  inj : ∀ j ∈ ks, ∀ k ∈ ks, bs j = bs k → j = k
  qinj : ∀ j ∈ ks, ∀ k ∈ ks, ∀ g, (qs j).ownBlock = some g → (qs k).ownBlock = some g → j = k
  mm : m1 ≠ some mf ∧ m2 ≠ some mf ∧ ∀ g, m1 = some g → m2 ≠ some g
  qq : ∀ g, q1 = some g → q2 ≠ some g
  rise : RisingK ks
  bd : ∀ k ∈ ks, 0 ≤ k ∧ k ≤ 9223372036854775807
  ok : ∀ k ∈ ks, FlOk (F k)
theorem cells_ne {w : World} {j k : Nat} {cs cs' : Array Value} {T T' : TypeId} {fr fr' : Nat × Nat} (h : w.heap[j]? = some (.cells cs T fr)) (h' : w.heap[k]? = some (.cells cs' T' fr')) (hT : T ≠ T') : j ≠ k := fun e => by
  rw [e, h'] at h
  injection h with h
  injection h with _ h
  exact hT h.symm
theorem cells_map {w : World} {j k : Nat} {cs : Array Value} {T : TypeId} {fr : Nat × Nat} {es : Array MapEntry} {c : Nat} (h : w.heap[j]? = some (.cells cs T fr)) (h' : w.heap[k]? = some (.map es c)) : j ≠ k := fun e => by
  rw [e, h'] at h
  cases h

section
variable {w : World} {B s mf : Nat} {q1 m1 q2 m2 : Option Nat} {ks : List Int} {bs : Int → Nat} {qs : Int → Value} {F : Int → Fl} {xr xw : List Ent}
theorem SchRaw.row (H : SchRaw w B s mf q1 m1 q2 m2 ks bs qs F xr xw) : ∃ A1 c1 A2 c2, w.heap[s]? = some (.cells #[.map (some mf), .slice A1 xr.length c1, .map m1, .slice A2 xw.length c2, .map m2] 63 (0, 0)) := by
  obtain ⟨X, Y, h1⟩ := H.hr
  obtain ⟨X', Y', h2⟩ := H.hw
  obtain ⟨A1, c1, r1⟩ := h1.len
  obtain ⟨A2, c2, r2⟩ := h2.len
  have e : some (Obj.cells #[.map (some mf), .slice A1 xr.length c1, .map m1, X, Y] 63 (0, 0)) = some (Obj.cells #[.map (some mf), X', Y', .slice A2 xw.length c2, .map m2] 63 (0, 0)) := r1.symm.trans r2
  injection e with e
  injection e with e
  injection e with e
  injection e with _ e
  injection e with _ e
  injection e with _ e
  injection e with eX e
  injection e with eY _
  refine ⟨A1, c1, A2, c2, ?_⟩
  rw [← eX, ← eY]
  exact r1
theorem SchRaw.lens (H : SchRaw w B s mf q1 m1 q2 m2 ks bs qs F xr xw) (L : Lists ks F xr xw) : xr.length ≤ ks.length ∧ xw.length ≤ ks.length := by
  obtain ⟨X, Y, h1⟩ := H.hr
  obtain ⟨X', Y', h2⟩ := H.hw
  exact ⟨listed_length L.r h1.good fun k hk => (pR_iff.1 hk).1, listed_length L.w h2.good fun k hk => (pW_iff.1 hk).1⟩
theorem SchRaw.goods (H : SchRaw w B s mf q1 m1 q2 m2 ks bs qs F xr xw) : GoodE xr ∧ GoodE xw := by
  obtain ⟨X, Y, h1⟩ := H.hr
  obtain ⟨X', Y', h2⟩ := H.hw
  exact ⟨h1.good, h2.good⟩
theorem SchRaw.block1 (H : SchRaw w B s mf q1 m1 q2 m2 ks bs qs F xr xw) {k : Nat} (hk : q1 = some k) : B ≤ k ∧ ∃ cs, w.heap[k]? = some (.cells cs 88 (0, 0)) := by
  obtain ⟨X, Y, t, ns, f, ⟨hb, ⟨A, c, h1, h2, h3⟩, h4⟩, _⟩ := H.hr
  exact ⟨(h2.lt k (by rw [h3]; exact hk)).1, row_blockM h2 (by rw [h3]; exact hk)⟩
theorem SchRaw.block2 (H : SchRaw w B s mf q1 m1 q2 m2 ks bs qs F xr xw) {k : Nat} (hk : q2 = some k) : B ≤ k ∧ ∃ cs, w.heap[k]? = some (.cells cs 88 (0, 0)) := by
  obtain ⟨X, Y, t, ns, f, ⟨hb, ⟨A, c, h1, h2, h3⟩, h4⟩, _⟩ := H.hw
  exact ⟨(h2.lt k (by rw [h3]; exact hk)).1, row_blockM h2 (by rw [h3]; exact hk)⟩
theorem SchRaw.map1 (H : SchRaw w B s mf q1 m1 q2 m2 ks bs qs F xr xw) {k : Nat} (hk : m1 = some k) : B ≤ k ∧ ∃ es c, w.heap[k]? = some (.map es c) := by
  obtain ⟨X, Y, t, ns, f, ⟨hb, ⟨A, c, h1, h2, h3⟩, h4⟩, _⟩ := H.hr
  rcases h4 with ⟨e, _⟩ | ⟨b, e, hb, hm⟩
  · rw [e] at hk; cases hk
  · rw [e] at hk; injection hk with hk; subst hk; exact ⟨hb, map_lt hm⟩
theorem SchRaw.map2 (H : SchRaw w B s mf q1 m1 q2 m2 ks bs qs F xr xw) {k : Nat} (hk : m2 = some k) : B ≤ k ∧ ∃ es c, w.heap[k]? = some (.map es c) := by
  obtain ⟨X, Y, t, ns, f, ⟨hb, ⟨A, c, h1, h2, h3⟩, h4⟩, _⟩ := H.hw
  rcases h4 with ⟨e, _⟩ | ⟨b, e, hb, hm⟩
  · rw [e] at hk; cases hk
  · rw [e] at hk; injection hk with hk; subst hk; exact ⟨hb, map_lt hm⟩
theorem SchRaw.map0 (H : SchRaw w B s mf q1 m1 q2 m2 ks bs qs F xr xw) : ∃ es c, w.heap[mf]? = some (.map es c) := map_lt H.flows
/-- whatever turns none of its blocks -/
theorem SchRaw.turned {p : Nat → Prop} {w' : World} (H : SchRaw w B s mf q1 m1 q2 m2 ks bs qs F xr xw) (ht : Turned p w w') (hp : ∀ k, p k → ∀ o, w.heap[k]? = some o → ∃ cs T fr, o = .cells cs T fr ∧ ¬ TouchS T) : SchRaw w' B s mf q1 m1 q2 m2 ks bs qs F xr xw := by
  have hc : ∀ {k cs T}, w.heap[k]? = some (.cells cs T (0, 0)) → TouchS T → ¬ p k := fun hk hT e => by
    obtain ⟨cs', T', fr', e1, e2⟩ := hp _ e _ hk
    injection e1 with _ e3
    exact e2 (e3 ▸ hT)
  have hm : ∀ {k es c}, w.heap[k]? = some (.map es c) → ¬ p k := fun hk e => by
    obtain ⟨cs', T', fr', e1, e2⟩ := hp _ e _ hk
    cases e1
  obtain ⟨A1, c1, A2, c2, hrow⟩ := H.row
  obtain ⟨es0, k0, hm0⟩ := H.map0
  have hs : ¬ p s := hc hrow (.inl rfl)
  refine ⟨H.base, H.mfb, ?_, ?_, H.flows.turned ht (hm hm0), fun k hk => (H.st k hk).turned ht (hc (H.st k hk).2.1 (.inr (.inl rfl))) (fun g hg => by obtain ⟨_, cs, e⟩ := (H.st k hk).2.2.block hg; exact hc e (.inr (.inr (.inl rfl)))), H.inj, H.qinj, H.mm, H.qq, H.rise, H.bd, H.ok⟩
  · obtain ⟨X, Y, h⟩ := H.hr
    refine ⟨X, Y, h.turned ht ?_⟩
    rintro k (rfl | e | e)
    · exact hs
    · obtain ⟨_, cs, e⟩ := H.block1 e; exact hc e (.inr (.inr (.inr rfl)))
    · obtain ⟨_, es, c, e⟩ := H.map1 e; exact hm e
  · obtain ⟨X, Y, h⟩ := H.hw
    refine ⟨X, Y, h.turned ht ?_⟩
    rintro k (rfl | e | e)
    · exact hs
    · obtain ⟨_, cs, e⟩ := H.block2 e; exact hc e (.inr (.inr (.inr rfl)))
    · obtain ⟨_, es, c, e⟩ := H.map2 e; exact hm e
theorem SchRaw.below {w' : World} (H : SchRaw w B s mf q1 m1 q2 m2 ks bs qs F xr xw) (hb : Below w.heap.size w w') : SchRaw w' B s mf q1 m1 q2 m2 ks bs qs F xr xw := H.turned (p := fun _ => False) (.of_below hb) fun _ e => e.elim
/-- its first heap has turned -/
theorem SchRaw.setR {w' : World} {q1' m1' : Option Nat} {xr' : List Ent} {X Y : Value} (H : SchRaw w B s mf q1 m1 q2 m2 ks bs qs F xr xw) (h : HeapAt w' B (homeR s mf X Y) q1' m1' xr') (h0 : HeapAt w B (homeR s mf X Y) q1 m1 xr) (ht : Turned (Foot (homeR s mf X Y) q1 m1) w w')
    (hf : ∀ k, Foot (homeR s mf X Y) q1' m1' k → Foot (homeR s mf X Y) q1 m1 k ∨ w.heap.size ≤ k) : SchRaw w' B s mf q1' m1' q2 m2 ks bs qs F xr' xw ∧ KeptH B w w' := by
  obtain ⟨A1, c1, A2, c2, hrow⟩ := H.row
  obtain ⟨es0, k0, hm0⟩ := H.map0
  have hlt0 := (Array.getElem?_eq_some_iff.1 hm0).1
  -- what isn't one of its blocks
  have hno : ∀ {k : Nat} {o : Obj}, w.heap[k]? = some o → k ≠ s → (∀ cs, o ≠ .cells cs 88 (0, 0)) → m1 ≠ some k → ¬ Foot (homeR s mf X Y) q1 m1 k := by
    rintro k o ho h1 h2 h3 (e | e | e)
    · exact h1 e
    · obtain ⟨_, cs, e⟩ := H.block1 e
      rw [ho] at e; injection e with e; exact h2 cs e
    · exact h3 e
  have hnm : ∀ {k es c}, w.heap[k]? = some (.map es c) → m1 ≠ some k → ¬ Foot (homeR s mf X Y) q1 m1 k := fun hk h3 => hno hk (fun e => (cells_map hrow hk) e.symm) (fun cs e => by cases e) h3
  have hns : ∀ k ∈ ks, ¬ Foot (homeR s mf X Y) q1 m1 (bs k) := fun k hk => hno (H.st k hk).2.1 (cells_ne (H.st k hk).2.1 hrow (by decide)) (fun cs e => by injection e with _ e; exact absurd e (by decide)) (fun e => by obtain ⟨_, es, c, e⟩ := H.map1 e; exact cells_map (H.st k hk).2.1 e rfl)
  have hnq : ∀ k ∈ ks, ∀ g, (qs k).ownBlock = some g → ¬ Foot (homeR s mf X Y) q1 m1 g := fun k hk g hg => by
    obtain ⟨_, cs, e⟩ := (H.st k hk).2.2.block hg
    exact hno e (cells_ne e hrow (by decide)) (fun cs e => by injection e with _ e; exact absurd e (by decide)) (fun e2 => by obtain ⟨_, es, c, e2⟩ := H.map1 e2; exact cells_map e e2 rfl)
  have hn2 : ∀ k, q2 = some k ∨ m2 = some k → ¬ Foot (homeR s mf X Y) q1 m1 k := by
    rintro k (e | e) (e2 | e2 | e2)
    · obtain ⟨_, cs, e⟩ := H.block2 e; exact cells_ne e hrow (by decide) e2
    · exact H.qq k e2 e
    · obtain ⟨_, cs, e⟩ := H.block2 e; obtain ⟨_, es, c, e2⟩ := H.map1 e2; exact cells_map e e2 rfl
    · obtain ⟨_, es, c, e⟩ := H.map2 e; exact cells_map hrow e e2.symm
    · obtain ⟨_, es, c, e⟩ := H.map2 e; obtain ⟨_, cs, e2⟩ := H.block1 e2; exact cells_map e2 e rfl
    · exact H.mm.2.2 k e2 e
  obtain ⟨A1', c1', hrow'⟩ := h.len
  obtain ⟨A0, c0, hrow0⟩ := h0.len
  have hXY : X = .slice A2 xw.length c2 ∧ Y = .map m2 := by
    have e : some (Obj.cells #[.map (some mf), .slice A0 xr.length c0, .map m1, X, Y] 63 (0, 0)) = some (Obj.cells #[.map (some mf), .slice A1 xr.length c1, .map m1, .slice A2 xw.length c2, .map m2] 63 (0, 0)) := hrow0.symm.trans hrow
    injection e with e
    injection e with e
    injection e with e
    injection e with _ e
    injection e with _ e
    injection e with _ e
    injection e with eX e
    injection e with eY _
    exact ⟨eX, eY⟩
  obtain ⟨rfl, rfl⟩ := hXY
  have hrow2 : w'.heap[s]? = some (.cells #[.map (some mf), .slice A1' xr'.length c1', .map m1', .slice A2 xw.length c2, .map m2] 63 (0, 0)) := hrow'
  refine ⟨⟨H.base, H.mfb, ⟨_, _, h⟩, ?_, H.flows.turned ht (hnm hm0 H.mm.1), fun k hk => (H.st k hk).turned ht (hns k hk) (hnq k hk), H.inj, H.qinj, ⟨?_, H.mm.2.1, ?_⟩, ?_, H.rise, H.bd, H.ok⟩, ?_⟩
  · obtain ⟨X', Y', h2⟩ := H.hw
    refine ⟨.slice A1' xr'.length c1', .map m1', h2.rehome ht hn2 H.base fun A n c e => ?_⟩
    have e' : some (Obj.cells #[.map (some mf), X', Y', .slice A n c, .map m2] 63 (0, 0)) = some (Obj.cells #[.map (some mf), .slice A1 xr.length c1, .map m1, .slice A2 xw.length c2, .map m2] 63 (0, 0)) := e.symm.trans hrow
    injection e' with e'
    injection e' with e'
    injection e' with e'
    injection e' with _ e'
    injection e' with _ e'
    injection e' with _ e'
    injection e' with e' _
    rw [e']
    exact hrow2
  · intro e
    rcases hf mf (.inr (.inr e)) with e2 | e2
    · exact hnm hm0 H.mm.1 e2
    · omega
  · intro g e e3
    obtain ⟨_, es, c, h3⟩ := H.map2 e3
    have hlt := (Array.getElem?_eq_some_iff.1 h3).1
    rcases hf g (.inr (.inr e)) with e2 | e2
    · exact hn2 g (.inr e3) e2
    · omega
  · intro g e e3
    obtain ⟨_, cs, h3⟩ := H.block2 e3
    have hlt := (Array.getElem?_eq_some_iff.1 h3).1
    rcases hf g (.inr (.inl e)) with e2 | e2
    · exact hn2 g (.inl e3) e2
    · omega
  · refine KeptH.of_turned ht ?_
    rintro k hk (rfl | e | e)
    · exact ⟨H.base, .inl ⟨_, _, _, hrow, .inl rfl⟩⟩
    · obtain ⟨hB, cs, e⟩ := H.block1 e; exact ⟨hB, .inl ⟨_, _, _, e, .inr rfl⟩⟩
    · obtain ⟨hB, es, c, e⟩ := H.map1 e; exact ⟨hB, .inr ⟨_, _, e⟩⟩
/-- its second heap has turned -/
theorem SchRaw.setW {w' : World} {q2' m2' : Option Nat} {xw' : List Ent} {X Y : Value} (H : SchRaw w B s mf q1 m1 q2 m2 ks bs qs F xr xw) (h : HeapAt w' B (homeW s mf X Y) q2' m2' xw') (h0 : HeapAt w B (homeW s mf X Y) q2 m2 xw) (ht : Turned (Foot (homeW s mf X Y) q2 m2) w w')
    (hf : ∀ k, Foot (homeW s mf X Y) q2' m2' k → Foot (homeW s mf X Y) q2 m2 k ∨ w.heap.size ≤ k) : SchRaw w' B s mf q1 m1 q2' m2' ks bs qs F xr xw' ∧ KeptH B w w' := by
  obtain ⟨A1, c1, A2, c2, hrow⟩ := H.row
  obtain ⟨es0, k0, hm0⟩ := H.map0
  have hlt0 := (Array.getElem?_eq_some_iff.1 hm0).1
  have hno : ∀ {k : Nat} {o : Obj}, w.heap[k]? = some o → k ≠ s → (∀ cs, o ≠ .cells cs 88 (0, 0)) → m2 ≠ some k → ¬ Foot (homeW s mf X Y) q2 m2 k := by
    rintro k o ho h1 h2 h3 (e | e | e)
    · exact h1 e
    · obtain ⟨_, cs, e⟩ := H.block2 e
      rw [ho] at e; injection e with e; exact h2 cs e
    · exact h3 e
  have hnm : ∀ {k es c}, w.heap[k]? = some (.map es c) → m2 ≠ some k → ¬ Foot (homeW s mf X Y) q2 m2 k := fun hk h3 => hno hk (fun e => (cells_map hrow hk) e.symm) (fun cs e => by cases e) h3
  have hns : ∀ k ∈ ks, ¬ Foot (homeW s mf X Y) q2 m2 (bs k) := fun k hk => hno (H.st k hk).2.1 (cells_ne (H.st k hk).2.1 hrow (by decide)) (fun cs e => by injection e with _ e; exact absurd e (by decide)) (fun e => by obtain ⟨_, es, c, e⟩ := H.map2 e; exact cells_map (H.st k hk).2.1 e rfl)
  have hnq : ∀ k ∈ ks, ∀ g, (qs k).ownBlock = some g → ¬ Foot (homeW s mf X Y) q2 m2 g := fun k hk g hg => by
    obtain ⟨_, cs, e⟩ := (H.st k hk).2.2.block hg
    exact hno e (cells_ne e hrow (by decide)) (fun cs e => by injection e with _ e; exact absurd e (by decide)) (fun e2 => by obtain ⟨_, es, c, e2⟩ := H.map2 e2; exact cells_map e e2 rfl)
  have hn2 : ∀ k, q1 = some k ∨ m1 = some k → ¬ Foot (homeW s mf X Y) q2 m2 k := by
    rintro k (e | e) (e2 | e2 | e2)
    · obtain ⟨_, cs, e⟩ := H.block1 e; exact cells_ne e hrow (by decide) e2
    · exact H.qq k e e2
    · obtain ⟨_, cs, e⟩ := H.block1 e; obtain ⟨_, es, c, e2⟩ := H.map2 e2; exact cells_map e e2 rfl
    · obtain ⟨_, es, c, e⟩ := H.map1 e; exact cells_map hrow e e2.symm
    · obtain ⟨_, es, c, e⟩ := H.map1 e; obtain ⟨_, cs, e2⟩ := H.block2 e2; exact cells_map e2 e rfl
    · exact H.mm.2.2 k e e2
  obtain ⟨A1', c1', hrow'⟩ := h.len
  obtain ⟨A0, c0, hrow0⟩ := h0.len
  have hXY : X = .slice A1 xr.length c1 ∧ Y = .map m1 := by
    have e : some (Obj.cells #[.map (some mf), X, Y, .slice A0 xw.length c0, .map m2] 63 (0, 0)) = some (Obj.cells #[.map (some mf), .slice A1 xr.length c1, .map m1, .slice A2 xw.length c2, .map m2] 63 (0, 0)) := hrow0.symm.trans hrow
    injection e with e
    injection e with e
    injection e with e
    injection e with _ e
    injection e with eX e
    injection e with eY _
    exact ⟨eX, eY⟩
  obtain ⟨rfl, rfl⟩ := hXY
  have hrow2 : w'.heap[s]? = some (.cells #[.map (some mf), .slice A1 xr.length c1, .map m1, .slice A1' xw'.length c1', .map m2'] 63 (0, 0)) := hrow'
  refine ⟨⟨H.base, H.mfb, ?_, ⟨_, _, h⟩, H.flows.turned ht (hnm hm0 H.mm.2.1), fun k hk => (H.st k hk).turned ht (hns k hk) (hnq k hk), H.inj, H.qinj, ⟨H.mm.1, ?_, ?_⟩, ?_, H.rise, H.bd, H.ok⟩, ?_⟩
  · obtain ⟨X', Y', h2⟩ := H.hr
    refine ⟨.slice A1' xw'.length c1', .map m2', h2.rehome ht hn2 H.base fun A n c e => ?_⟩
    have e' : some (Obj.cells #[.map (some mf), .slice A n c, .map m1, X', Y'] 63 (0, 0)) = some (Obj.cells #[.map (some mf), .slice A1 xr.length c1, .map m1, .slice A2 xw.length c2, .map m2] 63 (0, 0)) := e.symm.trans hrow
    injection e' with e'
    injection e' with e'
    injection e' with e'
    injection e' with _ e'
    injection e' with e' _
    rw [e']
    exact hrow2
  · intro e
    rcases hf mf (.inr (.inr e)) with e2 | e2
    · exact hnm hm0 H.mm.2.1 e2
    · omega
  · intro g e3 e
    obtain ⟨_, es, c, h3⟩ := H.map1 e3
    have hlt := (Array.getElem?_eq_some_iff.1 h3).1
    rcases hf g (.inr (.inr e)) with e2 | e2
    · exact hn2 g (.inr e3) e2
    · omega
  · intro g e3 e
    obtain ⟨_, cs, h3⟩ := H.block1 e3
    have hlt := (Array.getElem?_eq_some_iff.1 h3).1
    rcases hf g (.inr (.inl e)) with e2 | e2
    · exact hn2 g (.inl e3) e2
    · omega
  · refine KeptH.of_turned ht ?_
    rintro k hk (rfl | e | e)
    · exact ⟨H.base, .inl ⟨_, _, _, hrow, .inl rfl⟩⟩
    · obtain ⟨hB, cs, e⟩ := H.block2 e; exact ⟨hB, .inl ⟨_, _, _, e, .inr rfl⟩⟩
    · obtain ⟨hB, es, c, e⟩ := H.map2 e; exact ⟨hB, .inr ⟨_, _, e⟩⟩
end
end Go.Proofs.YtbfjakchgmdldaaGreat
