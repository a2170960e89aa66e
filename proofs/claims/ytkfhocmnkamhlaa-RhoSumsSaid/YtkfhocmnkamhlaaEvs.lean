/-
  Words for law13's argument, a slice of events (records of two ints): opened, and how it outlasts calls. No condition but what each lemma names.
-/
import Derived.Test.YtkfhocmnkamhlaaFields
import Derived.Test.YtkfhocmnkamhlaaNums
import Derived.Test.YtkfhocmnkamhlaaRhoMath
namespace Go.Proofs.Ytkfhocmnkamhlaa
open Go.ChangeShapes Go.WideShapes Go.ChangeAt Go.RowKit
set_option linter.unusedVariables false

/-- the act a at ⟨g, q⟩ -/
def EvAt (w : World) (g q : Nat) (a : Ev) : Prop :=
  w.cell? ⟨g, q, none⟩ = some (.int .i64 a.1) ∧ w.cell? ⟨g, q + 1, none⟩ = some (.int .i64 a.2) ∧ In64 a.1 ∧ In64 a.2
/-- the slice that begins at A reads as l -/
def EvsAt (w : World) (A : Option Addr) (l : List Ev) : Prop :=
  l = [] ∨ ∃ g o, A = some ⟨g, o, none⟩ ∧ ∀ i a, l[i]? = some a → EvAt w g (o + i * 2) a
theorem EvAt.below {w w' : World} {g q : Nat} {a : Ev} (h : EvAt w g q a) (hb : Below w.heap.size w w') : EvAt w' g q a := by
  obtain ⟨h1, h2, h4, h5⟩ := h
  exact ⟨by rw [hb.cell (block_lt_of_cell h1)]; exact h1, by rw [hb.cell (block_lt_of_cell h2)]; exact h2, h4, h5⟩
theorem EvsAt.below {w w' : World} {A : Option Addr} {l : List Ev} (h : EvsAt w A l) (hb : Below w.heap.size w w') : EvsAt w' A l := by
  rcases h with h | ⟨g, o, hA, hc⟩
  · exact .inl h
  · exact .inr ⟨g, o, hA, fun i f hi => (hc i f hi).below hb⟩
theorem EvsAt.take {w : World} {A : Option Addr} {l : List Ev} (h : EvsAt w A l) (k : Nat) : EvsAt w A (l.take k) := by
  rcases h with h | ⟨g, o, hA, hc⟩
  · exact .inl (by rw [h]; simp)
  · exact .inr ⟨g, o, hA, fun i f hi => hc i f (by rw [List.getElem?_take] at hi; split at hi; exact hi; cases hi)⟩
theorem EvsAt.get {w : World} {A : Option Addr} {l : List Ev} (h : EvsAt w A l) {k : Nat} (hk : k < l.length) : ∃ g o a, A = some ⟨g, o, none⟩ ∧ l[k]? = some a ∧ EvAt w g (o + k * 2) a := by
  rcases h with rfl | ⟨g, o, hA, hc⟩
  · simp at hk
  · exact ⟨g, o, l[k], hA, List.getElem?_eq_getElem hk, hc k _ (List.getElem?_eq_getElem hk)⟩

section
variable {H : Type} {enc : TypeId × Value → H} {P : Program}
theorem open_evs {W : World} {base : Nat} {v : Value} {d : DataW H} {p : List MemPlace} {tl te : TypeId} {fs : Array Field} {f0 f1 : Field} (hl : P.underlying tl = some (.slice te)) (he : P.underlying te = some (.struct fs)) (h0 : fs[0]? = some f0) (h1 : fs[1]? = some f1)
    (o0 : f0.offset = 0) (o1 : f1.offset = 1) (i0 : P.underlying f0.type = some (.int .i64)) (i1 : P.underlying f1.type = some (.int .i64))
    (c0 : P.cellsOf f0.type = 1) (c1 : P.cellsOf f1.type = 1) (ce : P.cellsOf te = 2) (hval : Value.okWide P W .any base tl v) (h : DataW.Trod enc P W 0 (fun _ => true) true tl v d p) :
    ∃ A n c, ∃ l : List Ev, v = .slice A n c ∧ l.length = n ∧ n ≤ c ∧ c ≤ maxLen ∧ EvsAt W A l := by
  obtain ⟨a1, len, cap, rfl⟩ := okWide_slice hl hval
  obtain ⟨fuel, hf⟩ := h
  rcases Go.Deep.open_slice hl hf with ⟨hcs, hx⟩ | ⟨a, len', cap', m, n, D, Pl, hcs, _, hl1, hl2, hm, hx, hel⟩
  · simp [Value.cells] at hcs
    obtain ⟨rfl, rfl, rfl⟩ := hcs
    exact ⟨none, 0, 0, [], rfl, rfl, Nat.le_refl _, Nat.zero_le _, .inl rfl⟩
  · simp [Value.cells] at hcs
    obtain ⟨rfl, rfl, rfl⟩ := hcs
    simp only [if_true] at hm
    rw [ce] at hel
    by_cases hz : len = 0
    · subst hz
      exact ⟨some a, 0, cap, [], rfl, rfl, by omega, hl2, .inl rfl⟩
    have hspot : a.spot = none := by
      obtain ⟨cs', hc, _⟩ := hel 0 (by omega)
      obtain ⟨_, hcl, hat⟩ := World.cells?_some hc
      have h3 := hat 0 (by omega)
      rw [List.getElem?_eq_getElem (by omega)] at h3
      obtain ⟨g, o, sp⟩ := a
      simpa [Addr.add] using World.cell?_spot h3
    obtain ⟨g, o, sp⟩ := a
    simp only at hspot
    subst hspot
    obtain ⟨l, hll, hlp⟩ := list_of (n := len) (p := fun i f => EvAt W g (o + i * 2) f) (fun i hi => by
      obtain ⟨cs', hc, ht⟩ := hel i (by omega)
      obtain ⟨_, hcl, hat⟩ := World.cells?_some hc
      obtain ⟨xs, n', _, _, _, hxl, hg⟩ := DataW.trod_struct he ht
      have e0 := hg 0 f0 h0
      have e1 := hg 1 f1 h1
      rw [o0, c0] at e0
      rw [o1, c1] at e1
      match cs', hcl with
      | [x0, x1], _ =>
        simp only [List.drop_zero, List.take_succ_cons, List.take_zero, List.drop_succ_cons] at e0 e1
        have hsz : ∀ j f, fs[j]? = some f → j < xs.length := fun j f hj => by rw [hxl]; exact (Array.getElem?_eq_some_iff.1 hj).1
        rw [List.getElem?_eq_getElem (hsz 0 _ h0)] at e0
        rw [List.getElem?_eq_getElem (hsz 1 _ h1)] at e1
        obtain ⟨v0, hb0, _, hw0⟩ := DataW.trod_int i0 e0
        obtain ⟨v1, hb1, _, hw1⟩ := DataW.trod_int i1 e1
        simp only [List.cons.injEq, and_true] at hb0 hb1
        subst hb0; subst hb1
        have q0 := hat 0 (by omega)
        have q1 := hat 1 (by omega)
        simp only [Addr.add_lit] at q0 q1
        have k0 := bounds_i64 hw0
        have k1 := bounds_i64 hw1
        exact ⟨(v0, v1), q0, q1, ⟨k0.1, k0.2⟩, ⟨k1.1, k1.2⟩⟩)
    exact ⟨_, len, cap, l, rfl, hll, hl1, hl2, .inr ⟨g, o, rfl, hlp⟩⟩
end
end Go.Proofs.Ytkfhocmnkamhlaa
