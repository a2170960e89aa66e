/-
  Words for an argument that is a slice of acts of four ints: opened. They speak of no program of ours. No condition but what each lemma names.
-/
import Derived.Test.YtkjfaijdmpnjkaaFields
import Derived.Test.YtkjfaijdmpnjkaaNums
import Derived.Test.YtkjfaijdmpnjkaaKept
import Derived.Test.YtkjfaijdmpnjkaaLaw
import Derived.Deep.MidRow
import Derived.Deep.WholeRow
namespace Go.Proofs.Ytkjfaijdmpnjkaa
open Go.ChangeShapes Go.WideShapes Go.ChangeAt Go.RowKit
set_option linter.unusedVariables false

structure Act9 where
  d : Int
  c : Int
  n : Int
  e : Int
def In9 (a : Act9) : Prop := In64 a.d ∧ In64 a.c ∧ In64 a.n ∧ In64 a.e
/-- the act a at ⟨g, q⟩ -/
def Act9At (w : World) (g q : Nat) (a : Act9) : Prop :=
  w.cell? ⟨g, q, none⟩ = some (.int .i64 a.d) ∧ w.cell? ⟨g, q + 1, none⟩ = some (.int .i64 a.c) ∧ w.cell? ⟨g, q + 2, none⟩ = some (.int .i64 a.n) ∧ w.cell? ⟨g, q + 3, none⟩ = some (.int .i64 a.e) ∧ In9 a
/-- the slice that begins at A reads as l -/
def Acts9At (w : World) (A : Option Addr) (l : List Act9) : Prop :=
  l = [] ∨ ∃ g o, A = some ⟨g, o, none⟩ ∧ ∀ i a, l[i]? = some a → Act9At w g (o + i * 4) a
theorem Act9At.below {w w' : World} {g q : Nat} {p : Act9} (h : Act9At w g q p) (hb : Below w.heap.size w w') : Act9At w' g q p := by
  obtain ⟨h1, h2, h3, h4, h5⟩ := h
  exact ⟨by rw [hb.cell (block_lt_of_cell h1)]; exact h1, by rw [hb.cell (block_lt_of_cell h2)]; exact h2, by rw [hb.cell (block_lt_of_cell h3)]; exact h3, by rw [hb.cell (block_lt_of_cell h4)]; exact h4, h5⟩
theorem Acts9At.get {w : World} {A : Option Addr} {l : List Act9} (h : Acts9At w A l) {i : Nat} (hi : i < l.length) : ∃ g o a, A = some ⟨g, o, none⟩ ∧ l[i]? = some a ∧ Act9At w g (o + i * 4) a := by
  rcases h with rfl | ⟨g, o, hA, hc⟩
  · simp at hi
  · exact ⟨g, o, l[i], hA, List.getElem?_eq_getElem hi, hc i _ (List.getElem?_eq_getElem hi)⟩

section
variable {H : Type} {enc : TypeId × Value → H} {P : Program}
theorem open_acts9 {W : World} {base : Nat} {v : Value} {d : DataW H} {p : List MemPlace} {tl te : TypeId} {fs : Array Field} {f0 f1 f2 f3 : Field} (hl : P.underlying tl = some (.slice te)) (he : P.underlying te = some (.struct fs)) (h0 : fs[0]? = some f0) (h1 : fs[1]? = some f1) (h2 : fs[2]? = some f2) (h3 : fs[3]? = some f3)
    (o0 : f0.offset = 0) (o1 : f1.offset = 1) (o2 : f2.offset = 2) (o3 : f3.offset = 3) (i0 : P.underlying f0.type = some (.int .i64)) (i1 : P.underlying f1.type = some (.int .i64)) (i2 : P.underlying f2.type = some (.int .i64)) (i3 : P.underlying f3.type = some (.int .i64))
    (c0 : P.cellsOf f0.type = 1) (c1 : P.cellsOf f1.type = 1) (c2 : P.cellsOf f2.type = 1) (c3 : P.cellsOf f3.type = 1) (ce : P.cellsOf te = 4) (hval : Value.okWide P W .any base tl v) (h : DataW.Trod enc P W 0 (fun _ => true) true tl v d p) :
    ∃ A n c, ∃ l : List Act9, v = .slice A n c ∧ l.length = n ∧ n ≤ c ∧ c ≤ maxLen ∧ Acts9At W A l := by
  obtain ⟨a1, len, cap, rfl⟩ := okWide_slice hl hval
  obtain ⟨fuel, hf⟩ := h
  rcases Go.Deep.open_slice hl hf with ⟨hcs, hx⟩ | ⟨a, len', cap', m, n, D, Pl, hcs, _, hl1, hl2, hm, hx, hel⟩
  · simp [Value.cells] at hcs
    obtain ⟨rfl, rfl, rfl⟩ := hcs
    exact ⟨none, 0, 0, [], rfl, rfl, Nat.le_refl _, Nat.zero_le _, .inl rfl⟩
  · simp [Value.cells] at hcs
    obtain ⟨rfl, rfl, rfl⟩ := hcs
    simp only [if_true] at hm
    rw [ce] at hel
    by_cases hz : len = 0
    · subst hz
      exact ⟨some a, 0, cap, [], rfl, rfl, by omega, hl2, .inl rfl⟩
    have hspot : a.spot = none := by
      obtain ⟨cs', hc, _⟩ := hel 0 (by omega)
      obtain ⟨_, hcl, hat⟩ := World.cells?_some hc
      have h3 := hat 0 (by omega)
      rw [List.getElem?_eq_getElem (by omega)] at h3
      obtain ⟨g, o, sp⟩ := a
      simpa [Addr.add] using World.cell?_spot h3
    obtain ⟨g, o, sp⟩ := a
    simp only at hspot
    subst hspot
    obtain ⟨l, hll, hlp⟩ := list_of (n := len) (p := fun i f => Act9At W g (o + i * 4) f) (fun i hi => by
      obtain ⟨cs', hc, ht⟩ := hel i (by omega)
      obtain ⟨_, hcl, hat⟩ := World.cells?_some hc
      obtain ⟨xs, n', _, _, _, hxl, hg⟩ := DataW.trod_struct he ht
      have e0 := hg 0 f0 h0
      have e1 := hg 1 f1 h1
      have e2 := hg 2 f2 h2
      have e3 := hg 3 f3 h3
      rw [o0, c0] at e0
      rw [o1, c1] at e1
      rw [o2, c2] at e2
      rw [o3, c3] at e3
      match cs', hcl with
      | [x0, x1, x2, x3], _ =>
        simp only [List.drop_zero, List.take_succ_cons, List.take_zero, List.drop_succ_cons] at e0 e1 e2 e3
        have hsz : ∀ j f, fs[j]? = some f → j < xs.length := fun j f hj => by rw [hxl]; exact (Array.getElem?_eq_some_iff.1 hj).1
        rw [List.getElem?_eq_getElem (hsz 0 _ h0)] at e0
        rw [List.getElem?_eq_getElem (hsz 1 _ h1)] at e1
        rw [List.getElem?_eq_getElem (hsz 2 _ h2)] at e2
        rw [List.getElem?_eq_getElem (hsz 3 _ h3)] at e3
        obtain ⟨v0, hb0, _, hw0⟩ := DataW.trod_int i0 e0
        obtain ⟨v1, hb1, _, hw1⟩ := DataW.trod_int i1 e1
        obtain ⟨v2, hb2, _, hw2⟩ := DataW.trod_int i2 e2
        obtain ⟨v3, hb3, _, hw3⟩ := DataW.trod_int i3 e3
        simp only [List.cons.injEq, and_true] at hb0 hb1 hb2 hb3
        subst hb0; subst hb1; subst hb2; subst hb3
        have q0 := hat 0 (by omega)
        have q1 := hat 1 (by omega)
        have q2 := hat 2 (by omega)
        have q3 := hat 3 (by omega)
        simp only [Addr.add_lit] at q0 q1 q2 q3
        have k0 := bounds_i64 hw0; have k1 := bounds_i64 hw1; have k2 := bounds_i64 hw2; have k3 := bounds_i64 hw3
        exact ⟨⟨v0, v1, v2, v3⟩, q0, q1, q2, q3, ⟨k0.1, k0.2⟩, ⟨k1.1, k1.2⟩, ⟨k2.1, k2.2⟩, ⟨k3.1, k3.2⟩⟩)
    exact ⟨_, len, cap, l, rfl, hll, hl1, hl2, .inr ⟨g, o, rfl, hlp⟩⟩
end
end Go.Proofs.Ytkjfaijdmpnjkaa
