/-
  Words for law08's argument, a slice of acts (records of two ints and a letter): opened. No condition but what each lemma names.
-/
import Derived.Test.YtbialoaphgmigaaFields
namespace Go.Proofs.Ytbialoaphgmigaa
open Go.ChangeShapes Go.WideShapes Go.ChangeAt Go.RowKit
set_option linter.unusedVariables false

structure Act5 where
  d : Int
  cl : Int
  f : Int
  t : Int
  A : Option Addr
  n : Nat
  c : Nat
  bs : List UInt8

/-- the act a at ⟨g, q⟩ -/
structure Act5At (w : World) (g q : Nat) (a : Act5) : Prop where
  c0 : w.cell? ⟨g, q, none⟩ = some (.int .i64 a.d)
  c1 : w.cell? ⟨g, q + 1, none⟩ = some (.int .i64 a.cl)
  c2 : w.cell? ⟨g, q + 2, none⟩ = some (.int .i64 a.f)
  c3 : w.cell? ⟨g, q + 3, none⟩ = some (.int .i64 a.t)
  c4 : w.cell? ⟨g, q + 4, none⟩ = some (.slice a.A a.n a.c)
  bl : a.bs.length = a.n
  bm : a.n ≤ maxLen
  bs : Seen w a.A (bytesV a.bs)
/-- the slice that begins at A reads as l -/
def Acts5At (w : World) (A : Option Addr) (l : List Act5) : Prop :=
  l = [] ∨ ∃ g o, A = some ⟨g, o, none⟩ ∧ ∀ i a, l[i]? = some a → Act5At w g (o + i * 5) a
theorem Acts5At.get {w : World} {A : Option Addr} {l : List Act5} (h : Acts5At w A l) {k : Nat} (hk : k < l.length) : ∃ g o a, A = some ⟨g, o, none⟩ ∧ l[k]? = some a ∧ Act5At w g (o + k * 5) a := by
  rcases h with rfl | ⟨g, o, hA, hc⟩
  · simp at hk
  · exact ⟨g, o, l[k], hA, List.getElem?_eq_getElem hk, hc k _ (List.getElem?_eq_getElem hk)⟩
theorem Act5At.below {w w' : World} {g q : Nat} {a : Act5} (h : Act5At w g q a) (hb : Below w.heap.size w w') : Act5At w' g q a :=
  ⟨by rw [hb.cell (block_lt_of_cell h.c0)]; exact h.c0, by rw [hb.cell (block_lt_of_cell h.c1)]; exact h.c1, by rw [hb.cell (block_lt_of_cell h.c2)]; exact h.c2, by rw [hb.cell (block_lt_of_cell h.c3)]; exact h.c3, by rw [hb.cell (block_lt_of_cell h.c4)]; exact h.c4, h.bl, h.bm, h.bs.below hb⟩

section
variable {H : Type} {enc : TypeId × Value → H} {P : Program}
theorem open_acts5 {W : World} {base : Nat} {v : Value} {d : DataW H} {p : List MemPlace} {tl te tu : TypeId} {fs ls : Array Field} {f0 f1 f2 l0 l1 l2 : Field} (hl : P.underlying tl = some (.slice te)) (he : P.underlying te = some (.struct fs)) (h0 : fs[0]? = some f0) (h1 : fs[1]? = some f1) (h2 : fs[2]? = some f2)
    (o0 : f0.offset = 0) (o1 : f1.offset = 1) (o2 : f2.offset = 2) (i0 : P.underlying f0.type = some (.int .i64)) (i1 : P.underlying f1.type = some (.int .i64)) (s2 : P.underlying f2.type = some (.struct ls)) (g0 : ls[0]? = some l0) (g1 : ls[1]? = some l1) (g2 : ls[2]? = some l2)
    (p0 : l0.offset = 0) (p1 : l1.offset = 1) (p2 : l2.offset = 2) (j0 : P.underlying l0.type = some (.int .i64)) (j1 : P.underlying l1.type = some (.int .i64)) (k2 : P.underlying l2.type = some (.slice tu)) (u2 : P.underlying tu = some (.int .u8))
    (cu : P.cellsOf tu = 1) (c0 : P.cellsOf f0.type = 1) (c1 : P.cellsOf f1.type = 1) (c2 : P.cellsOf f2.type = 3) (d0 : P.cellsOf l0.type = 1) (d1 : P.cellsOf l1.type = 1) (d2 : P.cellsOf l2.type = 1) (ce : P.cellsOf te = 5) (hval : Value.okWide P W .any base tl v) (h : DataW.Trod enc P W 0 (fun _ => true) true tl v d p) :
    ∃ A n c, ∃ l : List Act5, v = .slice A n c ∧ l.length = n ∧ n ≤ c ∧ c ≤ maxLen ∧ Acts5At W A l := by
  obtain ⟨a1, len, cap, rfl⟩ := okWide_slice hl hval
  obtain ⟨fuel, hf⟩ := h
  rcases Go.Deep.open_slice hl hf with ⟨hcs, hx⟩ | ⟨a, len', cap', m, n, D, Pl, hcs, _, hl1, hl2, hm, hx, hel⟩
  · simp [Value.cells] at hcs
    obtain ⟨rfl, rfl, rfl⟩ := hcs
    exact ⟨none, 0, 0, [], rfl, rfl, Nat.le_refl _, Nat.zero_le _, .inl rfl⟩
  · simp [Value.cells] at hcs
    obtain ⟨rfl, rfl, rfl⟩ := hcs
    simp only [if_true] at hm
    rw [ce] at hel
    by_cases hz : len = 0
    · subst hz
      exact ⟨some a, 0, cap, [], rfl, rfl, by omega, hl2, .inl rfl⟩
    have hspot : a.spot = none := by
      obtain ⟨cs', hc, _⟩ := hel 0 (by omega)
      obtain ⟨_, hcl, hat⟩ := World.cells?_some hc
      have h3 := hat 0 (by omega)
      rw [List.getElem?_eq_getElem (by omega)] at h3
      obtain ⟨g, o, sp⟩ := a
      simpa [Addr.add] using World.cell?_spot h3
    obtain ⟨g, o, sp⟩ := a
    simp only at hspot
    subst hspot
    obtain ⟨l, hll, hlp⟩ := list_of (n := len) (p := fun i f => Act5At W g (o + i * 5) f) (fun i hi => by
      obtain ⟨cs', hc, ht⟩ := hel i (by omega)
      obtain ⟨_, hcl, hat⟩ := World.cells?_some hc
      obtain ⟨xs, n', _, _, _, hxl, hg⟩ := DataW.trod_struct he ht
      have e0 := hg 0 f0 h0
      have e1 := hg 1 f1 h1
      have e2 := hg 2 f2 h2
      rw [o0, c0] at e0
      rw [o1, c1] at e1
      rw [o2, c2] at e2
      match cs', hcl with
      | [x0, x1, x2, x3, x4], _ =>
        simp only [List.drop_zero, List.take_succ_cons, List.take_zero, List.drop_succ_cons] at e0 e1 e2
        have hsz : ∀ j f, fs[j]? = some f → j < xs.length := fun j f hj => by rw [hxl]; exact (Array.getElem?_eq_some_iff.1 hj).1
        rw [List.getElem?_eq_getElem (hsz 0 _ h0)] at e0
        rw [List.getElem?_eq_getElem (hsz 1 _ h1)] at e1
        rw [List.getElem?_eq_getElem (hsz 2 _ h2)] at e2
        obtain ⟨v0, hb0, _, hw0⟩ := DataW.trod_int i0 e0
        obtain ⟨v1, hb1, _, hw1⟩ := DataW.trod_int i1 e1
        obtain ⟨ys, n'', _, _, _, hyl, hgl⟩ := DataW.trod_struct s2 e2
        have q0 := hgl 0 l0 g0
        have q1 := hgl 1 l1 g1
        have q2 := hgl 2 l2 g2
        rw [p0, d0] at q0
        rw [p1, d1] at q1
        rw [p2, d2] at q2
        simp only [List.drop_zero, List.take_succ_cons, List.take_zero, List.drop_succ_cons] at q0 q1 q2
        have hsy : ∀ j f, ls[j]? = some f → j < ys.length := fun j f hj => by rw [hyl]; exact (Array.getElem?_eq_some_iff.1 hj).1
        rw [List.getElem?_eq_getElem (hsy 0 _ g0)] at q0
        rw [List.getElem?_eq_getElem (hsy 1 _ g1)] at q1
        rw [List.getElem?_eq_getElem (hsy 2 _ g2)] at q2
        obtain ⟨v2, hb2, _, hw2⟩ := DataW.trod_int j0 q0
        obtain ⟨v3, hb3, _, hw3⟩ := DataW.trod_int j1 q1
        obtain ⟨A2, n2, c2', bs2, hs2, r1, r2, r3, r4⟩ := bytes_of_trod k2 u2 cu q2
        simp only [List.cons.injEq, and_true] at hb0 hb1 hb2 hb3
        subst hb0; subst hb1; subst hb2; subst hb3; subst hs2
        have t0 := hat 0 (by omega)
        have t1 := hat 1 (by omega)
        have t2 := hat 2 (by omega)
        have t3 := hat 3 (by omega)
        have t4 := hat 4 (by omega)
        simp only [Addr.add_lit] at t0 t1 t2 t3 t4
        exact ⟨⟨v0, v1, v2, v3, A2, n2, c2', bs2⟩, t0, t1, t2, t3, t4, r1, by show n2 ≤ maxLen; omega, r4⟩)
    exact ⟨_, len, cap, l, rfl, hll, hl1, hl2, .inr ⟨g, o, rfl, hlp⟩⟩
end
end Go.Proofs.Ytbialoaphgmigaa
