/-
  Words for law06's argument, a slice of acts (records of two ints, a slice of bytes, a slice of ints): opened, and how it outlasts calls. No condition but what each lemma names.
-/
import Derived.Test.YtjekcaoonaniaaaGreatFields
import Derived.Test.YtjekcaoonaniaaaGreatSecS
namespace Go.Proofs.YtjekcaoonaniaaaGreat
open Go.ChangeShapes Go.WideShapes Go.ChangeAt Go.RowKit
set_option linter.unusedVariables false

structure Act4 where
  t : Int
  i : Int
  A : Option Addr
  n : Nat
  c : Nat
  bs : List UInt8
  K : Option Addr
  m : Nat
  d : Nat
  ks : List Int

/-- the act a at ⟨g, q⟩ -/
structure Act4At (w : World) (g q : Nat) (a : Act4) : Prop where
  c0 : w.cell? ⟨g, q, none⟩ = some (.int .i64 a.t)
  c1 : w.cell? ⟨g, q + 1, none⟩ = some (.int .i64 a.i)
  c2 : w.cell? ⟨g, q + 2, none⟩ = some (.slice a.A a.n a.c)
  c3 : w.cell? ⟨g, q + 3, none⟩ = some (.slice a.K a.m a.d)
  bl : a.bs.length = a.n
  bm : a.n ≤ maxLen
  bs : Seen w a.A (bytesV a.bs)
  kl : a.ks.length = a.m
  ks : Seen w a.K (intsV a.ks)
  lo : -9223372036854775808 ≤ a.i
  hi : a.i ≤ 9223372036854775807
/-- the slice that begins at A reads as l -/
def Acts4At (w : World) (A : Option Addr) (l : List Act4) : Prop :=
  l = [] ∨ ∃ g o, A = some ⟨g, o, none⟩ ∧ ∀ i a, l[i]? = some a → Act4At w g (o + i * 4) a
theorem Acts4At.get {w : World} {A : Option Addr} {l : List Act4} (h : Acts4At w A l) {k : Nat} (hk : k < l.length) : ∃ g o a, A = some ⟨g, o, none⟩ ∧ l[k]? = some a ∧ Act4At w g (o + k * 4) a := by
  rcases h with rfl | ⟨g, o, hA, hc⟩
  · simp at hk
  · exact ⟨g, o, l[k], hA, List.getElem?_eq_getElem hk, hc k _ (List.getElem?_eq_getElem hk)⟩

section
variable {H : Type} {enc : TypeId × Value → H} {P : Program}
theorem ints4_of_trod {W : World} {fuel : Nat} {v : Value} {x : DataW H × List MemPlace} {tb te : TypeId} (ht : P.underlying tb = some (.slice te)) (he : P.underlying te = some (.int .i64)) (hc : P.cellsOf te = 1)
    (hf : DataW.trod enc P W 0 (fun _ => true) true fuel tb [v] = some x) :
    ∃ A n c, ∃ ks : List Int, v = .slice A n c ∧ ks.length = n ∧ Seen W A (intsV ks) := by
  rcases open_ints ht he hc hf with ⟨hcs, hx⟩ | ⟨a, len', cap', zs, hcs, _, hl, hm, hz, hx, hcell, hwz⟩
  · simp at hcs
    subst hcs
    exact ⟨none, 0, 0, [], rfl, rfl, .inl rfl⟩
  · simp at hcs
    subst hcs
    simp only [if_true] at hz
    refine ⟨some a, len', cap', zs.take len', rfl, by simp; omega, ?_⟩
    by_cases h0 : len' = 0
    · subst h0
      exact .inl (by simp [intsV])
    · obtain ⟨g, o, spot⟩ := a
      have hspot : spot = none := by simpa [Addr.add] using World.cell?_spot (hcell 0 (by omega))
      subst hspot
      refine .inr ⟨g, o, rfl, fun j v hv => ?_⟩
      simp only [intsV, List.getElem?_map, Option.map_eq_some_iff] at hv
      obtain ⟨z, hzj, rfl⟩ := hv
      rw [List.getElem?_take] at hzj
      split at hzj
      · rename_i hj
        have h1 := hcell j (by omega)
        rw [Addr.add_lit] at h1
        rw [h1]
        have e : zs.getD j 0 = z := by rw [List.getD_eq_getElem?_getD, hzj]; rfl
        rw [e]
      · cases hzj
theorem open_acts4 {W : World} {base : Nat} {v : Value} {d : DataW H} {p : List MemPlace} {tl te ti tu : TypeId} {fs : Array Field} {f0 f1 f2 f3 : Field} (hl : P.underlying tl = some (.slice te)) (he : P.underlying te = some (.struct fs)) (h0 : fs[0]? = some f0) (h1 : fs[1]? = some f1) (h2 : fs[2]? = some f2) (h3 : fs[3]? = some f3)
    (o0 : f0.offset = 0) (o1 : f1.offset = 1) (o2 : f2.offset = 2) (o3 : f3.offset = 3) (i0 : P.underlying f0.type = some (.int .i64)) (i1 : P.underlying f1.type = some (.int .i64)) (s2 : P.underlying f2.type = some (.slice tu)) (u2 : P.underlying tu = some (.int .u8)) (s3 : P.underlying f3.type = some (.slice ti)) (u3 : P.underlying ti = some (.int .i64))
    (cu : P.cellsOf tu = 1) (ci : P.cellsOf ti = 1) (c0 : P.cellsOf f0.type = 1) (c1 : P.cellsOf f1.type = 1) (c2 : P.cellsOf f2.type = 1) (c3 : P.cellsOf f3.type = 1) (ce : P.cellsOf te = 4) (hval : Value.okWide P W .any base tl v) (h : DataW.Trod enc P W 0 (fun _ => true) true tl v d p) :
    ∃ A n c, ∃ l : List Act4, v = .slice A n c ∧ l.length = n ∧ n ≤ c ∧ c ≤ maxLen ∧ Acts4At W A l := by
  obtain ⟨a1, len, cap, rfl⟩ := okWide_slice hl hval
  obtain ⟨fuel, hf⟩ := h
  rcases Go.Deep.open_slice hl hf with ⟨hcs, hx⟩ | ⟨a, len', cap', m, n, D, Pl, hcs, _, hl1, hl2, hm, hx, hel⟩
  · simp [Value.cells] at hcs
    obtain ⟨rfl, rfl, rfl⟩ := hcs
    exact ⟨none, 0, 0, [], rfl, rfl, Nat.le_refl _, Nat.zero_le _, .inl rfl⟩
  · simp [Value.cells] at hcs
    obtain ⟨rfl, rfl, rfl⟩ := hcs
    simp only [if_true] at hm
    rw [ce] at hel
    by_cases hz : len = 0
    · subst hz
      exact ⟨some a, 0, cap, [], rfl, rfl, by omega, hl2, .inl rfl⟩
    have hspot : a.spot = none := by
      obtain ⟨cs', hc, _⟩ := hel 0 (by omega)
      obtain ⟨_, hcl, hat⟩ := World.cells?_some hc
      have h3 := hat 0 (by omega)
      rw [List.getElem?_eq_getElem (by omega)] at h3
      obtain ⟨g, o, sp⟩ := a
      simpa [Addr.add] using World.cell?_spot h3
    obtain ⟨g, o, sp⟩ := a
    simp only at hspot
    subst hspot
    obtain ⟨l, hll, hlp⟩ := list_of (n := len) (p := fun i f => Act4At W g (o + i * 4) f) (fun i hi => by
      obtain ⟨cs', hc, ht⟩ := hel i (by omega)
      obtain ⟨_, hcl, hat⟩ := World.cells?_some hc
      obtain ⟨xs, n', _, _, _, hxl, hg⟩ := DataW.trod_struct he ht
      have e0 := hg 0 f0 h0
      have e1 := hg 1 f1 h1
      have e2 := hg 2 f2 h2
      have e3 := hg 3 f3 h3
      rw [o0, c0] at e0
      rw [o1, c1] at e1
      rw [o2, c2] at e2
      rw [o3, c3] at e3
      match cs', hcl with
      | [x0, x1, x2, x3], _ =>
        simp only [List.drop_zero, List.take_succ_cons, List.take_zero, List.drop_succ_cons] at e0 e1 e2 e3
        have hsz : ∀ j f, fs[j]? = some f → j < xs.length := fun j f hj => by rw [hxl]; exact (Array.getElem?_eq_some_iff.1 hj).1
        rw [List.getElem?_eq_getElem (hsz 0 _ h0)] at e0
        rw [List.getElem?_eq_getElem (hsz 1 _ h1)] at e1
        rw [List.getElem?_eq_getElem (hsz 2 _ h2)] at e2
        rw [List.getElem?_eq_getElem (hsz 3 _ h3)] at e3
        obtain ⟨v0, hb0, _, hw0⟩ := DataW.trod_int i0 e0
        obtain ⟨v1, hb1, _, hw1⟩ := DataW.trod_int i1 e1
        obtain ⟨A2, n2, c2', bs2, hs2, g1, g2, g3, g4⟩ := bytes_of_trod s2 u2 cu e2
        obtain ⟨A3, n3, c3', ks, hs3, k1, k2⟩ := ints4_of_trod s3 u3 ci e3
        simp only [List.cons.injEq, and_true] at hb0 hb1
        subst hb0; subst hb1; subst hs2; subst hs3
        have q0 := hat 0 (by omega)
        have q1 := hat 1 (by omega)
        have q2 := hat 2 (by omega)
        have q3 := hat 3 (by omega)
        simp only [Addr.add_lit] at q0 q1 q2 q3
        have kk := bounds_i64 hw1
        exact ⟨⟨v0, v1, A2, n2, c2', bs2, A3, n3, c3', ks⟩, q0, q1, q2, q3, g1, by show n2 ≤ maxLen; omega, g4, k1, k2, kk.1, kk.2⟩)
    exact ⟨_, len, cap, l, rfl, hll, hl1, hl2, .inr ⟨g, o, rfl, hlp⟩⟩
end
end Go.Proofs.YtjekcaoonaniaaaGreat
