/-
  Words for law04's argument, a slice of acts (records of two ints, a slice of bytes, a byte, a slice of ints): opened, and how it outlasts calls. No condition but what each lemma names.
-/
import Derived.Test.YtoffmnphcleeoaaFields
import Derived.Test.YtoffmnphcleeoaaSecS
namespace Go.Proofs.Ytoffmnphcleeoaa
open Go.ChangeShapes Go.WideShapes Go.ChangeAt Go.RowKit
set_option linter.unusedVariables false

structure ActD where
  t : Int
  i : Int
  x : UInt8
  A : Option Addr
  m : Nat
  c : Nat
  ks : List Int

/-- the act a at ⟨g, q⟩ -/
def ActAt (w : World) (g q : Nat) (a : ActD) : Prop :=
  w.cell? ⟨g, q, none⟩ = some (.int .i64 a.t) ∧ w.cell? ⟨g, q + 1, none⟩ = some (.int .i64 a.i) ∧ w.cell? ⟨g, q + 3, none⟩ = some (.int .u8 (a.x.toNat : Int)) ∧ w.cell? ⟨g, q + 4, none⟩ = some (.slice a.A a.m a.c) ∧ a.ks.length = a.m ∧ Seen w a.A (intsV a.ks) ∧
    -9223372036854775808 ≤ a.i ∧ a.i ≤ 9223372036854775807
/-- the slice that begins at A reads as l -/
def ActsAt (w : World) (A : Option Addr) (l : List ActD) : Prop :=
  l = [] ∨ ∃ g o, A = some ⟨g, o, none⟩ ∧ ∀ i a, l[i]? = some a → ActAt w g (o + i * 5) a

theorem ActAt.below {w w' : World} {g q : Nat} {a : ActD} (h : ActAt w g q a) (hb : Below w.heap.size w w') : ActAt w' g q a := by
  obtain ⟨h1, h2, h3, h4, h5, h6, h7, h8⟩ := h
  exact ⟨by rw [hb.cell (block_lt_of_cell h1)]; exact h1, by rw [hb.cell (block_lt_of_cell h2)]; exact h2, by rw [hb.cell (block_lt_of_cell h3)]; exact h3, by rw [hb.cell (block_lt_of_cell h4)]; exact h4, h5, h6.below hb, h7, h8⟩
theorem ActsAt.get {w : World} {A : Option Addr} {l : List ActD} (h : ActsAt w A l) {k : Nat} (hk : k < l.length) : ∃ g o a, A = some ⟨g, o, none⟩ ∧ l[k]? = some a ∧ ActAt w g (o + k * 5) a := by
  rcases h with rfl | ⟨g, o, hA, hc⟩
  · simp at hk
  · exact ⟨g, o, l[k], hA, List.getElem?_eq_getElem hk, hc k _ (List.getElem?_eq_getElem hk)⟩

section
variable {H : Type} {enc : TypeId × Value → H} {P : Program}
theorem ints_of_trod {W : World} {fuel : Nat} {v : Value} {x : DataW H × List MemPlace} {tb te : TypeId} (ht : P.underlying tb = some (.slice te)) (he : P.underlying te = some (.int .i64)) (hc : P.cellsOf te = 1)
    (hf : DataW.trod enc P W 0 (fun _ => true) true fuel tb [v] = some x) :
    ∃ A n c, ∃ ks : List Int, v = .slice A n c ∧ ks.length = n ∧ Seen W A (intsV ks) := by
  rcases open_ints ht he hc hf with ⟨hcs, hx⟩ | ⟨a, len', cap', zs, hcs, _, hl, hm, hz, hx, hcell, hwz⟩
  · simp at hcs
    subst hcs
    exact ⟨none, 0, 0, [], rfl, rfl, .inl rfl⟩
  · simp at hcs
    subst hcs
    simp only [if_true] at hz
    refine ⟨some a, len', cap', zs.take len', rfl, by simp; omega, ?_⟩
    by_cases h0 : len' = 0
    · subst h0
      exact .inl (by simp [intsV])
    · obtain ⟨g, o, spot⟩ := a
      have hspot : spot = none := by simpa [Addr.add] using World.cell?_spot (hcell 0 (by omega))
      subst hspot
      refine .inr ⟨g, o, rfl, fun j v hv => ?_⟩
      simp only [intsV, List.getElem?_map, Option.map_eq_some_iff] at hv
      obtain ⟨z, hzj, rfl⟩ := hv
      rw [List.getElem?_take] at hzj
      split at hzj
      · rename_i hj
        have h1 := hcell j (by omega)
        rw [Addr.add_lit] at h1
        rw [h1]
        have e : zs.getD j 0 = z := by rw [List.getD_eq_getElem?_getD, hzj]; rfl
        rw [e]
      · cases hzj
theorem open_acts {W : World} {base : Nat} {v : Value} {d : DataW H} {p : List MemPlace} {tl te ti : TypeId} {fs : Array Field} {f0 f1 f2 f3 f4 : Field} (hl : P.underlying tl = some (.slice te)) (he : P.underlying te = some (.struct fs)) (h0 : fs[0]? = some f0) (h1 : fs[1]? = some f1) (h2 : fs[2]? = some f2) (h3 : fs[3]? = some f3) (h4 : fs[4]? = some f4)
    (o0 : f0.offset = 0) (o1 : f1.offset = 1) (o3 : f3.offset = 3) (o4 : f4.offset = 4) (i0 : P.underlying f0.type = some (.int .i64)) (i1 : P.underlying f1.type = some (.int .i64)) (i3 : P.underlying f3.type = some (.int .u8)) (s4 : P.underlying f4.type = some (.slice ti)) (ui : P.underlying ti = some (.int .i64)) (ci : P.cellsOf ti = 1)
    (c0 : P.cellsOf f0.type = 1) (c1 : P.cellsOf f1.type = 1) (c3 : P.cellsOf f3.type = 1) (c4 : P.cellsOf f4.type = 1) (ce : P.cellsOf te = 5) (hval : Value.okWide P W .any base tl v) (h : DataW.Trod enc P W 0 (fun _ => true) true tl v d p) :
    ∃ A n c, ∃ l : List ActD, v = .slice A n c ∧ l.length = n ∧ n ≤ c ∧ c ≤ maxLen ∧ ActsAt W A l := by
  obtain ⟨a1, len, cap, rfl⟩ := okWide_slice hl hval
  obtain ⟨fuel, hf⟩ := h
  rcases Go.Deep.open_slice hl hf with ⟨hcs, hx⟩ | ⟨a, len', cap', m, n, D, Pl, hcs, _, hl1, hl2, hm, hx, hel⟩
  · simp [Value.cells] at hcs
    obtain ⟨rfl, rfl, rfl⟩ := hcs
    exact ⟨none, 0, 0, [], rfl, rfl, Nat.le_refl _, Nat.zero_le _, .inl rfl⟩
  · simp [Value.cells] at hcs
    obtain ⟨rfl, rfl, rfl⟩ := hcs
    simp only [if_true] at hm
    rw [ce] at hel
    by_cases hz : len = 0
    · subst hz
      exact ⟨some a, 0, cap, [], rfl, rfl, by omega, hl2, .inl rfl⟩
    have hspot : a.spot = none := by
      obtain ⟨cs', hc, _⟩ := hel 0 (by omega)
      obtain ⟨_, hcl, hat⟩ := World.cells?_some hc
      have h3 := hat 0 (by omega)
      rw [List.getElem?_eq_getElem (by omega)] at h3
      obtain ⟨g, o, sp⟩ := a
      simpa [Addr.add] using World.cell?_spot h3
    obtain ⟨g, o, sp⟩ := a
    simp only at hspot
    subst hspot
    obtain ⟨l, hll, hlp⟩ := list_of (n := len) (p := fun i f => ActAt W g (o + i * 5) f) (fun i hi => by
      obtain ⟨cs', hc, ht⟩ := hel i (by omega)
      obtain ⟨_, hcl, hat⟩ := World.cells?_some hc
      obtain ⟨xs, n', _, _, _, hxl, hg⟩ := DataW.trod_struct he ht
      have e0 := hg 0 f0 h0
      have e1 := hg 1 f1 h1
      have e3 := hg 3 f3 h3
      have e4 := hg 4 f4 h4
      rw [o0, c0] at e0
      rw [o1, c1] at e1
      rw [o3, c3] at e3
      rw [o4, c4] at e4
      match cs', hcl with
      | [x0, x1, x2, x3, x4], _ =>
        simp only [List.drop_zero, List.take_succ_cons, List.take_zero, List.drop_succ_cons] at e0 e1 e3 e4
        have hsz : ∀ j f, fs[j]? = some f → j < xs.length := fun j f hj => by rw [hxl]; exact (Array.getElem?_eq_some_iff.1 hj).1
        rw [List.getElem?_eq_getElem (hsz 0 _ h0)] at e0
        rw [List.getElem?_eq_getElem (hsz 1 _ h1)] at e1
        rw [List.getElem?_eq_getElem (hsz 3 _ h3)] at e3
        rw [List.getElem?_eq_getElem (hsz 4 _ h4)] at e4
        obtain ⟨v0, hb0, _, hw0⟩ := DataW.trod_int i0 e0
        obtain ⟨v1, hb1, _, hw1⟩ := DataW.trod_int i1 e1
        obtain ⟨v3, hb3, _, hw3⟩ := DataW.trod_int i3 e3
        obtain ⟨A2, n2, c2', ks, hs, g1, g2⟩ := ints_of_trod s4 ui ci e4
        simp only [List.cons.injEq, and_true] at hb0 hb1 hb3
        subst hb0; subst hb1; subst hb3; subst hs
        have q0 := hat 0 (by omega)
        have q1 := hat 1 (by omega)
        have q3 := hat 3 (by omega)
        have q4 := hat 4 (by omega)
        simp only [Addr.add_lit] at q0 q1 q3 q4
        have k1 := bounds_i64 hw1
        have k3 := bounds_u8 hw3
        have ex : v3 = ((UInt8.ofNat v3.toNat).toNat : Int) := by rw [UInt8.toNat_ofNat']; omega
        exact ⟨⟨v0, v1, UInt8.ofNat v3.toNat, A2, n2, c2', ks⟩, q0, q1, by rw [← ex]; exact q3, q4, g1, g2, k1.1, k1.2⟩)
    exact ⟨_, len, cap, l, rfl, hll, hl1, hl2, .inr ⟨g, o, rfl, hlp⟩⟩
end
end Go.Proofs.Ytoffmnphcleeoaa
