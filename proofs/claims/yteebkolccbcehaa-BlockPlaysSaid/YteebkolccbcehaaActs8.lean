/-
  Words for law21's arguments, slices of acts (records of two ints and a slice of bytes), and an array of 16 bytes: opened, and how it outlasts calls. No condition but what each lemma names.
-/
import Derived.Test.YteebkolccbcehaaFields
namespace Go.Proofs.Yteebkolccbcehaa
open Go.ChangeShapes Go.WideShapes Go.ChangeAt Go.RowKit
set_option linter.unusedVariables false

structure Act8 where
  t : Int
  i : Int
  A : Option Addr
  n : Nat
  c : Nat
  bs : List UInt8

/-- the act a at ⟨g, q⟩ -/
structure Act8At (w : World) (g q : Nat) (a : Act8) : Prop where
  c0 : w.cell? ⟨g, q, none⟩ = some (.int .i64 a.t)
  c1 : w.cell? ⟨g, q + 1, none⟩ = some (.int .i64 a.i)
  c2 : w.cell? ⟨g, q + 2, none⟩ = some (.slice a.A a.n a.c)
  bl : a.bs.length = a.n
  bn : a.n ≤ a.c
  bm : a.c ≤ maxLen
  bs : Seen w a.A (bytesV a.bs)
  lo : -9223372036854775808 ≤ a.i
  hi : a.i ≤ 9223372036854775807
/-- the slice that begins at A reads as l -/
def Acts8At (w : World) (A : Option Addr) (l : List Act8) : Prop :=
  l = [] ∨ ∃ g o, A = some ⟨g, o, none⟩ ∧ ∀ i a, l[i]? = some a → Act8At w g (o + i * 3) a
theorem Acts8At.get {w : World} {A : Option Addr} {l : List Act8} (h : Acts8At w A l) {k : Nat} (hk : k < l.length) : ∃ g o a, A = some ⟨g, o, none⟩ ∧ l[k]? = some a ∧ Act8At w g (o + k * 3) a := by
  rcases h with rfl | ⟨g, o, hA, hc⟩
  · simp at hk
  · exact ⟨g, o, l[k], hA, List.getElem?_eq_getElem hk, hc k _ (List.getElem?_eq_getElem hk)⟩

section
variable {H : Type} {enc : TypeId × Value → H} {P : Program}
theorem open_acts8 {W : World} {base : Nat} {v : Value} {d : DataW H} {p : List MemPlace} {tl te tu : TypeId} {fs : Array Field} {f0 f1 f2 : Field} (hl : P.underlying tl = some (.slice te)) (he : P.underlying te = some (.struct fs)) (h0 : fs[0]? = some f0) (h1 : fs[1]? = some f1) (h2 : fs[2]? = some f2)
    (o0 : f0.offset = 0) (o1 : f1.offset = 1) (o2 : f2.offset = 2) (i0 : P.underlying f0.type = some (.int .i64)) (i1 : P.underlying f1.type = some (.int .i64)) (s2 : P.underlying f2.type = some (.slice tu)) (u2 : P.underlying tu = some (.int .u8))
    (cu : P.cellsOf tu = 1) (c0 : P.cellsOf f0.type = 1) (c1 : P.cellsOf f1.type = 1) (c2 : P.cellsOf f2.type = 1) (ce : P.cellsOf te = 3) (hval : Value.okWide P W .any base tl v) (h : DataW.Trod enc P W 0 (fun _ => true) true tl v d p) :
    ∃ A n c, ∃ l : List Act8, v = .slice A n c ∧ l.length = n ∧ n ≤ c ∧ c ≤ maxLen ∧ Acts8At W A l := by
  obtain ⟨a1, len, cap, rfl⟩ := okWide_slice hl hval
  obtain ⟨fuel, hf⟩ := h
  rcases Go.Deep.open_slice hl hf with ⟨hcs, hx⟩ | ⟨a, len', cap', m, n, D, Pl, hcs, _, hl1, hl2, hm, hx, hel⟩
  · simp [Value.cells] at hcs
    obtain ⟨rfl, rfl, rfl⟩ := hcs
    exact ⟨none, 0, 0, [], rfl, rfl, Nat.le_refl _, Nat.zero_le _, .inl rfl⟩
  · simp [Value.cells] at hcs
    obtain ⟨rfl, rfl, rfl⟩ := hcs
    simp only [if_true] at hm
    rw [ce] at hel
    by_cases hz : len = 0
    · subst hz
      exact ⟨some a, 0, cap, [], rfl, rfl, by omega, hl2, .inl rfl⟩
    have hspot : a.spot = none := by
      obtain ⟨cs', hc, _⟩ := hel 0 (by omega)
      obtain ⟨_, hcl, hat⟩ := World.cells?_some hc
      have h3 := hat 0 (by omega)
      rw [List.getElem?_eq_getElem (by omega)] at h3
      obtain ⟨g, o, sp⟩ := a
      simpa [Addr.add] using World.cell?_spot h3
    obtain ⟨g, o, sp⟩ := a
    simp only at hspot
    subst hspot
    obtain ⟨l, hll, hlp⟩ := list_of (n := len) (p := fun i f => Act8At W g (o + i * 3) f) (fun i hi => by
      obtain ⟨cs', hc, ht⟩ := hel i (by omega)
      obtain ⟨_, hcl, hat⟩ := World.cells?_some hc
      obtain ⟨xs, n', _, _, _, hxl, hg⟩ := DataW.trod_struct he ht
      have e0 := hg 0 f0 h0
      have e1 := hg 1 f1 h1
      have e2 := hg 2 f2 h2
      rw [o0, c0] at e0
      rw [o1, c1] at e1
      rw [o2, c2] at e2
      match cs', hcl with
      | [x0, x1, x2], _ =>
        simp only [List.drop_zero, List.take_succ_cons, List.take_zero, List.drop_succ_cons] at e0 e1 e2
        have hsz : ∀ j f, fs[j]? = some f → j < xs.length := fun j f hj => by rw [hxl]; exact (Array.getElem?_eq_some_iff.1 hj).1
        rw [List.getElem?_eq_getElem (hsz 0 _ h0)] at e0
        rw [List.getElem?_eq_getElem (hsz 1 _ h1)] at e1
        rw [List.getElem?_eq_getElem (hsz 2 _ h2)] at e2
        obtain ⟨v0, hb0, _, hw0⟩ := DataW.trod_int i0 e0
        obtain ⟨v1, hb1, _, hw1⟩ := DataW.trod_int i1 e1
        obtain ⟨A2, n2, c2', bs2, hs2, g1, g2, g3, g4⟩ := bytes_of_trod s2 u2 cu e2
        simp only [List.cons.injEq, and_true] at hb0 hb1
        subst hb0; subst hb1; subst hs2
        have q0 := hat 0 (by omega)
        have q1 := hat 1 (by omega)
        have q2 := hat 2 (by omega)
        simp only [Addr.add_lit] at q0 q1 q2
        have kk := bounds_i64 hw1
        exact ⟨⟨v0, v1, A2, n2, c2', bs2⟩, q0, q1, q2, g1, g2, g3, g4, kk.1, kk.2⟩)
    exact ⟨_, len, cap, l, rfl, hll, hl1, hl2, .inr ⟨g, o, rfl, hlp⟩⟩
theorem Act8At.keep {w w' : World} {g q : Nat} {a : Act8} (h : Act8At w g q a) (hb : Below w.heap.size w w') : Act8At w' g q a :=
  ⟨(hb.cell (p := ⟨g, q, none⟩) (block_lt_of_cell h.c0)).trans h.c0, (hb.cell (p := ⟨g, q + 1, none⟩) (block_lt_of_cell h.c1)).trans h.c1, (hb.cell (p := ⟨g, q + 2, none⟩) (block_lt_of_cell h.c2)).trans h.c2, h.bl, h.bn, h.bm, h.bs.below hb, h.lo, h.hi⟩
theorem Acts8At.below {w w' : World} {A : Option Addr} {l : List Act8} (h : Acts8At w A l) (hb : Below w.heap.size w w') : Acts8At w' A l := by
  rcases h with h | ⟨g, o, hA, hc⟩
  · exact .inl h
  · exact .inr ⟨g, o, hA, fun i a hi => (hc i a hi).keep hb⟩
/-- an array of bytes, opened -/
theorem okWide_arr {t : TypeId} {n : Nat} {e : TypeId} {r : Reach} {base : Nat} {w : World} {v : Value} (ht : P.underlying t = some (.array n e)) (h : Value.okWide P w r base t v) : ∃ cs, v = .agg cs ∧ cs.size = P.cellsOf t := by
  simp only [Value.okWide, ht] at h
  obtain ⟨cs, h1, h2, _⟩ := h
  exact ⟨cs, h1, h2⟩
theorem open_arr16 {W : World} {base : Nat} {v : Value} {d : DataW H} {p : List MemPlace} {tl te : TypeId} (hl : P.underlying tl = some (.array 16 te)) (he : P.underlying te = some (.int .u8)) (c0 : P.cellsOf te = 1) (ce : P.cellsOf tl = 16)
    (hval : Value.okWide P W .any base tl v) (h : DataW.Trod enc P W 0 (fun _ => true) true tl v d p) : ∃ bs : List UInt8, v = .agg (bytesV bs).toArray ∧ bs.length = 16 := by
  obtain ⟨cs, rfl, hsz⟩ := okWide_arr hl hval
  rw [ce] at hsz
  obtain ⟨fuel, hf⟩ := h
  obtain ⟨xs, n', _, _, _, hxl, hg⟩ := DataW.trod_array hl hf
  obtain ⟨bs, hbl, hb⟩ := list_of (n := 16) (p := fun i (b : UInt8) => cs[i]? = some (byteV b)) (fun i hi => by
    have e := hg i hi
    rw [c0, Nat.mul_one, List.getElem?_eq_getElem (by omega)] at e
    obtain ⟨v0, b0, _, w0⟩ := DataW.trod_int he e
    have kb := bounds_u8 w0
    have hlen : i < cs.toList.length := by simp; omega
    simp only [Value.cells] at b0
    rw [List.drop_eq_getElem_cons hlen, List.take_succ_cons, List.take_zero] at b0
    simp only [List.cons.injEq, and_true] at b0
    refine ⟨UInt8.ofNat v0.toNat, ?_⟩
    rw [Array.getElem?_eq_getElem (by omega)]
    rw [show cs[i] = cs.toList[i] from by simp, b0]
    simp only [byteV, UInt8.toNat_ofNat']
    congr 2
    omega)
  refine ⟨bs, ?_, hbl⟩
  congr 1
  apply Array.ext_getElem?
  intro i
  have e : (bytesV bs).toArray[i]? = (bs[i]?).map byteV := by simp [bytesV]
  rw [e]
  by_cases hi : i < 16
  · rw [hb i bs[i] (List.getElem?_eq_getElem (by omega)), List.getElem?_eq_getElem (by omega)]
    rfl
  · rw [Array.getElem?_eq_none (by omega), List.getElem?_eq_none (by omega)]
    rfl
end
end Go.Proofs.Yteebkolccbcehaa
