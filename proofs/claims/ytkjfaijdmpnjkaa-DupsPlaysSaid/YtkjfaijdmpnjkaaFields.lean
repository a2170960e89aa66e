/-
  Words for an argument that is a slice of records of a bool, an int and a slice of bytes: opened, and how it outlasts calls. They speak of no program of ours. No condition but what each lemma names.
-/
import Derived.Test.YtkjfaijdmpnjkaaKept
import Derived.Deep.Slices
import Derived.Deep.Fields
import Derived.ChangeSame
namespace Go.Proofs.Ytkjfaijdmpnjkaa
open Go.ChangeShapes Go.WideShapes Go.ChangeAt Go.RowKit
set_option linter.unusedVariables false

structure Fld where
  t : Bool
  n : Int
  A : Option Addr
  m : Nat
  c : Nat
  bs : List UInt8

/-- the record f at ⟨g, q⟩ -/
def FldAt (w : World) (g q : Nat) (f : Fld) : Prop :=
  w.cell? ⟨g, q, none⟩ = some (.bool f.t) ∧ w.cell? ⟨g, q + 1, none⟩ = some (.int .i64 f.n) ∧ w.cell? ⟨g, q + 2, none⟩ = some (.slice f.A f.m f.c) ∧ f.bs.length = f.m ∧ f.m ≤ f.c ∧ f.c ≤ maxLen ∧ Seen w f.A (bytesV f.bs) ∧ -9223372036854775808 ≤ f.n ∧ f.n ≤ 9223372036854775807
/-- the slice that begins at A reads as fs -/
def FldsAt (w : World) (A : Option Addr) (fs : List Fld) : Prop :=
  fs = [] ∨ ∃ g o, A = some ⟨g, o, none⟩ ∧ ∀ i f, fs[i]? = some f → FldAt w g (o + i * 3) f

theorem FldAt.below {w w' : World} {g q : Nat} {f : Fld} (h : FldAt w g q f) (hb : Below w.heap.size w w') : FldAt w' g q f := by
  obtain ⟨h1, h2, h3, h4, h5, h6, h7, h8, h9⟩ := h
  exact ⟨by rw [hb.cell (block_lt_of_cell h1)]; exact h1, by rw [hb.cell (block_lt_of_cell h2)]; exact h2, by rw [hb.cell (block_lt_of_cell h3)]; exact h3, h4, h5, h6, h7.below hb, h8, h9⟩
theorem FldsAt.below {w w' : World} {A : Option Addr} {fs : List Fld} (h : FldsAt w A fs) (hb : Below w.heap.size w w') : FldsAt w' A fs := by
  rcases h with h | ⟨g, o, hA, hc⟩
  · exact .inl h
  · exact .inr ⟨g, o, hA, fun i f hi => (hc i f hi).below hb⟩
theorem FldsAt.get {w : World} {A : Option Addr} {fs : List Fld} (h : FldsAt w A fs) {k : Nat} (hk : k < fs.length) : ∃ g o f, A = some ⟨g, o, none⟩ ∧ fs[k]? = some f ∧ fs.take (k + 1) = fs.take k ++ [f] ∧ FldAt w g (o + k * 3) f := by
  rcases h with rfl | ⟨g, o, hA, hc⟩
  · simp at hk
  · exact ⟨g, o, fs[k], hA, List.getElem?_eq_getElem hk, List.take_succ_eq_append_getElem hk, hc k _ (List.getElem?_eq_getElem hk)⟩

theorem list_of {α : Type} {n : Nat} {p : Nat → α → Prop} (h : ∀ i, i < n → ∃ x, p i x) : ∃ l : List α, l.length = n ∧ ∀ i x, l[i]? = some x → p i x := by
  induction n with
  | zero => exact ⟨[], rfl, fun i x e => by simp at e⟩
  | succ n ih =>
    obtain ⟨l, hl, hp⟩ := ih fun i hi => h i (by omega)
    obtain ⟨x, hx⟩ := h n (by omega)
    refine ⟨l ++ [x], by simp [hl], fun i y e => ?_⟩
    rw [List.getElem?_append] at e
    split at e
    · exact hp i y e
    · rename_i hi
      rw [List.getElem?_eq_some_iff] at e
      obtain ⟨h1, h2⟩ := e
      have : i - l.length = 0 := by simpa using h1
      have hin : i = n := by omega
      subst hin
      simp [this] at h2
      subst h2
      exact hx

section
variable {H : Type} {enc : TypeId × Value → H} {P : Program}
theorem bytes_of_trod {W : World} {fuel : Nat} {v : Value} {x : DataW H × List MemPlace} {tb te : TypeId} (ht : P.underlying tb = some (.slice te)) (he : P.underlying te = some (.int .u8)) (hc : P.cellsOf te = 1)
    (hf : DataW.trod enc P W 0 (fun _ => true) true fuel tb [v] = some x) :
    ∃ A n c, ∃ bs : List UInt8, v = .slice A n c ∧ bs.length = n ∧ n ≤ c ∧ c ≤ maxLen ∧ Seen W A (bytesV bs) := by
  rcases open_ints ht he hc hf with ⟨hcs, hx⟩ | ⟨a, len', cap', zs, hcs, _, hl, hm, hz, hx, hcell, hwz⟩
  · simp at hcs
    subst hcs
    exact ⟨none, 0, 0, [], rfl, rfl, Nat.le_refl _, Nat.zero_le _, .inl rfl⟩
  · simp at hcs
    subst hcs
    simp only [if_true] at hz
    refine ⟨some a, len', cap', (zs.take len').map fun z => UInt8.ofNat z.toNat, rfl, by simp; omega, hl, hm, ?_⟩
    by_cases h0 : len' = 0
    · subst h0
      exact .inl (by simp [bytesV])
    · obtain ⟨g, o, spot⟩ := a
      have hspot : spot = none := by simpa [Addr.add] using World.cell?_spot (hcell 0 (by omega))
      subst hspot
      refine .inr ⟨g, o, rfl, fun j v hv => ?_⟩
      simp only [bytesV, List.map_map, List.getElem?_map, Option.map_eq_some_iff] at hv
      obtain ⟨z, hzj, rfl⟩ := hv
      rw [List.getElem?_take] at hzj
      split at hzj
      · rename_i hj
        have h1 := hcell j (by omega)
        rw [Addr.add_lit] at h1
        rw [h1]
        have e : zs.getD j 0 = z := by rw [List.getD_eq_getElem?_getD, hzj]; rfl
        have hb := bounds_u8 (hwz z (List.mem_of_getElem? hzj))
        rw [e]
        simp only [Function.comp, byteV, UInt8.toNat_ofNat']
        congr 2
        omega
      · cases hzj
theorem open_fields {W : World} {base : Nat} {v : Value} {d : DataW H} {p : List MemPlace} {tl te tu : TypeId} {fs : Array Field} {f0 f1 f2 : Field} (hl : P.underlying tl = some (.slice te)) (he : P.underlying te = some (.struct fs)) (h0 : fs[0]? = some f0) (h1 : fs[1]? = some f1) (h2 : fs[2]? = some f2)
    (o0 : f0.offset = 0) (o1 : f1.offset = 1) (o2 : f2.offset = 2) (b : P.underlying f0.type = some .bool) (i1 : P.underlying f1.type = some (.int .i64)) (s2 : P.underlying f2.type = some (.slice tu)) (u2 : P.underlying tu = some (.int .u8)) (cu : P.cellsOf tu = 1)
    (c0 : P.cellsOf f0.type = 1) (c1 : P.cellsOf f1.type = 1) (c2 : P.cellsOf f2.type = 1) (ce : P.cellsOf te = 3) (hval : Value.okWide P W .any base tl v) (h : DataW.Trod enc P W 0 (fun _ => true) true tl v d p) :
    ∃ A n c, ∃ fs : List Fld, v = .slice A n c ∧ fs.length = n ∧ n ≤ c ∧ c ≤ maxLen ∧ FldsAt W A fs := by
  obtain ⟨a1, len, cap, rfl⟩ := okWide_slice hl hval
  obtain ⟨fuel, hf⟩ := h
  rcases Go.Deep.open_slice hl hf with ⟨hcs, hx⟩ | ⟨a, len', cap', m, n, D, Pl, hcs, _, hl1, hl2, hm, hx, hel⟩
  · simp [Value.cells] at hcs
    obtain ⟨rfl, rfl, rfl⟩ := hcs
    exact ⟨none, 0, 0, [], rfl, rfl, Nat.le_refl _, Nat.zero_le _, .inl rfl⟩
  · simp [Value.cells] at hcs
    obtain ⟨rfl, rfl, rfl⟩ := hcs
    simp only [if_true] at hm
    rw [ce] at hel
    by_cases hz : len = 0
    · subst hz
      exact ⟨some a, 0, cap, [], rfl, rfl, by omega, hl2, .inl rfl⟩
    have hspot : a.spot = none := by
      obtain ⟨cs', hc, _⟩ := hel 0 (by omega)
      obtain ⟨_, hcl, hat⟩ := World.cells?_some hc
      have h3 := hat 0 (by omega)
      rw [List.getElem?_eq_getElem (by omega)] at h3
      obtain ⟨g, o, sp⟩ := a
      simpa [Addr.add] using World.cell?_spot h3
    obtain ⟨g, o, sp⟩ := a
    simp only at hspot
    subst hspot
    obtain ⟨l, hll, hlp⟩ := list_of (n := len) (p := fun i f => FldAt W g (o + i * 3) f) (fun i hi => by
      obtain ⟨cs', hc, ht⟩ := hel i (by omega)
      obtain ⟨_, hcl, hat⟩ := World.cells?_some hc
      obtain ⟨xs, n', _, _, _, hxl, hg⟩ := DataW.trod_struct he ht
      have e0 := hg 0 f0 h0
      have e1 := hg 1 f1 h1
      have e2 := hg 2 f2 h2
      rw [o0, c0] at e0
      rw [o1, c1] at e1
      rw [o2, c2] at e2
      match cs', hcl with
      | [x0, x1, x2], _ =>
        simp only [List.drop_zero, List.take_succ_cons, List.take_zero, List.drop_succ_cons] at e0 e1 e2
        have hsz : ∀ j f, fs[j]? = some f → j < xs.length := fun j f hj => by rw [hxl]; exact (Array.getElem?_eq_some_iff.1 hj).1
        rw [List.getElem?_eq_getElem (hsz 0 _ h0)] at e0
        rw [List.getElem?_eq_getElem (hsz 1 _ h1)] at e1
        rw [List.getElem?_eq_getElem (hsz 2 _ h2)] at e2
        obtain ⟨bv, hb, _⟩ := DataW.trod_bool b e0
        obtain ⟨nv, hn, _, hw⟩ := DataW.trod_int i1 e1
        obtain ⟨A2, n2, c2', bs2, hs, g1, g2, g3, g4⟩ := bytes_of_trod s2 u2 cu e2
        simp only [List.cons.injEq, and_true] at hb hn
        subst hb; subst hn; subst hs
        have q0 := hat 0 (by omega)
        have q1 := hat 1 (by omega)
        have q2 := hat 2 (by omega)
        simp only [Addr.add_lit] at q0 q1 q2
        have hw2 := bounds_i64 hw
        exact ⟨⟨bv, nv, A2, n2, c2', bs2⟩, q0, q1, q2, g1, g2, g3, g4, hw2.1, hw2.2⟩)
    exact ⟨_, len, cap, l, rfl, hll, hl1, hl2, .inr ⟨g, o, rfl, hlp⟩⟩
end
end Go.Proofs.Ytkjfaijdmpnjkaa
