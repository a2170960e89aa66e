/-
  Words for arguments that are slices of slices of bytes, and slices of uint16: opened. They speak of no program of ours. No condition but what each lemma names.
-/
import Derived.Test.YtmlmkfooiikcgaaFields
import Derived.Test.YtmlmkfooiikcgaaTexts
namespace Go.Proofs.Ytmlmkfooiikcgaa
open Go.ChangeShapes Go.WideShapes Go.ChangeAt Go.RowKit
set_option linter.unusedVariables false

/-- lists of any length that came in -/
def ArgLists (w : World) (ls : List (Option Addr × Nat × Nat)) (ts : List (List UInt8)) : Prop :=
  ls.length = ts.length ∧ ∀ (i : Nat) A n c, ls[i]? = some (A, n, c) → ∃ b, ts[i]? = some b ∧ b.length = n ∧ Seen w A (bytesV b)
theorem ArgLists.below {w w' : World} {ls : List (Option Addr × Nat × Nat)} {ts : List (List UInt8)} (h : ArgLists w ls ts) (hb : Below w.heap.size w w') : ArgLists w' ls ts :=
  ⟨h.1, fun i A n c hi => by
    obtain ⟨b, h1, h2, h3⟩ := h.2 i A n c hi
    exact ⟨b, h1, h2, h3.below hb⟩⟩
theorem ArgLists.lists {w : World} {ls : List (Option Addr × Nat × Nat)} {ts : List (List UInt8)} (h : ArgLists w ls ts) (hs : ∀ (i : Nat) t, ts[i]? = some t → t.length ≤ 1000000) : Lists w ls ts :=
  ⟨h.1, fun i A n c hi => by
    obtain ⟨b, h1, h2, h3⟩ := h.2 i A n c hi
    exact ⟨b, h1, h2, by rw [← h2]; exact hs i b h1, h3⟩⟩
theorem ArgLists.at_ {w : World} {ls : List (Option Addr × Nat × Nat)} {ts : List (List UInt8)} (h : ArgLists w ls ts) {k : Nat} (hk : k < ts.length) :
    ∃ A n c t, ls[k]? = some (A, n, c) ∧ ts[k]? = some t ∧ t.length = n ∧ Seen w A (bytesV t) := by
  obtain ⟨A, n, c, e⟩ : ∃ A n c, ls[k]? = some (A, n, c) := ⟨_, _, _, List.getElem?_eq_getElem (by rw [h.1]; exact hk)⟩
  obtain ⟨t, h1, h2, h3⟩ := h.2 k A n c e
  exact ⟨A, n, c, t, e, h1, h2, h3⟩
/-- a slice of numbers -/
def u16V (xs : List Nat) : List Value := xs.map fun (x : Nat) => .int .u16 (x : Int)

section
variable {H : Type} {enc : TypeId × Value → H} {P : Program}
theorem open_texts {W : World} {base : Nat} {v : Value} {d : DataW H} {p : List MemPlace} {tl te tu : TypeId} (hl : P.underlying tl = some (.slice te)) (he : P.underlying te = some (.slice tu)) (hu : P.underlying tu = some (.int .u8)) (cu : P.cellsOf tu = 1) (ce : P.cellsOf te = 1)
    (hval : Value.okWide P W .any base tl v) (h : DataW.Trod enc P W 0 (fun _ => true) true tl v d p) :
    ∃ A n c, ∃ ls ts, v = .slice A n c ∧ ts.length = n ∧ n ≤ c ∧ c ≤ maxLen ∧ Seen W A (listsV ls) ∧ ArgLists W ls ts := by
  obtain ⟨a1, len, cap, rfl⟩ := okWide_slice hl hval
  obtain ⟨fuel, hf⟩ := h
  rcases Go.Deep.open_slice hl hf with ⟨hcs, hx⟩ | ⟨a, len', cap', m, n, D, Pl, hcs, _, hl1, hl2, hm, hx, hel⟩
  · simp [Value.cells] at hcs
    obtain ⟨rfl, rfl, rfl⟩ := hcs
    exact ⟨none, 0, 0, [], [], rfl, rfl, Nat.le_refl _, Nat.zero_le _, .inl rfl, rfl, fun i A n c h => by simp at h⟩
  · simp [Value.cells] at hcs
    obtain ⟨rfl, rfl, rfl⟩ := hcs
    simp only [if_true] at hm
    rw [ce] at hel
    by_cases hz : len = 0
    · subst hz
      exact ⟨some a, 0, cap, [], [], rfl, rfl, by omega, hl2, .inl rfl, rfl, fun i A n c h => by simp at h⟩
    have hspot : a.spot = none := by
      obtain ⟨cs', hc, _⟩ := hel 0 (by omega)
      obtain ⟨_, hcl, hat⟩ := World.cells?_some hc
      have h3 := hat 0 (by omega)
      rw [List.getElem?_eq_getElem (by omega)] at h3
      obtain ⟨g, o, sp⟩ := a
      simpa [Addr.add] using World.cell?_spot h3
    obtain ⟨g, o, sp⟩ := a
    simp only at hspot
    subst hspot
    obtain ⟨l, hll, hlp⟩ := list_of (n := len) (p := fun i (x : (Option Addr × Nat × Nat) × List UInt8) => W.cell? ⟨g, o + i, none⟩ = some (.slice x.1.1 x.1.2.1 x.1.2.2) ∧ x.2.length = x.1.2.1 ∧ Seen W x.1.1 (bytesV x.2)) (fun i hi => by
      obtain ⟨cs', hc, ht⟩ := hel i (by omega)
      obtain ⟨_, hcl, hat⟩ := World.cells?_some hc
      match cs', hcl with
      | [x0], _ =>
        obtain ⟨A2, n2, c2, bs2, hs, g1, g2, g3, g4⟩ := bytes_of_trod he hu cu ht
        have h3 := hat 0 (by simp)
        subst hs
        refine ⟨((A2, n2, c2), bs2), ?_, g1, g4⟩
        rw [show i * 1 = i by omega, Addr.add_lit, Addr.add_lit, Nat.add_zero] at h3
        simpa using h3)
    refine ⟨some ⟨g, o, none⟩, len, cap, l.map (·.1), l.map (·.2), rfl, by simp [hll], by omega, hl2, .inr ⟨g, o, rfl, fun j v hv => ?_⟩, by simp, fun i A n c hi => ?_⟩
    · simp only [listsV, List.map_map, List.getElem?_map, Option.map_eq_some_iff] at hv
      obtain ⟨x, hx, rfl⟩ := hv
      exact (hlp j x hx).1
    · simp only [List.getElem?_map, Option.map_eq_some_iff] at hi ⊢
      obtain ⟨x, hx, e⟩ := hi
      have := hlp i x hx
      rw [e] at this
      exact ⟨x.2, ⟨x, hx, rfl⟩, this.2.1, this.2.2⟩

theorem open_u16s {W : World} {base : Nat} {v : Value} {d : DataW H} {p : List MemPlace} {tb te : TypeId} (ht : P.underlying tb = some (.slice te)) (he : P.underlying te = some (.int .u16)) (hc : P.cellsOf te = 1)
    (hval : Value.okWide P W .any base tb v) (h : DataW.Trod enc P W 0 (fun _ => true) true tb v d p) :
    ∃ A n c, ∃ xs : List Nat, v = .slice A n c ∧ xs.length = n ∧ n ≤ c ∧ c ≤ maxLen ∧ Seen W A (u16V xs) ∧ ∀ x ∈ xs, x < 65536 := by
  obtain ⟨a1, len, cap, rfl⟩ := okWide_slice ht hval
  obtain ⟨fuel, hf⟩ := h
  rcases open_ints ht he hc hf with ⟨hcs, hx⟩ | ⟨a, len', cap', zs, hcs, _, hl, hm, hz, hx, hcell, hwz⟩
  · simp [Value.cells] at hcs
    obtain ⟨rfl, rfl, rfl⟩ := hcs
    exact ⟨none, 0, 0, [], rfl, rfl, Nat.le_refl _, Nat.zero_le _, .inl rfl, fun x h => by cases h⟩
  · simp [Value.cells] at hcs
    obtain ⟨rfl, rfl, rfl⟩ := hcs
    simp only [if_true] at hz
    have hbd : ∀ z ∈ zs, 0 ≤ z ∧ z < 65536 := fun z hz' => by
      have := bounds_u16 (hwz z hz')
      omega
    refine ⟨some a, len, cap, (zs.take len).map fun z => z.toNat, rfl, by simp; omega, hl, hm, ?_, fun x hx' => ?_⟩
    · by_cases h0 : len = 0
      · subst h0
        exact .inl (by simp [u16V])
      · obtain ⟨g, o, spot⟩ := a
        have hspot : spot = none := by simpa [Addr.add] using World.cell?_spot (hcell 0 (by omega))
        subst hspot
        refine .inr ⟨g, o, rfl, fun j v hv => ?_⟩
        simp only [u16V, List.map_map, List.getElem?_map, Option.map_eq_some_iff] at hv
        obtain ⟨z, hzj, rfl⟩ := hv
        rw [List.getElem?_take] at hzj
        split at hzj
        · rename_i hj
          have h1 := hcell j (by omega)
          rw [Addr.add_lit] at h1
          rw [h1]
          have e : zs.getD j 0 = z := by rw [List.getD_eq_getElem?_getD, hzj]; rfl
          have hb := hbd z (List.mem_of_getElem? hzj)
          rw [e]
          simp only [Function.comp]
          congr 2
          omega
        · cases hzj
    · simp only [List.mem_map] at hx'
      obtain ⟨z, hz', rfl⟩ := hx'
      have := hbd z (List.mem_of_mem_take hz')
      omega
end
end Go.Proofs.Ytmlmkfooiikcgaa
