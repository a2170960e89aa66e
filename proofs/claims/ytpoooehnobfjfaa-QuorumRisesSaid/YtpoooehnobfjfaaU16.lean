/-
  Words for arguments that are slices of uint16: opened. They speak of no program of ours. (The same words lie in OpenTexts: a claim takes one of both.) No condition but what each lemma names.
-/
import Derived.Test.YtpoooehnobfjfaaFields
namespace Go.Proofs.Ytpoooehnobfjfaa
open Go.ChangeShapes Go.WideShapes Go.ChangeAt Go.RowKit
set_option linter.unusedVariables false

/-- a slice of numbers -/
def u16V (xs : List Nat) : List Value := xs.map fun (x : Nat) => .int .u16 (x : Int)
theorem u16V_length (xs : List Nat) : (u16V xs).length = xs.length := by simp [u16V]
theorem Seen.u16 {w : World} {A : Option Addr} {xs : List Nat} (h : Seen w A (u16V xs)) {j : Nat} (hj : j < xs.length) :
    ∃ g o x, A = some ⟨g, o, none⟩ ∧ xs[j]? = some x ∧ w.cell? ⟨g, o + j, none⟩ = some (.int .u16 ((x : Nat) : Int)) := by
  obtain ⟨g, o, hA, hc⟩ := h.at_ (j := j) (by simpa [u16V] using hj)
  exact ⟨g, o, xs[j], hA, List.getElem?_eq_getElem hj, by simpa [u16V] using hc⟩
section
variable {H : Type} {enc : TypeId × Value → H} {P : Program}
theorem open_u16s {W : World} {base : Nat} {v : Value} {d : DataW H} {p : List MemPlace} {tb te : TypeId} (ht : P.underlying tb = some (.slice te)) (he : P.underlying te = some (.int .u16)) (hc : P.cellsOf te = 1)
    (hval : Value.okWide P W .any base tb v) (h : DataW.Trod enc P W 0 (fun _ => true) true tb v d p) :
    ∃ A n c, ∃ xs : List Nat, v = .slice A n c ∧ xs.length = n ∧ n ≤ c ∧ c ≤ maxLen ∧ Seen W A (u16V xs) ∧ ∀ x ∈ xs, x < 65536 := by
  obtain ⟨a1, len, cap, rfl⟩ := okWide_slice ht hval
  obtain ⟨fuel, hf⟩ := h
  rcases open_ints ht he hc hf with ⟨hcs, hx⟩ | ⟨a, len', cap', zs, hcs, _, hl, hm, hz, hx, hcell, hwz⟩
  · simp [Value.cells] at hcs
    obtain ⟨rfl, rfl, rfl⟩ := hcs
    exact ⟨none, 0, 0, [], rfl, rfl, Nat.le_refl _, Nat.zero_le _, .inl rfl, fun x h => by cases h⟩
  · simp [Value.cells] at hcs
    obtain ⟨rfl, rfl, rfl⟩ := hcs
    simp only [if_true] at hz
    have hbd : ∀ z ∈ zs, 0 ≤ z ∧ z < 65536 := fun z hz' => by
      have := bounds_u16 (hwz z hz')
      omega
    refine ⟨some a, len, cap, (zs.take len).map fun z => z.toNat, rfl, by simp; omega, hl, hm, ?_, fun x hx' => ?_⟩
    · by_cases h0 : len = 0
      · subst h0
        exact .inl (by simp [u16V])
      · obtain ⟨g, o, spot⟩ := a
        have hspot : spot = none := by simpa [Addr.add] using World.cell?_spot (hcell 0 (by omega))
        subst hspot
        refine .inr ⟨g, o, rfl, fun j v hv => ?_⟩
        simp only [u16V, List.map_map, List.getElem?_map, Option.map_eq_some_iff] at hv
        obtain ⟨z, hzj, rfl⟩ := hv
        rw [List.getElem?_take] at hzj
        split at hzj
        · rename_i hj
          have h1 := hcell j (by omega)
          rw [Addr.add_lit] at h1
          rw [h1]
          have e : zs.getD j 0 = z := by rw [List.getD_eq_getElem?_getD, hzj]; rfl
          have hb := hbd z (List.mem_of_getElem? hzj)
          rw [e]
          simp only [Function.comp]
          congr 2
          omega
        · cases hzj
    · simp only [List.mem_map] at hx'
      obtain ⟨z, hz', rfl⟩ := hx'
      have := hbd z (List.mem_of_mem_take hz')
      omega
end
end Go.Proofs.Ytpoooehnobfjfaa
