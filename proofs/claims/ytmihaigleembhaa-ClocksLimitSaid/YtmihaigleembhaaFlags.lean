/-
  Words for arguments that are slices of bools: opened. They speak of no program of ours. No condition but what each lemma names.
-/
import Derived.Test.YtmihaigleembhaaFields
import Derived.Deep.Grids
namespace Go.Proofs.Ytmihaigleembhaa
open Go.ChangeShapes Go.WideShapes Go.ChangeAt Go.RowKit
set_option linter.unusedVariables false

def boolsV (xs : List Bool) : List Value := xs.map fun x => .bool x
theorem boolsV_length (xs : List Bool) : (boolsV xs).length = xs.length := by simp [boolsV]
theorem Seen.flag {w : World} {A : Option Addr} {xs : List Bool} (h : Seen w A (boolsV xs)) {j : Nat} (hj : j < xs.length) :
    ∃ g o b, A = some ⟨g, o, none⟩ ∧ xs[j]? = some b ∧ w.cell? ⟨g, o + j, none⟩ = some (.bool b) := by
  obtain ⟨g, o, hA, hc⟩ := h.at_ (j := j) (by simpa [boolsV] using hj)
  exact ⟨g, o, xs[j], hA, List.getElem?_eq_getElem hj, by simpa [boolsV] using hc⟩
section
variable {H : Type} {enc : TypeId × Value → H} {P : Program}
theorem open_flags {W : World} {base : Nat} {v : Value} {d : DataW H} {p : List MemPlace} {tb te : TypeId} (ht : P.underlying tb = some (.slice te)) (he : P.underlying te = some .bool) (hc : P.cellsOf te = 1)
    (hval : Value.okWide P W .any base tb v) (h : DataW.Trod enc P W 0 (fun _ => true) true tb v d p) :
    ∃ A n c, ∃ xs : List Bool, v = .slice A n c ∧ xs.length = n ∧ n ≤ c ∧ c ≤ maxLen ∧ Seen W A (boolsV xs) := by
  obtain ⟨a1, len, cap, rfl⟩ := okWide_slice ht hval
  obtain ⟨fuel, hf⟩ := h
  rcases Go.Deep.open_bools ht he hc hf with ⟨hcs, hx⟩ | ⟨a, len', cap', B, hcs, _, hl, hm, hx, hcell⟩
  · simp [Value.cells] at hcs
    obtain ⟨rfl, rfl, rfl⟩ := hcs
    exact ⟨none, 0, 0, [], rfl, rfl, Nat.le_refl _, Nat.zero_le _, .inl rfl⟩
  · simp [Value.cells] at hcs
    obtain ⟨rfl, rfl, rfl⟩ := hcs
    refine ⟨some a, len, cap, (List.range len).map B, rfl, by simp, hl, hm, ?_⟩
    by_cases h0 : len = 0
    · subst h0
      exact .inl (by simp [boolsV])
    · obtain ⟨g, o, spot⟩ := a
      have hspot : spot = none := by simpa [Addr.add] using World.cell?_spot (hcell 0 (by omega))
      subst hspot
      refine .inr ⟨g, o, rfl, fun j v hv => ?_⟩
      simp only [boolsV, List.map_map, List.getElem?_map, Option.map_eq_some_iff] at hv
      obtain ⟨z, hzj, rfl⟩ := hv
      obtain ⟨hj, rfl⟩ := List.getElem?_eq_some_iff.1 hzj
      simp at hj
      have h1 := hcell j (by omega)
      rw [Addr.add_lit] at h1
      rw [h1]
      simp
end
end Go.Proofs.Ytmihaigleembhaa
