/-
  Words for slices of ints: what they read as; an argument that is one, opened. They speak of no program of ours. No condition but what each lemma names
-/
import Derived.Test.YtkjfaijdmpnjkaaLaw
namespace Go.Proofs.Ytkjfaijdmpnjkaa
open Go.ChangeShapes Go.WideShapes Go.ChangeAt Go.RowKit
set_option linter.unusedVariables false

/-- a slice of numbers -/
def numsV (l : List Int) : List Value := l.map fun x => .int .i64 x
theorem numsV_length (l : List Int) : (numsV l).length = l.length := by simp [numsV]
theorem numsV_append (a b : List Int) : numsV (a ++ b) = numsV a ++ numsV b := by simp [numsV]
theorem numsV_one (l : List Int) : ∀ u ∈ numsV l, u.oneCell' = true := by
  intro u hu
  simp only [numsV, List.mem_map] at hu
  obtain ⟨x, _, rfl⟩ := hu
  rfl
theorem Seen.num {w : World} {A : Option Addr} {ns : List Int} (h : Seen w A (numsV ns)) {j : Nat} (hj : j < ns.length) :
    ∃ g o x, A = some ⟨g, o, none⟩ ∧ ns[j]? = some x ∧ w.cell? ⟨g, o + j, none⟩ = some (.int .i64 x) := by
  obtain ⟨g, o, hA, hc⟩ := h.at_ (j := j) (by simpa [numsV] using hj)
  exact ⟨g, o, ns[j], hA, List.getElem?_eq_getElem hj, by simpa [numsV] using hc⟩
def In64 (x : Int) : Prop := -9223372036854775808 ≤ x ∧ x ≤ 9223372036854775807

section
variable {H : Type} {enc : TypeId × Value → H} {P : Program}
theorem open_nums {W : World} {base : Nat} {v : Value} {d : DataW H} {p : List MemPlace} {tb te : TypeId} (ht : P.underlying tb = some (.slice te)) (he : P.underlying te = some (.int .i64)) (hc : P.cellsOf te = 1)
    (hval : Value.okWide P W .any base tb v) (h : DataW.Trod enc P W 0 (fun _ => true) true tb v d p) :
    ∃ A n c, ∃ xs : List Int, v = .slice A n c ∧ xs.length = n ∧ n ≤ c ∧ c ≤ maxLen ∧ Seen W A (numsV xs) ∧ ∀ x ∈ xs, In64 x := by
  obtain ⟨a1, len, cap, rfl⟩ := okWide_slice ht hval
  obtain ⟨fuel, hf⟩ := h
  rcases open_ints ht he hc hf with ⟨hcs, hx⟩ | ⟨a, len', cap', zs, hcs, _, hl, hm, hz, hx, hcell, hwz⟩
  · simp [Value.cells] at hcs
    obtain ⟨rfl, rfl, rfl⟩ := hcs
    exact ⟨none, 0, 0, [], rfl, rfl, Nat.le_refl _, Nat.zero_le _, .inl rfl, fun x h => by cases h⟩
  · simp [Value.cells] at hcs
    obtain ⟨rfl, rfl, rfl⟩ := hcs
    simp only [if_true] at hz
    refine ⟨some a, len, cap, zs.take len, rfl, by simp; omega, hl, hm, ?_, fun x hx' => ?_⟩
    · by_cases h0 : len = 0
      · subst h0
        exact .inl (by simp [numsV])
      · obtain ⟨g, o, spot⟩ := a
        have hspot : spot = none := by simpa [Addr.add] using World.cell?_spot (hcell 0 (by omega))
        subst hspot
        refine .inr ⟨g, o, rfl, fun j v hv => ?_⟩
        simp only [numsV, List.getElem?_map, Option.map_eq_some_iff] at hv
        obtain ⟨z, hzj, rfl⟩ := hv
        rw [List.getElem?_take] at hzj
        split at hzj
        · rename_i hj
          have h1 := hcell j (by omega)
          rw [Addr.add_lit] at h1
          rw [h1]
          have e : zs.getD j 0 = z := by rw [List.getD_eq_getElem?_getD, hzj]; rfl
          rw [e]
        · cases hzj
    · have hb := bounds_i64 (hwz x (List.mem_of_mem_take hx'))
      exact ⟨by omega, by omega⟩
end
end Go.Proofs.Ytkjfaijdmpnjkaa
