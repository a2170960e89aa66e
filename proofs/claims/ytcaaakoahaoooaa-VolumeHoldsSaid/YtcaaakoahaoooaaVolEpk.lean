/-
  The epochs that the law VolumeHolds keeps by chunks' numbers: none is above its chunk's, and of numbers that weren't given yet there is none. Plain lists and integers. Conditions: right states.
-/
import Derived.Test.YtcaaakoahaoooaaVolHold
namespace Go.Proofs.Ytcaaakoahaoooaa
open Go.ChangeShapes Go.WideShapes Go.ChangeAt Go.RowKit
set_option linter.unusedVariables false

structure EpOk (E : Int → Int) (s : St) : Prop where
  le : ∀ i, i < 64 → ∀ k ∈ (s.vs i).ks, E k.id ≤ k.ep
  no : ∀ id, s.md < id → E id = 0
theorem EpOk.zero : EpOk (fun _ => 0) st0 := ⟨fun i _ k hk => (by cases hk), fun _ _ => rfl⟩
theorem EpOk.newer {E : Int → Int} {n : Int} {s s' : St} (h : EpOk E s) (hn : Newer s s') (hg : GoodD n s') : EpOk E s' := by
  refine ⟨fun i hi k' hk' => ?_, fun id hid => h.no id (by have := hn.md; omega)⟩
  have hep := ((hg.vs i hi).ks k' hk').ep.1
  rcases hn.ep i hi k' hk' with ⟨j, hj, k, hk, e1, e2⟩ | hnew
  · have := h.le j hj k hk
    rw [e1] at this
    omega
  · rw [h.no _ hnew]
    omega
theorem EpOk.set {E : Int → Int} {n : Int} {s : St} (h : EpOk E s) (hg : GoodD n s) {id : Int} {i j : Nat} {k : Chk} (hf : FoundAt s id i j k) : EpOk (fun x => if x = id then k.ep else E x) s := by
  obtain ⟨hi, hj, hid⟩ := hf
  have hmem := List.mem_of_getElem? hj
  refine ⟨fun a ha x hx => ?_, fun y hy => ?_⟩
  · show (if x.id = id then k.ep else E x.id) ≤ x.ep
    by_cases e : x.id = id
    · rw [if_pos e]
      obtain ⟨m, hm⟩ := List.mem_iff_getElem?.1 hx
      obtain ⟨_, _, rfl⟩ := hg.ord.uniq (a := ⟨hi, hj, hid⟩) (b := ⟨ha, hm, e⟩)
      exact Int.le_refl _
    · rw [if_neg e]
      exact h.le a ha x hx
  · show (if y = id then k.ep else E y) = 0
    have h1 := ((hg.vs i hi).ks k hmem).id.2
    rw [if_neg (by omega)]
    exact h.no y hy
end Go.Proofs.Ytcaaakoahaoooaa
