/-
  Words for blocks that 'make' laid: a row of its own, whole, as one block. They speak of no program of ours. No condition but what each lemma names.
-/
import Derived.Test.YteebkolccbcehaaKept
import Derived.OwnWalk
namespace Go.Proofs.Yteebkolccbcehaa
open Go.ChangeShapes Go.WideShapes Go.ChangeAt Go.RowKit
set_option linter.unusedVariables false

theorem made_u8 (n : Nat) : (madeCells (Value.int .u8 0).cells (n * 1)).toList = bytesV (List.replicate n 0) := by
  rw [Nat.mul_one]
  apply List.ext_getElem?
  intro j
  simp only [madeCells, Array.getElem?_toList, Array.getElem?_map, bytesV, List.getElem?_map, List.getElem?_replicate, Array.getElem?_range]
  split
  · simp [byteV, Value.cells, Nat.mod_one]
  · rfl
theorem made_blk {w : World} {base b n size : Nat} {e : TypeId} {xs : List Value} (h : w.ownsRow base e size (.slice (some ⟨b, 0, none⟩) n n) n xs) (hx : xs.length = n * size) : w.heap[b]? = some (.cells xs.toArray e (0, 0)) := by
  rcases h.2 with ⟨e, _⟩ | ⟨g', cap, cur, e, _, hh, _, _, hs, ht⟩
  · cases e
  · injection e with e1 _ e2
    injection e1 with e1
    injection e1 with e1
    subst e1; subst e2
    rw [List.take_of_length_le (by simp [hs])] at ht
    have hcur : cur = xs.toArray := by rw [← ht]
    rw [← hcur]
    exact hh
end Go.Proofs.Yteebkolccbcehaa
