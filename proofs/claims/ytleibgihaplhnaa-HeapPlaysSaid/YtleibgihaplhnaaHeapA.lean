/-
  Contract of dotterellaw09's awake: it holds, and turns nothing that was there. No condition.
-/
import Derived.Test.YtleibgihaplhnaaHeapDrop
namespace Go.Proofs.Ytleibgihaplhnaa
open Go.ChangeShapes Go.WideShapes Go.ChangeAt Go.RowKit Go.Maps Go.Sort
set_option linter.unusedVariables false

theorem HeapAt.over {w w' : World} {B h : Nat} {q m : Option Nat} {x : List Ent} (H : HeapAt w B h q m x) (hB : B ≤ w.heap.size) (ht : Turned (Foot h q m) w w') : Below B w w' :=
  ⟨ht.os, ht.tape, ht.output, ht.size, fun k hk => ht.block k (Nat.lt_of_lt_of_le hk hB) fun e => by have := (H.spares e).1; omega⟩
theorem new_heap (w : World) : HeapAt (w.alloc (.cells #[.slice none 0 0, .map none] 27)) w.heap.size w.heap.size none none [] := HeapAt.zero (Nat.le_refl _) (heap_alloc_new _ _)
set_option maxRecDepth 100000 in
set_option maxHeartbeats 2000000 in
theorem awake_any (w : World) : Calls Try.prog 6 #[] w fun e w' => e = .returned (.bool true) ∧ Below w.heap.size w w' := by
  obtain ⟨W1, hW1⟩ : ∃ W1, w.alloc (.cells #[.slice none 0 0, .map none] 27) = W1 := ⟨_, rfl⟩
  have H1 := Lib.hid (show HeapAt W1 w.heap.size w.heap.size none none [] by rw [← hW1]; exact new_heap w)
  have B1 := Lib.hid (show Below w.heap.size w W1 by rw [← hW1]; exact (Below.refl _ _).alloc (Nat.le_refl _) _)
  go_enter Try.func6, Try.ntmps6
  go_wp2_with fail
  refine (Set_any w.heap.size w.heap.size none none [] 5 9 W1 H1.out (by simp) (by unfold Fits; omega) B1.out.size).mono ?_
  rintro e w2 ⟨rfl, q2, m2, h2, t2, -⟩
  have B2 := Lib.hid (B1.out.trans (H1.out.over B1.out.size t2))
  have H2 := Lib.hid (show HeapAt w2 w.heap.size w.heap.size q2 m2 [(5, 9)] from h2)
  clear h2 t2
  go_wp2_with fail
  refine (Set_any w.heap.size w.heap.size q2 m2 [(5, 9)] 3 9 w2 H2.out (by simp) (by unfold Fits; omega) B2.out.size).mono ?_
  rintro e w3 ⟨rfl, q3, m3, h3, t3, -⟩
  have B3 := Lib.hid (B2.out.trans (H2.out.over B2.out.size t3))
  have H3 := Lib.hid (show HeapAt w3 w.heap.size w.heap.size q3 m3 [(3, 9), (5, 9)] from h3)
  clear h3 t3
  go_wp2_with fail
  refine (Least_any w.heap.size w.heap.size q3 m3 [(3, 9), (5, 9)] w3 H3.out (by simp)).mono ?_
  rintro e w4 ⟨n, k, ok, rfl, hl, hb⟩
  have H4 := Lib.hid (H3.out.below hb)
  have B4 := Lib.hid (B3.out.trans (hb.mono B3.out.size))
  clear hb
  rcases hl with ⟨e, _⟩ | ⟨e, rfl⟩
  · cases e
  · simp only [List.getElem?_cons_zero, Option.some.injEq, Prod.mk.injEq] at e
    obtain ⟨rfl, rfl⟩ := e
    go_wp2_with (go_at_call 14; refine (Len_any w.heap.size w.heap.size q3 m3 [(3, 9), (5, 9)] w4 H4.out).mono ?_; rintro e w5 ⟨rfl, rfl⟩)
    go_ret
    exact ⟨rfl, B4.out⟩
end Go.Proofs.Ytleibgihaplhnaa
