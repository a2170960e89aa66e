/-
  Contract of dotterellaw13's awake: it holds, and turns nothing that was there. No condition.
-/
import Derived.Test.YtkfhocmnkamhlaaRhoBeg
import Derived.Test.YtkfhocmnkamhlaaRhoDon
namespace Go.Proofs.Ytkfhocmnkamhlaa
open Go.ChangeShapes Go.WideShapes Go.ChangeAt Go.RowKit Go.Maps
set_option linter.unusedVariables false

set_option maxRecDepth 100000 in
set_option maxHeartbeats 2000000 in
theorem awake_any (w : World) : Calls Try.prog 7 #[] w fun e w' => e = .returned (.bool true) ∧ Below w.heap.size w w' := by
  obtain ⟨W1, hW1⟩ : ∃ W1, w.alloc (.cells #[.int .i64 0, .int .i64 0, .map none] 28) = W1 := ⟨_, rfl⟩
  have H1 := Lib.hid (show TrkAt W1 w.heap.size w.heap.size 0 none (0, 0) (fun _ => (0, 0)) by rw [← hW1]; exact new_trk w)
  have B1 := Lib.hid (show Below w.heap.size w W1 by rw [← hW1]; exact (Below.refl _ _).alloc (Nat.le_refl _) _)
  go_enter Try.func7, Try.ntmps7
  go_wp2_with fail
  clear hW1
  refine (Done_any w.heap.size w.heap.size 0 none (0, 0) (fun _ => (0, 0)) 1 1 W1 H1.out B1.out.size (by omega) (by omega)).mono ?_
  rintro e w2 ⟨rfl, m2, h2, t2, -⟩
  have B2 := Lib.hid (B1.out.trans (H1.out.over B1.out.size t2))
  obtain ⟨f2, hf2⟩ : ∃ f, updC (fun _ => (0, 0)) 1 (addC (0, 0) (oneC 1)) = f := ⟨_, rfl⟩
  have e2 : addC (0, 0) (oneC 1) = ((1, 1) : Cn) := rfl
  have f22 : f2 2 = (0, 0) := by rw [← hf2]; rfl
  rw [e2] at h2 hf2
  rw [hf2] at h2
  have H2 := Lib.hid h2
  clear h2 t2 e2 hf2
  go_wp2_with fail
  refine (Begin_any w.heap.size w.heap.size (0 + 2) m2 (1, 1) f2 2 w2 H2.out B2.out.size (by omega) (by omega)).mono ?_
  rintro e w3 ⟨rfl, m3, h3, t3, -⟩
  have B3 := Lib.hid (B2.out.trans (H2.out.over B2.out.size t3))
  have H3 := Lib.hid h3
  rw [f22]
  clear h3 t3
  go_wp2_with fail
  refine (Begin_any w.heap.size w.heap.size (0 + 2 + 1) m3 (1, 1) (updC f2 2 (1, 1)) 2 w3 H3.out B3.out.size (by omega) (by omega)).mono ?_
  rintro e w4 ⟨rfl, m4, h4, t4, -⟩
  have B4 := Lib.hid (B3.out.trans (H3.out.over B3.out.size t4))
  rw [updC_same]
  clear h4 t4
  go_wp2
  go_ret
  exact ⟨rfl, B4.out⟩
end Go.Proofs.Ytkfhocmnkamhlaa
