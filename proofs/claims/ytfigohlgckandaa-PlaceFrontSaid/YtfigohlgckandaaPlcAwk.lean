/-
  Contract of dotterellaw19's awake: it holds, and turns nothing that was there. No condition.
-/
import Derived.Test.YtfigohlgckandaaPlcCho
import Derived.Test.YtfigohlgckandaaPlcMin
import Derived.Test.YtfigohlgckandaaSameI
namespace Go.Proofs.Ytfigohlgckandaa
open Go.ChangeShapes Go.WideShapes Go.ChangeAt Go.RowKit Go.Sort
set_option linter.unusedVariables false

theorem awake_ids : chooseF [(0, 3), (1, 1), (2, 1)] 2 = [1, 2] := by
  unfold chooseF
  rw [sortE_of (x := [(1, 1), (2, 1), (0, 3)]) (by decide) (by decide)]
  rfl
set_option maxRecDepth 100000 in
set_option maxHeartbeats 2000000 in
theorem awake_any (w : World) : Calls Try.prog 6 #[] w fun e w' => e = .returned (.bool true) ∧ Below w.heap.size w w' := by
  obtain ⟨W1, hW1⟩ : ∃ W1, w.alloc (.cells #[.int .i64 0, .int .i64 3, .int .i64 1, .int .i64 1, .int .i64 2, .int .i64 1] 31) = W1 := ⟨_, rfl⟩
  have hb1 : Below w.heap.size w W1 := by rw [← hW1]; exact (Below.refl _ _).alloc (Nat.le_refl _) _
  have hs1 : Seen W1 (some ⟨w.heap.size, 0, none⟩) (entsV [(0, 3), (1, 1), (2, 1)]) := by rw [← hW1]; exact Seen.of_cells (heap_alloc_new w _)
  have K := Lib.hid (PChoose (some ⟨w.heap.size, 0, none⟩) 3 3 2 [(0, 3), (1, 1), (2, 1)] W1 rfl (by omega) hs1)
  rw [awake_ids] at K
  have Hb1 := Lib.hid hb1
  clear hb1 hs1
  go_enter Try.func6, Try.ntmps6
  go_wp2_with (first
    | (go_at_call 9; go_loud (refine (SameInts_any _ _ _ _ _ _ [1, 2] [1, 2] _ rfl rfl ((Seen.of_own H2.out).below ((Below.refl _ _).alloc (Nat.le_refl _) _)) (Seen.of_cells (heap_alloc_new w2 _)) (by show 2 ≤ _; unfold maxLen; omega)).mono ?_; rintro e w4 ⟨rfl, hb4⟩; have Hb4 := Lib.hid (Hb2.out.trans ((((Below.refl _ _).alloc (Nat.le_refl _) _).trans (hb4.mono (by simp))).mono Hb2.out.size)); clear hb4))
    | (go_at_call 10; refine K.out.mono ?_; rintro e w2 ⟨A2, c2, rfl, h2, b2⟩; have H2 := Lib.hid h2; have Hb2 := Lib.hid (Hb1.out.trans (b2.mono Hb1.out.size)); clear h2 b2))
  go_ret
  exact ⟨rfl, Hb4.out⟩
end Go.Proofs.Ytfigohlgckandaa
