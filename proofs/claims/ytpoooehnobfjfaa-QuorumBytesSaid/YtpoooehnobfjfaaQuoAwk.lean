/-
  The document's example of layer 15 (awake) is true. No condition.
-/
import Derived.Test.YtpoooehnobfjfaaQuoIdx
namespace Go.Proofs.Ytpoooehnobfjfaa
open Go.ChangeShapes Go.WideShapes Go.ChangeAt Go.RowKit
set_option linter.unusedVariables false

theorem idx_534 : IsIdx [5, 3, 4] 4 := idx_of_sort (k := 1) (by decide) (by simp [List.mergeSort])
theorem right_012 : RightQ [0, 1, 2] := by decide
theorem right_0 : RightQ [0] := by decide

set_option maxRecDepth 100000 in
set_option maxHeartbeats 2000000 in
theorem awake_any (w : World) : Calls Try.prog 7 #[] w fun e w' => e = .returned (.bool true) ∧ Below w.heap.size w w' := by
  have hmm := @run_makeMap Try.prog
  obtain ⟨W1, hW1⟩ : ∃ W1, w.alloc (.cells #[.int .i64 0, .int .i64 1, .int .i64 2] 3) = W1 := ⟨_, rfl⟩
  have hb1 : Below w.heap.size w W1 := by rw [← hW1]; exact (Below.refl _ _).alloc (Nat.le_refl _) _
  have hs1 : Seen W1 (some ⟨w.heap.size, 0, none⟩) (numsV [0, 1, 2]) := by rw [← hW1]; exact Seen.of_cells (heap_alloc_new w _)
  have hlt1 : w.heap.size < W1.heap.size := by rw [← hW1]; simp
  obtain ⟨W2, hW2⟩ : ∃ W2, W1.alloc (.map #[] 0) = W2 := ⟨_, rfl⟩
  obtain ⟨b, hb⟩ : ∃ b, W1.heap.size = b := ⟨_, rfl⟩
  have hm2 : MapF W2 b 0 (fun _ => 0) := by rw [← hW2, ← hb]; exact MapF.made W1
  have hb2 : Below w.heap.size w W2 := by rw [← hW2]; exact hb1.alloc hb1.size _
  have hs2 : Seen W2 (some ⟨w.heap.size, 0, none⟩) (numsV [0, 1, 2]) := by rw [← hW2]; exact hs1.alloc _
  have hBb : w.heap.size < b := by omega
  have Hm2 := Lib.hid hm2; have Hb2 := Lib.hid hb2; have Hs2 := Lib.hid hs2; have HBb := Lib.hid hBb
  clear hb1 hs1 hlt1 hm2 hb2 hs2 hBb
  have seen : ∀ (V V' : World), Seen V (some ⟨w.heap.size, 0, none⟩) (numsV [0, 1, 2]) → Turned (fun k => k = b) V V' → Seen V' (some ⟨w.heap.size, 0, none⟩) (numsV [0, 1, 2]) := fun V V' hs ht => ht.seen hs fun g o e hk => by injection e with e; injection e with e _; have := HBb.out; omega
  have below : ∀ (V V' : World), Below w.heap.size w V → Turned (fun k => k = b) V V' → Below w.heap.size w V' := fun V V' hb ht => hb.trans (ht.below (fun k e => by have := HBb.out; omega) hb.size)
  have SS := Lib.hid seen; have BB := Lib.hid below
  clear seen below
  go_enter Try.func7, Try.ntmps7
  go_wp2_with (first
    | (refine wpList_insF rfl (.tmp 2) _ _ rfl b 0 (fun _ => 0) 0 5 rfl rfl rfl Hm2.out (by omega) (by omega) (by omega) ?_; intro w3 hm3 ht3; have Hm3 := Lib.hid hm3; have Hs3 := Lib.hid (SS.out _ _ Hs2.out ht3); have Hb3 := Lib.hid (BB.out _ _ Hb2.out ht3); clear hm3 ht3)
    | (refine wpList_insF rfl (.tmp 2) _ _ rfl b 1 _ 1 3 rfl rfl rfl Hm3.out (by omega) (by omega) (by omega) ?_; intro w4 hm4 ht4; have Hm4 := Lib.hid hm4; have Hs4 := Lib.hid (SS.out _ _ Hs3.out ht4); have Hb4 := Lib.hid (BB.out _ _ Hb3.out ht4); clear hm4 ht4)
    | (refine wpList_insF rfl (.tmp 2) _ _ rfl b 2 _ 2 4 rfl rfl rfl Hm4.out (by omega) (by omega) (by omega) ?_; intro w5 hm5 ht5; have Hm5 := Lib.hid hm5; have Hs5 := Lib.hid (SS.out _ _ Hs4.out ht5); have Hb5 := Lib.hid (BB.out _ _ Hb4.out ht5); clear hm5 ht5)
    | (go_at_call 15; refine (Index_any (some ⟨w.heap.size, 0, none⟩) 3 3 b 3 [0, 1, 2] _ w5 rfl (by unfold maxLen; omega) Hs5.out Hm5.out).mono ?_; rintro e w6 ⟨v, rfl, h1, h2, hb6⟩; obtain rfl : v = 4 := (h1 right_012).one idx_534; have Hb6 := Lib.hid (Hb5.out.trans (hb6.mono Hb5.out.size)); clear h1 h2 hb6)
    | (go_at_call 21; refine (Majority_any 3 _ (by omega)).mono ?_; rintro e w7 ⟨rfl, rfl⟩; rw [show ((majQ 3 : Nat) : Int) = 2 from rfl])
    | (go_at_call 12; refine (Right_any (some ⟨w7.heap.size, 0, none⟩) 1 1 [0] _ rfl (by unfold maxLen; omega) (Seen.of_cells (heap_alloc_new w7 _))).mono ?_; rintro e w8 ⟨rfl, rfl⟩; rw [show decide (RightQ [0]) = true from decide_eq_true right_0]))
  go_ret
  exact ⟨rfl, Hb6.out.alloc Hb6.out.size _⟩
end Go.Proofs.Ytpoooehnobfjfaa
