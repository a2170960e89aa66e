/-
  dotterelref12's Out: what it hands back. Conditions: what the slice reads as, and how many it is at most.
-/
import Derived.Test.YtbfjakchgmdldaaGreatPlyW
import Derived.Deep.RegionLaw
namespace Go.Proofs.YtbfjakchgmdldaaGreat
open Go.ChangeShapes Go.WideShapes Go.ChangeAt Go.RowKit
set_option linter.unusedVariables false

/-- a cut from k on: the model lets the address stand where k is the capacity -/
theorem Seen.rf_drop {w : World} {g o c k : Nat} {y : List RF} (h : Seen w (some ⟨g, o, none⟩) (rfsV y)) : Seen w (some ⟨g, o + k * 10, none⟩) (rfsV (y.drop k)) := by
  rcases h with h | ⟨g', o', hA, hc⟩
  · refine .inl ?_
    rw [rfsV_drop, h, List.drop_nil]
  · injection hA with hA
    injection hA with e1 e2
    subst e1; subst e2
    refine .inr ⟨g, o + k * 10, rfl, fun j v hv => ?_⟩
    rw [rfsV_drop, List.getElem?_drop] at hv
    have := hc _ v hv
    rwa [show o + (k * 10 + j) = o + k * 10 + j by omega] at this
theorem Seen.rf_take {w : World} {A : Option Addr} {y : List RF} (h : Seen w A (rfsV y)) (k : Nat) : Seen w A (rfsV (y.take k)) := by
  rw [rfsV_take]
  exact h.take _
set_option maxRecDepth 100000 in
set_option maxHeartbeats 4000000 in
theorem ROut_any (A : Option Addr) (n c k : Nat) (y : List RF) (w : World) (hl : y.length = n) (hn : n ≤ 100000) (hnc : n ≤ c ∧ c ≤ maxLen) (hk : k < n) (hs : Seen w A (rfsV y)) :
    Calls Tryz.prog 13 #[.slice A n c, .int .i64 (k : Int)] w (WithRet (y.take k ++ y.drop (k + 1)) w) := by
  obtain ⟨r, hr⟩ : ∃ r, y[k]? = some r := ⟨_, List.getElem?_eq_getElem (by omega)⟩
  obtain ⟨g, o, rfl, -⟩ := hs.rf hr
  have k0 : (0 : Int) ≤ (k : Int) := by omega
  have k1 : (k : Int) < (n : Int) := by omega
  have k2 : k ≤ c := by omega
  have k3 : (0 : Int) ≤ (k : Int) + 1 := by omega
  have k4 : (k : Int) + 1 ≤ (n : Int) := by omega
  have hm63 := hnc.2
  unfold maxLen at hm63
  have hwr : IntKind.i64.wrap ((k : Int) + 1) = (k : Int) + 1 := by unfold IntKind.wrap; simp [IntKind.signed, IntKind.bits]; omega
  have hown0 : ((w.alloc (.cells #[] 49)).drew).ownsRow w.heap.size 49 10 (.slice (some ⟨w.heap.size, 0, none⟩) 0 0) 0 [] := World.ownsRow_lit w #[] 0 (Nat.le_refl _) (by unfold maxLen; omega) rfl
  have hb0 : Below w.heap.size w ((w.alloc (.cells #[] 49)).drew) := ((Below.refl _ _).alloc (Nat.le_refl _) _).drew
  have Hown0 := Lib.hid hown0; have Hb0 := Lib.hid hb0; have Hnc := Lib.hid hnc; have Hl := Lib.hid hl
  have Hs1 := Lib.hid (show ∀ w', Below w.heap.size w w' → Seen w' (some ⟨g, o, none⟩) (rfsV (y.take k)) from fun w' hb => (hs.below hb).rf_take k)
  have Hs2 := Lib.hid (show ∀ w', Below w.heap.size w w' → Seen w' (some ⟨g, o + (k + 1) * 10, none⟩) (rfsV (y.drop (k + 1))) from fun w' hb => (hs.below hb).rf_drop (c := c))
  have Hl1 := Lib.hid (show (rfsV (y.take k)).length = k * 10 by rw [rfsV_length, List.length_take, hl]; congr 1; omega)
  have Hl2 := Lib.hid (show (rfsV (y.drop (k + 1))).length = (n - (k + 1)) * 10 by rw [rfsV_length, List.length_drop, hl])
  clear hown0 hb0 hm63 hnc hl hs hr
  have Hlen := Lib.hid (show (y.take k ++ y.drop (k + 1)).length = n - 1 by rw [List.length_append, List.length_take, List.length_drop, Hl.out]; omega)
  by_cases hcc : c = k + 1
  · subst hcc
    have hnk := Hnc.out.1
    obtain rfl : n = k + 1 := by omega
    clear hnk
    have k6 : (k : Int) ≤ (k : Int) + 1 := by omega
    go_enter Tryz.func13, Tryz.ntmps13
    go_wp2
    go_region_law (first
      | (refine step_app4 (by rfl) (.tmp 5) (.tmp 8) _ (by rfl) 49 _ 10 96 Tryz.underlying26 rf_info rfl (by omega) w.heap.size (some ⟨w.heap.size, 0, none⟩) 0 0 [] (by rfl) Hown0.out (some ⟨g, o, none⟩) k (k + 1) (rfsV (y.take k)) (by rfl) Hl1.out (Hs1.out _ Hb0.out) (rfsV_one _) (by unfold maxLen; omega) (by omega) (by simp) ?_; intro A4 c4 w4 hown4 hg4; simp only [Nat.zero_add, List.nil_append] at hown4; have Hb4 := Lib.hid (Hb0.out.grown hg4 (by simp) (fun j hj => (Hown0.out.lt j hj).1)); have Hown4 := Lib.hid hown4; clear hg4 hown4; simp only [Nat.zero_add])
      | (refine step_app4 (by rfl) (.tmp 9) (.tmp 13) _ (by rfl) 49 _ 10 96 Tryz.underlying26 rf_info rfl (by omega) w.heap.size A4 k c4 (rfsV (y.take k)) (by rfl) Hown4.out (some ⟨g, o, none⟩) 0 0 [] (by rfl) rfl (Seen.nil _ _) (by simp) (by unfold maxLen; omega) (by omega) Hb4.out.size ?_; intro A5 c5 w5 hown5 hg5; simp only [Nat.add_zero, List.append_nil] at hown5; have Hb5 := Lib.hid (Hb4.out.grown hg5 Hb4.out.size (fun j hj => (Hown4.out.lt j hj).1)); have Hown5 := Lib.hid hown5; clear hg5 hown5; simp only [Nat.add_zero]))
    all_goals
      go_wp2
      go_ret
      have hX : y.take k ++ y.drop (k + 1) = y.take k := by rw [List.drop_of_length_le (by rw [Hl.out]; exact Nat.le_refl _), List.append_nil]
      rw [hX] at Hlen ⊢
      unfold WithRet RowsRet
      rw [Hlen.out]
      exact ⟨A5, c5, rfl, RowAt.of_own Hown5.out, own_caps Hown5.out, Hb5.out⟩
  · go_enter Tryz.func13, Tryz.ntmps13
    go_wp2
    go_region_law (first
      | (refine step_app4 (by rfl) (.tmp 5) (.tmp 8) _ (by rfl) 49 _ 10 96 Tryz.underlying26 rf_info rfl (by omega) w.heap.size (some ⟨w.heap.size, 0, none⟩) 0 0 [] (by rfl) Hown0.out (some ⟨g, o, none⟩) k c (rfsV (y.take k)) (by rfl) Hl1.out (Hs1.out _ Hb0.out) (rfsV_one _) (by unfold maxLen; omega) (by omega) (by simp) ?_; intro A4 c4 w4 hown4 hg4; simp only [Nat.zero_add, List.nil_append] at hown4; have Hb4 := Lib.hid (Hb0.out.grown hg4 (by simp) (fun j hj => (Hown0.out.lt j hj).1)); have Hown4 := Lib.hid hown4; clear hg4 hown4; simp only [Nat.zero_add])
      | (refine step_app4 (by rfl) (.tmp 9) (.tmp 13) _ (by rfl) 49 _ 10 96 Tryz.underlying26 rf_info rfl (by omega) w.heap.size A4 k c4 (rfsV (y.take k)) (by rfl) Hown4.out (some ⟨g, o + (k + 1) * 10, none⟩) (n - (k + 1)) (c - (k + 1)) (rfsV (y.drop (k + 1))) (by rfl) Hl2.out (Hs2.out _ Hb4.out) (rfsV_one _) (by unfold maxLen; omega) (by omega) Hb4.out.size ?_; intro A5 c5 w5 hown5 hg5; have Hb5 := Lib.hid (Hb4.out.grown hg5 Hb4.out.size (fun j hj => (Hown4.out.lt j hj).1)); have Hown5 := Lib.hid hown5; clear hg5 hown5))
    all_goals
      go_wp2
      go_ret
      have hk5 : k + (n - (k + 1)) = n - 1 := by omega
      have ho := Hown5.out
      rw [hk5, ← rfsV_append] at ho
      rw [hk5]
      unfold WithRet RowsRet
      rw [Hlen.out]
      exact ⟨A5, c5, rfl, RowAt.of_own ho, own_caps ho, Hb5.out⟩
end Go.Proofs.YtbfjakchgmdldaaGreat
