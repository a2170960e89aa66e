/-
  Contract of the law's full: a sector of one byte. No condition.
-/
import Derived.Test.YtoffmnphcleeoaaKept
import Derived.Test.YtoffmnphcleeoaaSame
import Derived.Test.YtoffmnphcleeoaaSecMath
import Derived.OwnWalk
namespace Go.Proofs.Ytoffmnphcleeoaa
open Go.ChangeShapes Go.WideShapes Go.ChangeAt Go.RowKit
set_option linter.unusedVariables false

theorem full_step {k : Nat} (c : UInt8) (hk : k < 64) : (bytesV (List.replicate k c ++ List.replicate (64 - k) 0)).toArray.setIfInBounds k (byteV c) = (bytesV (List.replicate (k + 1) c ++ List.replicate (64 - (k + 1)) 0)).toArray := by
  apply Array.ext_getElem?
  intro j
  simp only [bytesV, Array.getElem?_setIfInBounds, List.size_toArray, List.length_map, List.length_append, List.length_replicate, List.getElem?_toArray, List.getElem?_map, List.getElem?_append, List.getElem?_replicate]
  rcases Nat.lt_trichotomy j k with h | h | h
  · have h1 : j < k + 1 := by omega
    have h2 : ¬ k = j := by omega
    simp [h, h1, h2]
  · subst h
    have h1 : j < j + (64 - j) := by omega
    simp [h1, byteV]
  · have h1 : ¬ j < k := by omega
    have h2 : ¬ j < k + 1 := by omega
    have h3 : ¬ k = j := by omega
    simp only [h1, h2, h3, if_false]
    by_cases h4 : j < 64
    · have h5 : j - k < 64 - k := by omega
      have h6 : j - (k + 1) < 64 - (k + 1) := by omega
      rw [if_pos h5, if_pos h6]
    · have h5 : ¬ j - k < 64 - k := by omega
      have h6 : ¬ j - (k + 1) < 64 - (k + 1) := by omega
      rw [if_neg h5, if_neg h6]

set_option maxRecDepth 100000 in
theorem full_any (c : UInt8) (w : World) : Calls Try.prog 7 #[.int .u8 (c.toNat : Int)] w fun e w' => e = .returned (.slice (some ⟨w.heap.size, 0, none⟩) 64 64) ∧ w'.heap[w.heap.size]? = some (.cells (bytesV (full c)).toArray 5 (0, 0)) ∧ Below w.heap.size w w' := by
  obtain ⟨i0, hi, hz0, hz1, hz2⟩ := info_parts u8_info
  go_enter Try.func7, Try.ntmps7
  go_wp2_with (at_make; refine wpList_make_full _ rfl (.const (.int .i64 64)) (.const (.int .i64 64)) _ rfl w.heap.size 5 i0 (.int .u8 0) 1 Try.underlying26 hi hz0 hz1 .i64 .i64 64 64 64 rfl rfl rfl rfl (by rw [hz2]; omega) (by unfold maxLen; omega) (Nat.le_refl _) ?_; intro w1 hown hg; have Hown := Lib.hid hown; have Hg := Lib.hid hg; clear hown hg)
  go_loopw [4] (fun i wr => ∃ k : Nat, k ≤ 64 ∧ i = .int .i64 k ∧ Below w.heap.size w wr ∧ wr.heap[w.heap.size]? = some (.cells (bytesV (List.replicate k c ++ List.replicate (64 - k) 0)).toArray 5 (0, 0))) (fun i _ => 64 - (intOf i).toNat)
  case atStart =>
    have hb1 : Below w.heap.size w w1 := (Below.refl _ _).grown Hg.out (Nat.le_refl _) (fun k e => by cases e)
    refine ⟨0, by omega, rfl, hb1, ?_⟩
    have ho := Hown.out
    rcases ho.2 with ⟨e, _⟩ | ⟨g', cap, cur, e, _, hh, _, _, hs, ht⟩
    · cases e
    · injection e with e1 _ e2
      injection e1 with e1
      injection e1 with e1
      subst e1; subst e2
      rw [hh]
      rw [List.take_of_length_le (by simp [hs]), show (Value.int IntKind.u8 0).cells = #[.int .u8 0] from rfl, toList_madeCells_one] at ht
      have hcur : cur = (bytesV (List.replicate 0 c ++ List.replicate (64 - 0) 0)).toArray := by
        apply Array.toList_inj.1
        rw [ht]
        simp only [bytesV, List.replicate_zero, List.nil_append, List.map_replicate]
        rfl
      rw [hcur]
  case round =>
    obtain ⟨k, hk, rfl, hb, hh⟩ := hrel
    by_cases hlt : k < 64
    · have hf := row_frozen hh k
      have hcell : wr.cell? ⟨w.heap.size, k, none⟩ = some ((bytesV (List.replicate k c ++ List.replicate (64 - k) 0)).toArray[k]'(by simp [bytes_length]; omega)) := (row_cell hh k).trans (Array.getElem?_eq_getElem _)
      obtain ⟨v0, hv0⟩ : ∃ v0, (bytesV (List.replicate k c ++ List.replicate (64 - k) 0)).toArray[k]'(by simp [bytes_length]; omega) = v0 := ⟨_, rfl⟩
      rw [hv0] at hcell
      have Hh := Lib.hid hh; have Hb := Lib.hid hb
      clear hh hb hv0
      have b0 : (0 : Int) ≤ (k : Int) := by omega
      have b1 : (k : Int) < 64 := by omega
      go_wp2
      go_roundw
      case rel => exact ⟨k + 1, by omega, by go_num, Hb.out.setCell (p := ⟨w.heap.size, k, none⟩) (Nat.le_refl _) _, by rw [row_set Hh.out, ← full_step c hlt]; rfl⟩
      case measure => simp [intOf]; omega
    · obtain rfl : k = 64 := by omega
      have Hh := Lib.hid hh; have Hb := Lib.hid hb
      clear hh hb hlt hk
      go_wp2
      go_ret
      exact ⟨rfl, by have := Hh.out; rwa [show 64 - 64 = 0 from rfl, List.replicate_zero, List.append_nil] at this, Hb.out⟩
end Go.Proofs.Ytoffmnphcleeoaa
