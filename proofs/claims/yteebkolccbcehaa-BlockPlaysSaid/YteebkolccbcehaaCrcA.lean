/-
  Contracts of package crc's calls that only reckon: byteSum. No condition but that the number fits 32 bits.
-/
import Derived.Test.YteebkolccbcehaaRows
import Derived.Test.YteebkolccbcehaaCrcMath
import Derived.Test.YteebkolccbcehaaWords
import Derived.Test.YteebkolccbcehaaRef01
import Derived.WalkKit
import Derived.ProofKit
import Derived.OpenShut
import Derived.WalkLawsBesides
import Derived.WalkSpells
import Derived.Laws.CopyOwn
import Derived.Deep.QuietTactic
import Derived.BigQuiet
import Derived.Lib.Hide
namespace Go.Proofs.Yteebkolccbcehaa
open Go.ChangeShapes Go.WideShapes Go.ChangeAt Go.RowKit
set_option linter.unusedVariables false

theorem u32_eq {a b : Int} (h : a = b) : Ending.returned (.int .u32 a) = .returned (.int .u32 b) := by rw [h]

theorem and_one (x : Nat) (h : x < 4294967296) : bits .and .u32 (x : Int) 1 = ((x % 2 : Nat) : Int) := by
  rw [show (1 : Int) = ((1 : Nat) : Int) from rfl, u32_and_nat x 1 h (by omega), nat_mask1]
theorem xor_poly (x : Nat) (h : x < 4294967296) : bits .xor .u32 (x : Int) 3988292384 = ((x ^^^ 3988292384 : Nat) : Int) :=
  u32_xor_nat x 3988292384 h (by omega)

theorem step_odd {x : Nat} (h : x < 4294967296) (hb : (bits .and .u32 (x : Int) 1 == 1) = true) : bits .xor .u32 ((x : Int) / 2) 3988292384 = ((st x : Nat) : Int) := by
  rw [and_one x h] at hb
  have hb' : (x : Int) % 2 = 1 := by simpa using hb
  rw [show ((x : Int) / 2) = ((x / 2 : Nat) : Int) by omega, xor_poly _ (by omega)]
  unfold st
  rw [if_pos (by omega)]
theorem step_even {x : Nat} (h : x < 4294967296) (hb : (bits .and .u32 (x : Int) 1 == 1) = false) : ((x : Int) / 2) = ((st x : Nat) : Int) := by
  rw [and_one x h] at hb
  have hb' : ¬ x % 2 = 1 := by intro e; rw [e] at hb; simp at hb
  unfold st
  rw [if_neg hb']
  omega

theorem byteSum_any (x : Nat) (w : World) (hx : x < 4294967296) :
    Calls Try.prog 30 #[.int .u32 (x : Int)] w fun e w' => e = .returned (.int .u32 ((stN 8 x : Nat) : Int)) ∧ w = w' := by
  go_enter Try.func30, Try.ntmps30
  go_wp2
  go_loop [0, 4] (fun t i => ∃ k : Nat, k ≤ 8 ∧ i = .int .i64 k ∧ t = .int .u32 ((stN k x : Nat) : Int)) (fun _ i => 8 - (intOf i).toNat)
  case atStart => exact ⟨0, by omega, rfl, rfl⟩
  case round =>
    obtain ⟨k, hk, rfl, rfl⟩ := hrel
    by_cases hlt : k < 8
    · go_wp2
      all_goals
        go_round
        case rel => exact ⟨k + 1, by omega, by go_num, by rw [stN_succ]; first | rw [step_odd (stN_lt k hx) (by assumption)] | rw [step_even (stN_lt k hx) (by assumption)]⟩
        case measure => simp [intOf]; omega
    · go_wp2
      go_ret
      exact ⟨u32_eq (by rw [show k = 8 by omega]), rfl⟩

/-- the array of all bytes' sums, of which the first k are made -/
def tabV (k : Nat) : Array Value := ((List.range 256).map fun i => Value.int .u32 (if i < k then ((stN 8 i : Nat) : Int) else 0)).toArray
theorem zero_tab (w : World) : (zeroValue 61).run Try.prog w = .ok (.agg (tabV 0)) w := by kernel_rfl
theorem tab_size (k : Nat) : (tabV k).size = 256 := by simp [tabV]
theorem tab_get {k i : Nat} (h : i < 256) : (tabV k)[i]? = some (.int .u32 (if i < k then ((stN 8 i : Nat) : Int) else 0)) := by
  simp [tabV, h]
theorem tab_set (k : Nat) (h : k < 256) : (tabV k).setIfInBounds k (.int .u32 ((stN 8 k : Nat) : Int)) = tabV (k + 1) := by
  refine Array.ext (by simp [tab_size]) fun i h1 h2 => ?_
  rw [tab_size] at h2
  have g1 := tab_get (k := k) h2
  have g2 := tab_get (k := k + 1) h2
  rw [Array.getElem?_eq_getElem (by rw [tab_size]; omega)] at g1 g2
  injection g1 with g1
  injection g2 with g2
  rw [Array.getElem_setIfInBounds (by rw [tab_size]; omega)]
  split
  · rename_i e
    subst e
    rw [g2, if_pos (by omega)]
  · rw [g1, g2]
    congr 1
    by_cases hik : i < k
    · rw [if_pos hik, if_pos (by omega)]
    · rw [if_neg hik, if_neg (by omega)]

theorem tab_info : (Try.prog.info? 61).map (·.size) = some 256 := by kernel_rfl
theorem tab_one (k : Nat) : (tabV k).all (·.oneCell') = true := by
  rw [Array.all_eq_true_iff_forall_mem]
  intro v hv
  simp only [tabV, List.mem_toArray, List.mem_map] at hv
  obtain ⟨i, _, rfl⟩ := hv
  rfl
set_option maxRecDepth 20000 in
theorem byteSums_gen (T : Nat → Array Value) (w : World) (hz : ∀ w, (zeroValue 61).run Try.prog w = .ok (.agg (T 0)) w) (hs : ∀ k, (T k).size = 256)
    (hget : ∀ k i, i < 256 → (T k)[i]? = some (.int .u32 (if i < k then ((stN 8 i : Nat) : Int) else 0))) (hset : ∀ k, k < 256 → (T k).setIfInBounds k (.int .u32 ((stN 8 k : Nat) : Int)) = T (k + 1))
    (hone : ∀ k, (T k).all (·.oneCell') = true) :
    Calls Try.prog 29 #[] w fun e w' => e = .returned (.agg (T 256)) ∧ Below w.heap.size w w' := by
  have Hs := Lib.hid hs; clear hs
  have Hget := Lib.hid hget; clear hget
  have Hset := Lib.hid hset; clear hset
  have Hone := Lib.hid hone; clear hone
  have Hi := Lib.hid tab_info
  go_enter Try.func29, Try.ntmps29
  go_wp2
  clear hz
  go_loopw [3] (fun i wr => ∃ k : Nat, k ≤ 256 ∧ i = .int .i64 k ∧ wr = (w.alloc (.cells (T 0) 61)).alloc (.cells (T k) 61)) (fun i _ => 256 - (intOf i).toNat)
  case atStart => exact ⟨0, by omega, rfl, rfl⟩
  case round =>
    obtain ⟨k, hk, rfl, rfl⟩ := hrel
    by_cases hlt : k < 256
    · have hg := Hget.out k k hlt
      go_wp2_with (go_at_call 30; refine (byteSum_any k _ (by omega)).mono ?_; rintro e w' ⟨rfl, rfl⟩)
      go_roundw
      case rel => exact ⟨k + 1, by omega, by go_num, by rw [Hset.out k hlt]⟩
      case measure => simp [intOf]; omega
    · obtain rfl : k = 256 := by omega
      go_wp2_with (first
        | (refine wpList_load_row rfl 61 (.tmp 1) rfl (w.heap.size + 1) rfl 61 (T 256) (0, 0) _ (heap_alloc2_new _ _ _) Try.underlying61 rfl (by rw [Hs.out]; exact Hi.out) ?_)
        | (refine wpList_store_row rfl 61 (.tmp 0) (.tmp 12) rfl w.heap.size (T 256) rfl rfl 61 (T 0) (heap_alloc2_old _ _ _) (by rw [Hs.out]; exact Hi.out) (by rw [Hs.out, Hs.out]) (Hone.out 256) ?_))
      refine bodyPost_ret (v := .agg (T 256)) (results_cell_row rfl _ _ w.heap.size 61 (T 256) (0, 0) _ rfl (setRow_heap _ _ (T 0) _ 61 (0, 0) (heap_alloc2_old _ _ _)) Try.underlying61 rfl (by rw [Hs.out]; exact Hi.out)) rfl ⟨rfl, ?_⟩
      exact below_setRow (((Below.refl _ _).alloc (Nat.le_refl _) _).alloc (by simp) _) (Nat.le_refl _) _
theorem byteSums_any (w : World) : Calls Try.prog 29 #[] w fun e w' => e = .returned (.agg (tabV 256)) ∧ Below w.heap.size w w' :=
  byteSums_gen tabV w zero_tab tab_size (fun _ _ h => tab_get h) tab_set tab_one
end Go.Proofs.Yteebkolccbcehaa
