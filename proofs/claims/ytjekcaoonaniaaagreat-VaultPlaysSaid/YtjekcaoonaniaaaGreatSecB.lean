/-
  slices.Backward over the writes that wait: what a range over it is told. Conditions: writes of 64 bytes, at most 1,000,000.
-/
import Derived.Test.YtjekcaoonaniaaaGreatSecS
import Derived.RangeFuncNested
import Derived.RangeFuncBound
import Derived.RangeFuncCalls
import Derived.RangeFuncLeaves
import Derived.Shelf.Abstract
import Derived.Shelf.RegionOpen
import Derived.OwnWalkIn
import Derived.TacticsInMore
import Derived.LoopNIn
import Derived.LoopIn
namespace Go.Proofs.YtjekcaoonaniaaaGreat
open Go.ChangeShapes Go.WideShapes Go.ChangeAt Go.RowKit Go.Shelf
set_option linter.unusedVariables false
attribute [local go_sem] Oper.semAt_some
attribute [local go_sem ↓] ldWr_eq stWr_eq

/-- a write's cells, as one array -/
def wArr (p : Nat × List UInt8) : Array Value := (wcell p).toArray
/-- a write with its number -/
abbrev NW := { x : Nat × Nat × List UInt8 // x.2.2.length = 64 }
def encW (x : NW) : Array Value := #[.int .i64 (x.1.1 : Int), .agg (wArr x.1.2)]
def upto {α : Type} (f : Nat → α) (k : Nat) : List α := (List.range k).map f
theorem upto_succ {α : Type} (f : Nat → α) (k : Nat) : upto f (k + 1) = upto f k ++ [f k] := by simp [upto, List.range_succ]
theorem upto_length {α : Type} (f : Nat → α) (k : Nat) : (upto f k).length = k := by simp [upto]
theorem wArr_size {x : NW} : (wArr x.1.2).size = 65 := by simp [wArr, wcell, bytes_length, x.2]

set_option maxRecDepth 100000 in
set_option maxHeartbeats 2000000 in
theorem backward1_in (F : Fence) (n : Nat) (h7 : F.fn 87) (hro : F.round = none) (hn : 1 ≤ n) (l Bs n₀ b len cap : Nat) (A : Option Addr) (hlen : len ≤ 1000000) (hb : b < n₀) (hA : 0 < len → A = some ⟨b, 0, none⟩) (f : Nat → NW) (J Jx : List NW → World → Prop)
    (hf : ∀ k i, len = k + 1 + i → (f k).1.1 = i)
    (hY : ∀ pre x W, J pre W → pre.length < len → YieldAt F (n - 1) Tryz.prog l #[.int .i64 (x.1.1 : Int), .agg (wArr x.1.2)] W fun e W' =>
      (e = .returned (.bool true) ∧ J (pre ++ [x]) W' ∧ Below n₀ W W') ∨ (e = .returned (.bool false) ∧ Jx (pre ++ [x]) W'))
    (W : World) (hBs : Bs < n₀) (hBc : W.cell? ⟨Bs, 0, none⟩ = some (.slice A len cap)) (hc : ∀ k i, len = k + 1 + i → W.rangeAt b (i * 65) (wcell (f k).1.2)) (h0 : J [] W) :
    CallsIn F n Tryz.prog 87 #[.func (.yield l) #[] #[], .pointer (some ⟨Bs, 0, none⟩)] W fun e W' => (∃ v, e = .returned v) ∧
      ((∃ ys, ys = upto f len ∧ J ys W') ∨ (∃ pre, (∃ k, k < len ∧ pre = upto f (k + 1)) ∧ Jx pre W')) := by
  refine callsIn_of_wp Tryz.func87 rfl h7 ?_ hro
  simp only [Tryz.ntmps87, List.size_toArray, List.length_cons, List.length_nil, Nat.reduceAdd, Nat.reduceSub, Array.replicate_succ, Array.replicate_zero, List.push_toArray, List.append_toArray, List.nil_append, List.cons_append]
  have Hc := Lib.hid hc; clear hc
  have Hf := Lib.hid hf; clear hf
  have HA := Lib.hid hA; clear hA
  gi_wp2
  gi_loopw [3] (fun i wr => (∃ k i' : Nat, i = .int .i64 (i' : Int) ∧ len = k + 1 + i' ∧ J (upto f k) wr ∧ Below n₀ W wr) ∨ (i = .int .i64 (-1) ∧ J (upto f len) wr ∧ Below n₀ W wr))
    (fun i _ => (intOf i + 1).toNat)
  case atStart =>
    by_cases h : len = 0
    · subst h
      exact .inr ⟨rfl, h0, Below.refl _ _⟩
    · exact .inl ⟨0, len - 1, by congr 1; omega, by omega, h0, Below.refl _ _⟩
  case round =>
    rcases hrel with ⟨k, i, rfl, hk, hJs, hnx⟩ | ⟨rfl, hJs, hnx⟩
    · have hra : wr.rangeAt b (i * 65) (wcell (f k).1.2) := fun j v hv => by
        have := Hc.out k i hk j v hv
        rw [hnx.cell (p := ⟨b, i * 65 + j, none⟩) hb]
        exact this
      have hld := ldWr_run hra (by simp [wcell, bytes_length, (f k).2])
      have hcB : wr.cell? ⟨Bs, 0, none⟩ = some (.slice A len cap) := (hnx.cell (p := ⟨Bs, 0, none⟩) hBs).trans hBc
      obtain rfl := HA.out (by omega)
      obtain ⟨fn, tmps, assign, body, hy, hR⟩ := hY _ (f k) wr hJs (by rw [upto_length]; omega)
      rw [Hf.out k i hk] at hy
      rw [show (wcell (f k).1.2).toArray = wArr (f k).1.2 from rfl] at hld
      have b0 : (0 : Int) ≤ (i : Int) := by omega
      have b1 : (i : Int) < (len : Int) := by omega
      have Hk := Lib.hid hk; clear hk hra
      gi_wp2
      refine hR.mono ?_
      rintro e W3 (⟨rfl, hJ3, hk3⟩ | ⟨rfl, hJx3⟩)
      · gi_wp2
        go_roundw
        case rel =>
          have hk := Hk.out
          by_cases h : i = 0
          · subst h
            exact .inr ⟨rfl, by rw [show len = k + 1 by omega, upto_succ]; exact hJ3, hnx.trans hk3⟩
          · exact .inl ⟨k + 1, i - 1, by congr 1; omega, by omega, by rw [upto_succ]; exact hJ3, hnx.trans hk3⟩
        case measure => simp [intOf]
      · gi_wp2
        refine bodyPost_ret (results_none rfl _ _ _) rfl ?_
        exact ⟨⟨_, rfl⟩, .inr ⟨_, ⟨k, by have := Hk.out; omega, (upto_succ _ _).symm⟩, hJx3⟩⟩
    · gi_wp2
      go_end0
      exact ⟨⟨_, rfl⟩, .inl ⟨_, rfl, hJs⟩⟩

set_option maxHeartbeats 1000000 in
theorem backward_in (F : Fence) (n : Nat) (h5 : F.fn 76) (hro : F.round = none) (a : Option Addr) (len cap : Nat) (w : World) :
    CallsIn F n Tryz.prog 76 #[.slice a len cap] w fun e w' => e = .returned (.func (.func 87) #[] #[.pointer (some ⟨w.heap.size, 0, none⟩)]) ∧ w' = w.alloc (.cells #[.slice a len cap] 52) := by
  refine callsIn_of_wp Tryz.func76 rfl h5 ?_ hro
  simp only [Tryz.ntmps76, List.size_toArray, List.length_cons, List.length_nil, Nat.reduceAdd, Nat.reduceSub, Array.replicate_succ, Array.replicate_zero, List.push_toArray, List.append_toArray, List.nil_append, List.cons_append]
  gi_wp2
  go_ret
  exact ⟨rfl, rfl⟩

/-- a range over them: all of them, the last first; or up to one at which it left -/
theorem backward_stops (F : Fence) (n : Nat) (h7 : F.fn 87) (hro : F.round = none) (hn : 1 ≤ n) (Bs n₀ b len cap : Nat) (A : Option Addr) (hlen : len ≤ 1000000) (hb : b < n₀) (hA : 0 < len → A = some ⟨b, 0, none⟩) (f : Nat → NW)
    (hf : ∀ k i, len = k + 1 + i → (f k).1.1 = i) (w : World) (hBs : Bs < n₀) (hn₀ : n₀ ≤ w.heap.size) (hBc : w.cell? ⟨Bs, 0, none⟩ = some (.slice A len cap)) (hc : ∀ k i, len = k + 1 + i → w.rangeAt b (i * 65) (wcell (f k).1.2)) :
    SeqStopsK F n Tryz.prog 87 #[.pointer (some ⟨Bs, 0, none⟩)] encW (Below n₀) (fun ys => ys = upto f len) (fun pre => ∃ k, k < len ∧ pre = upto f (k + 1)) len w := fun l J Jx W hW _ _ hY h0 =>
  backward1_in F n h7 hro hn l Bs n₀ b len cap A hlen hb hA f J Jx hf hY W hBs ((hW.cell (p := ⟨Bs, 0, none⟩) (by show Bs < _; omega)).trans hBc)
    (fun k i hk j v hv => (hW.cell (p := ⟨b, i * 65 + j, none⟩) (by show b < _; omega)).trans (hc k i hk j v hv)) h0
end Go.Proofs.YtjekcaoonaniaaaGreat
