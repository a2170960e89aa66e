/-
  Contracts of dotterelref02.Open and dotterellaw02.awake.
-/
import Derived.Test.YteebkolccbcehaaCrcE
import Derived.Lib.SlBytesConst
import Derived.Lib.SmallJoins
namespace Go.Proofs.Yteebkolccbcehaa
open Go.ChangeShapes Go.WideShapes Go.ChangeAt Go.RowKit
set_option linter.unusedVariables false

theorem openB_same {bs : List UInt8} {n : Nat} (hn : bs.length = n + 4) : openB bs = decide (sealOf (bs.take n) = bs) := by
  unfold openB sealOf
  rw [hn, show n + 4 - 4 = n by omega, decide_eq_true (show 4 ≤ n + 4 by omega), Bool.true_and]
  have e := List.take_append_drop n bs
  rw [Bool.eq_iff_iff, decide_eq_true_eq, decide_eq_true_eq]
  constructor
  · intro h; rw [← h]; exact e
  · intro h
    have h2 : bs.take n ++ le4 (crcOf (bs.take n)) = bs.take n ++ bs.drop n := h.trans e.symm
    exact (List.append_cancel_left h2).symm

theorem ROpen_any (A : Option Addr) (n c : Nat) (bs : List UInt8) (w : World) (hn : bs.length = n) (hl : n ≤ 900000) (hc : n ≤ c) (hcm : c ≤ maxLen) (h : Seen w A (bytesV bs)) :
    Calls Try.prog 27 #[.slice A n c] w fun e w' => e = .returned (.tuple #[if openB bs then .slice A (n - 4) c else .slice none 0 0, .bool (openB bs)]) ∧ Below w.heap.size w w' := by
  unfold maxLen at hcm
  by_cases h4 : n < 4
  · have hf : openB bs = false := by unfold openB; rw [decide_eq_false (by omega)]; rfl
    rw [hf]
    go_enter Try.func27, Try.ntmps27
    go_wp2
    go_ret2
    exact ⟨rfl, Below.refl _ _⟩
  · obtain ⟨m, rfl⟩ : ∃ m, n = m + 4 := ⟨n - 4, by omega⟩
    have hs := openB_same hn
    have Hn := Lib.hid hn; clear hn
    have Hh := Lib.hid h; clear h
    have b0 : (0 : Int) ≤ (m : Int) := by omega
    have b2 : (m : Int) + 4 ≤ (c : Int) := by omega
    have b3 : (m : Int) ≤ (c : Int) := by omega
    cases hB : openB bs with
    | false =>
      rw [hB] at hs
      have Hs := Lib.hid hs; clear hs hB
      go_enter Try.func27, Try.ntmps27
      go_wp2_with (first | (go_at_call 20; refine (RSeal_any A m c (bs.take m) _ (by have := Hn.out; simp; omega) (seen_take m Hh.out) (by omega)).mono ?_; rintro e w2 ⟨A2, c2, rfl, hown2, hb2⟩) | (go_at_call 17; refine (Same_any A2 A _ (m + 4) c2 c (sealOf (bs.take m)) bs _ (bytes_length _).symm Hn.out (Seen.of_own hown2) (Hh.out.below hb2) (by have := Hn.out; rw [bytes_length, sealOf_length]; simp; omega)).mono ?_; rintro e w3 ⟨rfl, hb3⟩; rw [← Hs.out]; have Hb3 := Lib.hid (hb2.trans (hb3.mono hb2.size)); clear hb2 hb3))
      go_ret2
      exact ⟨rfl, Hb3.out⟩
    | true =>
      rw [hB] at hs
      have Hs := Lib.hid hs; clear hs hB
      go_enter Try.func27, Try.ntmps27
      go_wp2_with (first | (go_at_call 20; refine (RSeal_any A m c (bs.take m) _ (by have := Hn.out; simp; omega) (seen_take m Hh.out) (by omega)).mono ?_; rintro e w2 ⟨A2, c2, rfl, hown2, hb2⟩) | (go_at_call 17; refine (Same_any A2 A _ (m + 4) c2 c (sealOf (bs.take m)) bs _ (bytes_length _).symm Hn.out (Seen.of_own hown2) (Hh.out.below hb2) (by have := Hn.out; rw [bytes_length, sealOf_length]; simp; omega)).mono ?_; rintro e w3 ⟨rfl, hb3⟩; rw [← Hs.out]; have Hb3 := Lib.hid (hb2.trans (hb3.mono hb2.size)); clear hb2 hb3))
      go_ret2
      exact ⟨rfl, Hb3.out⟩

theorem awake_sum : crcOf [49, 50, 51, 52, 53, 54, 55, 56, 57] = 3421780262 := by kernel_rfl

/-- Sum of two lists -/
theorem Sum_two (A1 A2 : Option Addr) (n1 c1 n2 c2 c : Nat) (b1 b2 : List UInt8) (w : World) (g q : Nat) (hq : crcOf (b1 ++ b2) = q) (h1n : b1.length = n1) (h2n : b2.length = n2) (hs1 : w.cell? ⟨g, 0, none⟩ = some (.slice A1 n1 c1)) (hs2 : w.cell? ⟨g, 1, none⟩ = some (.slice A2 n2 c2))
    (h1 : Seen w A1 (bytesV b1)) (h2 : Seen w A2 (bytesV b2)) (hl1 : n1 ≤ 1000000) (hl2 : n2 ≤ 1000000) :
    Calls Try.prog 26 #[.slice (some ⟨g, 0, none⟩) 2 c] w fun e w' => e = .returned (.int .u32 (q : Int)) ∧ Below w.heap.size w w' := by
  subst h1n; subst h2n; subst hq
  have := Sum_any g c [(A1, b1.length, c1), (A2, b2.length, c2)] [b1, b2] w ⟨rfl, fun i A' n' c' hi => by
    rcases i with _ | _ | i
    · simp only [List.getElem?_cons_zero, Option.some.injEq, Prod.mk.injEq] at hi
      obtain ⟨rfl, rfl, rfl⟩ := hi
      exact ⟨b1, rfl, rfl, hl1, h1⟩
    · simp only [List.getElem?_cons_succ, List.getElem?_cons_zero, Option.some.injEq, Prod.mk.injEq] at hi
      obtain ⟨rfl, rfl, rfl⟩ := hi
      exact ⟨b2, rfl, rfl, hl2, h2⟩
    · simp at hi⟩ (fun j v hv => by
      rcases j with _ | _ | j
      · simp [listsV] at hv; subst hv; exact hs1
      · simp [listsV] at hv; subst hv; exact hs2
      · simp [listsV] at hv) (by simp)
  simpa using this

theorem heap3 (w : World) (a b c : Obj) : (((w.alloc a).alloc b).alloc c).heap[w.heap.size]? = some a ∧ (((w.alloc a).alloc b).alloc c).heap[w.heap.size + 1]? = some b ∧ (((w.alloc a).alloc b).alloc c).heap[w.heap.size + 1 + 1]? = some c := by
  show (((w.heap.push a).push b).push c)[w.heap.size]? = some a ∧ (((w.heap.push a).push b).push c)[w.heap.size + 1]? = some b ∧ (((w.heap.push a).push b).push c)[w.heap.size + 1 + 1]? = some c
  refine ⟨?_, ?_, ?_⟩
  · rw [Array.getElem?_push, if_neg (by simp; omega), Array.getElem?_push, if_neg (by simp), Array.getElem?_push, if_pos rfl]
  · rw [Array.getElem?_push, if_neg (by simp), Array.getElem?_push, if_pos (by simp)]
  · rw [Array.getElem?_push, if_pos (by simp)]
end Go.Proofs.Yteebkolccbcehaa
