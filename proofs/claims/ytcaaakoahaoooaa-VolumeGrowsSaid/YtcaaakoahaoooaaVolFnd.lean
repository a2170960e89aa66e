/-
  Contracts of volume's find, and of Chunk. Conditions: a state in memory, whose numbers are within bounds; chunks rise in each volume, and no number is there twice.
-/
import Derived.Test.YtcaaakoahaoooaaVolPol
namespace Go.Proofs.Ytcaaakoahaoooaa
open Go.ChangeShapes Go.WideShapes Go.ChangeAt Go.RowKit
set_option linter.unusedVariables false

/-- chunks rise in each volume, and no number is there twice -/
structure OrdS (s : St) : Prop where
  rise : ∀ i, i < 64 → RiseK (s.vs i).ks
  one : ∀ i i', i < 64 → i' < 64 → ∀ k ∈ (s.vs i).ks, ∀ k' ∈ (s.vs i').ks, k.id = k'.id → i = i'
theorem RiseK.one {X : List Chk} (h : RiseK X) {i j : Nat} {k k' : Chk} (hi : X[i]? = some k) (hj : X[j]? = some k') (e : k.id = k'.id) : i = j := by
  obtain ⟨h1, rfl⟩ := List.getElem?_eq_some_iff.1 hi
  obtain ⟨h2, rfl⟩ := List.getElem?_eq_some_iff.1 hj
  have hp := List.pairwise_iff_getElem.1 h
  rcases (by omega : i < j ∨ i = j ∨ j < i) with h3 | h3 | h3
  · have := hp i j h1 h2 h3; omega
  · exact h3
  · have := hp j i h2 h1 h3; omega
theorem OrdS.uniq {s : St} (h : OrdS s) {id : Int} {i j i' j' : Nat} {k k' : Chk} (a : FoundAt s id i j k) (b : FoundAt s id i' j' k') : i = i' ∧ j = j' ∧ k = k' := by
  obtain ⟨a1, a2, a3⟩ := a
  obtain ⟨b1, b2, b3⟩ := b
  obtain rfl := h.one i i' a1 b1 k (List.mem_of_getElem? a2) k' (List.mem_of_getElem? b2) (a3.trans b3.symm)
  obtain rfl := (h.rise i a1).one a2 b2 (a3.trans b3.symm)
  rw [a2] at b2
  injection b2 with b2
  exact ⟨rfl, rfl, b2⟩
theorem OrdS.find {s : St} (h : OrdS s) {id : Int} {i j : Nat} {k : Chk} (a : FoundAt s id i j k) : findS s id = some (i, j, k) := by
  cases hf : findS s id with
  | none => exact absurd a.2.2 (findS_none hf i a.1 k (List.mem_of_getElem? a.2.1))
  | some x =>
    obtain ⟨i', j', k'⟩ := x
    obtain ⟨rfl, rfl, rfl⟩ := h.uniq a (findS_some hf)
    rfl
theorem noChunk_find {s : St} {id : Int} (h : NoChunk s id) : findS s id = none := by
  cases hf : findS s id with
  | none => rfl
  | some x =>
    obtain ⟨i', j', k'⟩ := x
    have := findS_some hf
    exact absurd this.2.2 (h i' this.1 k' (List.mem_of_getElem? this.2.1))
/-- find's answer, told -/
def findV (g : Nat) : Option (Nat × Nat × Chk) → Value
  | some (i, j, _) => .tuple #[.pointer (some ⟨g, 16 + i * 7, none⟩), .int .i64 (j : Int), .bool true]
  | none => .tuple #[.pointer none, .int .i64 0, .bool false]
set_option maxRecDepth 100000 in
set_option maxHeartbeats 1000000 in
theorem Vfind (g : Nat) (s : St) (id : Int) (w : World) (h : StAt w g s) (hf : StFit s) (ho : OrdS s) :
    Calls Try.prog 35 #[.pointer (some ⟨g, 0, none⟩), .int .i64 id] w fun e w' => e = .returned (findV g (findS s id)) ∧ Below w.heap.size w w' := by
  obtain ⟨cs, K, X, h⟩ := h
  have H := Lib.hid h; have Hf := Lib.hid hf; have Ho := Lib.hid ho
  clear h hf ho
  go_enter Try.func35, Try.ntmps35
  go_wp2
  go_loopw [4, 5, 6, 7, 8] (fun _ _ _ _ iv wr => ∃ i : Nat, i ≤ 64 ∧ iv = .int .i64 (i : Int) ∧ (∀ q, q < i → ∀ k ∈ (s.vs q).ks, k.id ≠ id) ∧ Below w.heap.size w wr) (fun _ _ _ _ iv _ => 64 - (intOf iv).toNat)
  case atStart => exact ⟨0, by omega, rfl, fun q h => by omega, Below.refl _ _⟩
  case round =>
    obtain ⟨i, hin, rfl, hno, hb⟩ := hrel
    by_cases hi : i < 64
    · have h := H.out.below hb
      have i0 : (0 : Int) ≤ (i : Int) := by omega
      have i1 : (i : Int) < 64 := by omega
      have c6 : wr.cell? ⟨g, 16 + i * 7 + 6, none⟩ = some (.slice (K i).A (K i).n (K i).c) := by rw [h.cell]; exact h.c6 i hi
      have hkl := (Hf.out.vs i hi).kl
      rw [← h.dat i hi, List.length_map] at hkl
      have hri := Ho.out.rise i hi
      rw [← h.dat i hi] at hri
      have KB := Lib.hid (VBs (K i) (X i) id wr (h.ks i hi) hkl hri)
      rw [h.dat i hi] at KB
      have Hb := Lib.hid hb; have Hno := Lib.hid hno
      clear hb hno hkl hri h
      go_wp2_with fail
      refine KB.out.mono ?_
      rintro e w2 ⟨q, b, rfl, hq, hy, hn, hb2⟩
      have Hb2 := Lib.hid (Hb.out.trans (hb2.mono Hb.out.size)); have Hy := Lib.hid hy; have Hn := Lib.hid hn
      clear hb2 hy hn
      cases b with
      | true =>
        go_wp2
        go_ret3
        obtain ⟨k, hk, he⟩ := Hy.out (by first | trivial | rfl)
        have := Ho.out.find (i := i) (j := q) (k := k) ⟨hi, hk, he⟩
        rw [this]
        exact ⟨rfl, Hb2.out⟩
      | false =>
        go_wp2
        go_roundw
        case rel =>
          refine ⟨i + 1, by omega, by go_num, fun q' hq' => ?_, Hb2.out⟩
          rcases (by omega : q' < i ∨ q' = i) with h3 | rfl
          · exact Hno.out q' h3
          · exact Hn.out (by first | trivial | rfl)
        case measure => simp [intOf]; omega
    · obtain rfl : i = 64 := by omega
      have i1 : ¬ ((64 : Nat) : Int) < 64 := by omega
      have Hb := Lib.hid hb; have Hno := Lib.hid hno
      clear hb hno
      go_wp2
      go_ret3
      rw [noChunk_find Hno.out]
      exact ⟨rfl, Hb.out⟩
end Go.Proofs.Ytcaaakoahaoooaa
