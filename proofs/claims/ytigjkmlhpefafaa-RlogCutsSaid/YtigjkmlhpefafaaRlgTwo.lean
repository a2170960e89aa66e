/-
  Logs that stand side by side, and a leader's entries as the laws of dotterellaw14 push them. Conditions: what each names.
-/
import Derived.Test.YtigjkmlhpefafaaRlgPcs
namespace Go.Proofs.Ytigjkmlhpefafaa
open Go.ChangeShapes Go.WideShapes Go.ChangeAt Go.RowKit
set_option linter.unusedVariables false

theorem LogD.base {w : World} {B B' g : Nat} {q : Option Nat} {base term : Int} {x : List Dat} (h : LogD w B' g q base term x) (hB : B ≤ B') : LogD w B g q base term x := by
  obtain ⟨X, e, h⟩ := h
  obtain ⟨A, c, h1, h2, h3⟩ := h.row
  exact ⟨X, e, Nat.le_trans hB h.hB, ⟨A, c, h1, own_baseM h2 hB, h3⟩, h.ok⟩
/-- two logs have no block in common -/
def Apart (g : Nat) (q : Option Nat) (g' : Nat) (q' : Option Nat) : Prop := ∀ i, FootL g q i → ¬ FootL g' q' i
theorem Apart.symm {g g' : Nat} {q q' : Option Nat} (h : Apart g q g' q') : Apart g' q' g q := fun i h1 h2 => h i h2 h1
theorem Apart.none {g g' : Nat} (h : g ≠ g') : Apart g none g' none := fun i h1 h2 => by
  rcases h1 with rfl | h1
  · rcases h2 with e | h2
    · exact h e
    · cases h2
  · cases h1
/-- one of two logs is written -/
theorem GrewL.beside {w w' : World} {B B' g g' : Nat} {q q' : Option Nat} {base term base0 term0 base' term' : Int} {x x0 y : List Dat} (h : GrewL B g q base term x w w') (h0 : LogD w B g q base0 term0 x0) (k : LogD w B' g' q' base' term' y) (hap : Apart g' q' g q) :
    LogD w' B' g' q' base' term' y := h.other (base' := base0) (term' := term0) (x0 := x0) h0 k hap
theorem Apart.grown {w : World} {B' g g' : Nat} {q q' q1 : Option Nat} {base' term' : Int} {y : List Dat} (hap : Apart g' q' g q) (k : LogD w B' g' q' base' term' y) (hq : ∀ k, q1 = some k → q = some k ∨ w.heap.size ≤ k) : Apart g' q' g q1 := fun i h1 h2 => by
  rcases h2 with e | e
  · exact hap i h1 (.inl e)
  · rcases hq i e with e | e
    · exact hap i h1 (.inr e)
    · have := (k.block h1).2
      omega
theorem u8_toV {m : Nat} (h : m < 256) : byteV (UInt8.ofNat m) = .int .u8 (m : Int) := by simp [byteV]; omega
/-- a slice of one byte, just laid -/
theorem byte_box (w : World) {i : Nat} (h : i < 256) : ∃ W, w.alloc (.cells #[.int .u8 (i : Int)] 5) = W ∧ Below w.heap.size w W ∧ Seen W (some ⟨w.heap.size, 0, none⟩) (bytesV [UInt8.ofNat i]) :=
  ⟨_, rfl, (Below.refl _ _).alloc (Nat.le_refl _) _, by
    have := Seen.of_cells (heap_alloc_new w (.cells #[.int .u8 (i : Int)] 5))
    rw [show bytesV [UInt8.ofNat i] = [byteV (UInt8.ofNat i)] from rfl, u8_toV h]
    exact this⟩
theorem i64_small {z : Int} (h0 : 0 ≤ z) (h1 : z ≤ 1000000) : IntKind.i64.wrap z = z := by have := i64_add (a := z) (b := 0) (by omega) (by omega); simpa using this
end Go.Proofs.Ytigjkmlhpefafaa
