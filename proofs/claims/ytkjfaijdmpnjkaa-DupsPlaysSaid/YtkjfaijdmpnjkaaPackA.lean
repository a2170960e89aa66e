/-
  Contract of dotterellaw03.awake, and words for what outlasts a call.
-/
import Derived.Test.YtkjfaijdmpnjkaaPackR
namespace Go.Proofs.Ytkjfaijdmpnjkaa
open Go.ChangeShapes Go.WideShapes Go.ChangeAt Go.RowKit
set_option linter.unusedVariables false

theorem GrewW.below {w w' : World} {B g : Nat} {r : Option Nat} {xs ys : List UInt8} (hw : IsW w B g r xs) (h : GrewW B g r ys w w') : Below B w w' := by
  obtain ⟨r', h1, h2, h3⟩ := h
  refine h3.below (fun k hk => ?_) (by have := hw.lt.1; have := hw.1; omega)
  rcases hk with rfl | hk
  · exact hw.1
  · exact (hw.lt.2 k hk).1
theorem IsW.below {w w' : World} {B g : Nat} {r : Option Nat} {xs : List UInt8} (h : IsW w B g r xs) (hb : Below w.heap.size w w') : IsW w' B g r xs := h.turned (p := fun _ => False) (.of_below hb) (fun e => e) (fun _ _ e => e)
theorem IsW.alloc {w : World} {B g : Nat} {r : Option Nat} {xs : List UInt8} (h : IsW w B g r xs) (o : Obj) : IsW (w.alloc o) B g r xs := h.below ((Below.refl _ _).alloc (Nat.le_refl _) o)
theorem IsR.alloc {w : World} {g e : Nat} {bs : List UInt8} (h : IsR w g bs e) (o : Obj) : IsR (w.alloc o) g bs e := h.below ((Below.refl _ _).alloc (Nat.le_refl _) o)

theorem read_300 : rdNum [172, 2] 0 300 = (300, [], 0) := by
  have h := numR_numB (n := 300) (by omega) []
  rw [List.append_nil, awake_num] at h
  unfold rdNum
  rw [h]
  rfl
end Go.Proofs.Ytkjfaijdmpnjkaa
