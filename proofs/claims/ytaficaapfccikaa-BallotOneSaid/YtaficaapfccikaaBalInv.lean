/-
  What BallotOne's loop keeps: whom a ballot's votes were given to, by terms; an array of 300 ints. No condition but what each lemma names.
-/
import Derived.Test.YtaficaapfccikaaBalAwk
namespace Go.Proofs.Ytaficaapfccikaa
open Go.ChangeShapes Go.WideShapes Go.ChangeAt Go.RowKit
set_option linter.unusedVariables false

/-- F: by terms, 0 or one more than who was voted for -/
def InvB (b : Bal) (F : Nat → Int) : Prop := ∀ k, F k ≠ 0 → (k : Int) ≤ b.te ∧ ((k : Int) = b.te → b.vo = F k - 1)
theorem inv_zero (b : Bal) : InvB b (fun _ => 0) := fun k h => absurd rfl h
theorem inv_see {b : Bal} {F : Nat → Int} (h : InvB b F) (t : Int) : InvB (seeB b t) F := fun k hk => by
  obtain ⟨h1, h2⟩ := h k hk
  unfold seeB
  split
  · simp only; exact ⟨by omega, fun e => by omega⟩
  · exact ⟨h1, h2⟩
theorem inv_old {b : Bal} {F : Nat → Int} (h : InvB b F) {k : Nat} {who : Int} {n : Bool} (hg : GivenB b k who n) : F k = 0 ∨ F k = 1 + who := by
  by_cases h0 : F k = 0
  · exact .inl h0
  · obtain ⟨h1, h2⟩ := inv_see h (k : Int) k h0
    obtain ⟨g1, _, g3, _, g5⟩ := hg
    have := h2 g1.symm
    rcases g5 with g5 | g5
    · exact absurd (by omega) h0
    · exact .inr (by omega)
theorem inv_new {b : Bal} {F : Nat → Int} (h : InvB b F) {k : Nat} {who : Int} {n : Bool} (hg : GivenB b k who n) : InvB ⟨k, who⟩ (fun i => if i = k then 1 + who else F i) := fun i hi => by
  by_cases e : i = k
  · subst e
    simp only [if_true]
    exact ⟨by omega, fun _ => by omega⟩
  · simp only [if_neg e] at hi ⊢
    obtain ⟨h1, h2⟩ := inv_see h (k : Int) i hi
    have := hg.1
    exact ⟨by omega, fun e2 => by omega⟩

/-- the array at g -/
def GivAt (w : World) (g : Nat) (F : Nat → Int) : Prop := ∃ cs, w.heap[g]? = some (.cells cs 32 (0, 0)) ∧ cs.size = 300 ∧ ∀ i, i < 300 → cs[i]? = some (.int .i64 (F i))
def z300 : Array Value := Array.replicate 300 (.int .i64 0)
def z300V : Value := .agg z300
theorem z300_run (w : World) : (zeroValue 32).run Try.prog w = .ok (.agg z300) w := (zero_of_info (n := 300) (v := z300V) (by kernel_rfl)).1 w
theorem GivAt.new (w : World) : GivAt (w.alloc (.cells z300 32)) w.heap.size (fun _ => 0) :=
  ⟨z300, heap_alloc_new _ _, by simp [z300], fun i hi => by simp [z300, hi]⟩
theorem GivAt.below {w w' : World} {g : Nat} {F : Nat → Int} (h : GivAt w g F) (hb : Below w.heap.size w w') : GivAt w' g F := by
  obtain ⟨cs, h1, h2⟩ := h
  exact ⟨cs, row_below h1 hb, h2⟩
theorem GivAt.cell {w : World} {g : Nat} {F : Nat → Int} (h : GivAt w g F) {i : Nat} (hi : i < 300) : w.cell? ⟨g, i, none⟩ = some (.int .i64 (F i)) := by
  obtain ⟨cs, h1, h2, h3⟩ := h
  rw [row_cell h1 i]; exact h3 i hi
theorem GivAt.thaw {w : World} {g : Nat} {F : Nat → Int} (h : GivAt w g F) (i : Nat) : w.frozen? ⟨g, i, none⟩ = false := by
  obtain ⟨cs, h1, h2, h3⟩ := h
  exact row_frozen h1 i
theorem GivAt.set {w : World} {g : Nat} {F : Nat → Int} (h : GivAt w g F) {k : Nat} (hk : k < 300) (x : Int) : GivAt (w.setCell ⟨g, k, none⟩ (.int .i64 x)) g (fun i => if i = k then x else F i) := by
  obtain ⟨cs, h1, h2, h3⟩ := h
  refine ⟨_, row_set h1 k _, by simpa using h2, fun i hi => ?_⟩
  rw [Array.getElem?_setIfInBounds]
  by_cases e : k = i
  · subst e
    simp [h2, hi]
  · have e2 : ¬ i = k := fun h => e h.symm
    simp only [if_neg e, if_neg e2]
    exact h3 i hi
theorem GivAt.put_else {w : World} {g k : Nat} {F : Nat → Int} (h : GivAt w g F) (hk : ¬ k = g) (cs : Array Value) : GivAt (w.setRow k cs) g F := by
  obtain ⟨c2, h1, h2⟩ := h
  exact ⟨c2, by rw [setRow_other w k g _ (fun e => hk e.symm)]; exact h1, h2⟩
end Go.Proofs.Ytaficaapfccikaa
