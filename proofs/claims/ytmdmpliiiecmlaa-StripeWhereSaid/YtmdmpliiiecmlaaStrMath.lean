/-
  Pieces of a range, by definition: a piece of each chunk that the range reaches; how their list grows, chunk by chunk and block by block. It speaks of no program. No condition but what each lemma names.
-/
import Derived.Test.YtmdmpliiiecmlaaOwnM
namespace Go.Proofs.Ytmdmpliiiecmlaa
open Go.ChangeShapes Go.WideShapes Go.ChangeAt Go.RowKit
set_option linter.unusedVariables false

structure Pc where
  ch : Int
  pa : Int
  ma : Int
  pf : Int
/-- the piece of the chunk k of the blocks from f up to e -/
def pcAt (f e k : Nat) : Pc := ⟨(k : Int), ((max (8 * k) f - 8 * k : Nat) : Int), ((min (8 * k + 8) e - max (8 * k) f : Nat) : Int), ((max (8 * k) f - f : Nat) : Int)⟩
/-- the pieces of the chunks below k -/
def pcsTo (f e k : Nat) : List Pc := (List.range (k - f / 8)).map fun j => pcAt f e (f / 8 + j)
/-- the pieces of the blocks from f up to e -/
def pcsF (f e : Nat) : List Pc := if f < e then pcsTo f e ((e - 1) / 8 + 1) else []
theorem pcsTo_length (f e k : Nat) : (pcsTo f e k).length = k - f / 8 := by simp [pcsTo]
theorem pcsTo_get {f e k j : Nat} (h : j < k - f / 8) : (pcsTo f e k)[j]? = some (pcAt f e (f / 8 + j)) := by
  simp [pcsTo, h]
theorem pcsTo_none {f e k : Nat} (h : k ≤ f / 8) : pcsTo f e k = [] := by
  unfold pcsTo
  rw [show k - f / 8 = 0 by omega]; rfl
theorem pcsTo_more {f e k : Nat} (h : f / 8 ≤ k) : pcsTo f e (k + 1) = pcsTo f e k ++ [pcAt f e k] := by
  unfold pcsTo
  rw [show k + 1 - f / 8 = (k - f / 8) + 1 by omega, List.range_succ, List.map_append]
  simp only [List.map_cons, List.map_nil]
  rw [show f / 8 + (k - f / 8) = k by omega]
theorem pcsF_length (f e : Nat) : (pcsF f e).length = if f < e then (e - 1) / 8 + 1 - f / 8 else 0 := by
  unfold pcsF
  split
  · exact pcsTo_length _ _ _
  · rfl
theorem pcsF_get {f e j : Nat} (h : f < e) (hj : j < (e - 1) / 8 + 1 - f / 8) : (pcsF f e)[j]? = some (pcAt f e (f / 8 + j)) := by
  unfold pcsF
  rw [if_pos h]
  exact pcsTo_get hj
theorem pcsTo_eq {f e e' k : Nat} (h1 : 8 * k ≤ e) (h2 : 8 * k ≤ e') : pcsTo f e k = pcsTo f e' k := by
  unfold pcsTo
  apply List.map_congr_left
  intro j hj
  have := List.mem_range.1 hj
  unfold pcAt
  congr 2
  omega
/-- one block more, which begins a piece -/
theorem pcsF_new {f i : Nat} (h : i = 0 ∨ (f + i) % 8 = 0) : pcsF f (f + i + 1) = pcsF f (f + i) ++ [⟨(((f + i) / 8 : Nat) : Int), (((f + i) % 8 : Nat) : Int), 1, (i : Int)⟩] := by
  have e1 : pcsF f (f + i + 1) = pcsTo f (f + i + 1) ((f + i) / 8 + 1) := by unfold pcsF; rw [if_pos (by omega)]; rfl
  rw [e1, pcsTo_more (by omega)]
  congr 1
  · rcases Nat.eq_zero_or_pos i with rfl | hi
    · unfold pcsF
      rw [if_neg (by omega), pcsTo_none (by omega)]
    · have hm : (f + i) % 8 = 0 := by omega
      unfold pcsF
      rw [if_pos (by omega), show (f + i - 1) / 8 + 1 = (f + i) / 8 by omega]
      exact pcsTo_eq (by omega) (by omega)
  · unfold pcAt
    congr 2 <;> omega
/-- one block more, of the last piece -/
theorem pcsF_same {f i : Nat} (h0 : i ≠ 0) (h8 : (f + i) % 8 ≠ 0) : ∃ X c a m o, pcsF f (f + i) = X ++ [⟨c, a, m, o⟩] ∧ pcsF f (f + i + 1) = X ++ [⟨c, a, m + 1, o⟩] ∧ 0 ≤ m ∧ m ≤ 8 := by
  have e1 : pcsF f (f + i + 1) = pcsTo f (f + i + 1) ((f + i) / 8 + 1) := by unfold pcsF; rw [if_pos (by omega)]; rfl
  have e2 : pcsF f (f + i) = pcsTo f (f + i) ((f + i) / 8 + 1) := by unfold pcsF; rw [if_pos (by omega), show (f + i - 1) / 8 = (f + i) / 8 by omega]
  rw [e1, e2, pcsTo_more (by omega), pcsTo_more (by omega), pcsTo_eq (e := f + i + 1) (e' := f + i) (by omega) (by omega)]
  refine ⟨_, _, _, _, _, rfl, ?_, ?_, ?_⟩
  · unfold pcAt
    congr 3
    omega
  · omega
  · omega

/-! ### as cells -/
def pcV (p : Pc) : List Value := [.int .i64 p.ch, .int .i64 p.pa, .int .i64 p.ma, .int .i64 p.pf]
def pcsV (l : List Pc) : List Value := l.flatMap pcV
theorem pcsV_append (a b : List Pc) : pcsV (a ++ b) = pcsV a ++ pcsV b := by simp [pcsV]
theorem pcsV_length (l : List Pc) : (pcsV l).length = l.length * 4 := by
  induction l with
  | nil => rfl
  | cons p r ih =>
    have : (pcsV (p :: r)).length = 4 + (pcsV r).length := by simp [pcsV, pcV]; omega
    rw [this, ih, List.length_cons]; omega
theorem pcsV_get : ∀ {l : List Pc} {i : Nat} {p : Pc}, l[i]? = some p → (pcsV l)[i * 4]? = some (.int .i64 p.ch) ∧ (pcsV l)[i * 4 + 1]? = some (.int .i64 p.pa) ∧ (pcsV l)[i * 4 + 2]? = some (.int .i64 p.ma) ∧ (pcsV l)[i * 4 + 3]? = some (.int .i64 p.pf)
  | [], _, _, h => by simp at h
  | q :: r, 0, p, h => by
    simp at h
    subst h
    exact ⟨rfl, rfl, rfl, rfl⟩
  | q :: r, i + 1, p, h => by
    have := pcsV_get (l := r) (i := i) (p := p) (by simpa using h)
    have e1 : (i + 1) * 4 = (i * 4) + 1 + 1 + 1 + 1 := by omega
    rw [e1]
    exact this
theorem pcsV_last (X : List Pc) (c a m o v : Int) : (pcsV (X ++ [⟨c, a, m, o⟩])).set (X.length * 4 + 2) (.int .i64 v) = pcsV (X ++ [⟨c, a, v, o⟩]) := by
  rw [pcsV_append, pcsV_append, List.set_append_right _ _ (by rw [pcsV_length]; omega), pcsV_length, show X.length * 4 + 2 - X.length * 4 = 2 by omega]
  rfl
end Go.Proofs.Ytmdmpliiiecmlaa
