/-
  Two flows that share as their weights, and a flow under a limit, as numbers. It speaks of no program. No condition but what each lemma names.
-/
import Derived.Lib.Hide
namespace Go.Proofs.Ytbfjakchgmdldaa
set_option linter.unusedVariables false

/-- two flows, picked by the least P (of like ones the first): c and d of each -/
theorem shares_pick {x y c d : Int} (hx : 0 < x) (hy : 0 < y) (h1 : c * x ≤ d * y + x) (h2 : d * y ≤ c * x + y) :
    (c * x ≤ d * y → (c + 1) * x ≤ d * y + x ∧ d * y ≤ (c + 1) * x + y) ∧ (d * y < c * x → c * x ≤ (d + 1) * y + x ∧ (d + 1) * y ≤ c * x + y) := by
  have e1 : (c + 1) * x = c * x + x := by rw [Int.add_mul, Int.one_mul]
  have e2 : (d + 1) * y = d * y + y := by rw [Int.add_mul, Int.one_mul]
  rw [e1, e2]
  omega
theorem shares_even {u v c d : Int} (hu : 1 ≤ u) (hu8 : u ≤ 8) (hv : 1 ≤ v) (hv8 : v ≤ 8) (hc : 0 ≤ c) (hc2 : c ≤ 200) (hd : 0 ≤ d) (hd2 : d ≤ 200)
    (h1 : c * (67108864 / u) ≤ d * (67108864 / v) + 67108864 / u) (h2 : d * (67108864 / v) ≤ c * (67108864 / u) + 67108864 / v) : c * v - d * u ≤ u + v ∧ -u - v ≤ c * v - d * u := by
  have eu : u = 1 ∨ u = 2 ∨ u = 3 ∨ u = 4 ∨ u = 5 ∨ u = 6 ∨ u = 7 ∨ u = 8 := by omega
  have ev : v = 1 ∨ v = 2 ∨ v = 3 ∨ v = 4 ∨ v = 5 ∨ v = 6 ∨ v = 7 ∨ v = 8 := by omega
  rcases eu with rfl | rfl | rfl | rfl | rfl | rfl | rfl | rfl <;> rcases ev with rfl | rfl | rfl | rfl | rfl | rfl | rfl | rfl <;> omega

/-- what is known of a flow with a Wide w and a Burst b whose operations were picked at the ticks ts, L standing at l -/
structure LimOk (w b : Int) (ts : List Int) (l : Int) : Prop where
  ahead : ∀ (a : Nat) x, ts[a]? = some x → 65536 * x + ((ts.length : Int) - a) * w - w * b ≤ l
  holds : ∀ (a z : Nat) x y, ts[a]? = some x → ts[z]? = some y → a ≤ z → (z : Int) - a + 1 ≤ 65536 * (y - x) / w + b + 1
theorem limOk_nil (w b l : Int) : LimOk w b [] l := ⟨fun a x h => by simp at h, fun a z x y h => by simp at h⟩
theorem limOk_more {w b l now : Int} {ts : List Int} (h : LimOk w b ts l) (hw : 1 ≤ w) (hb : 0 ≤ b) (hl : l ≤ 65536 * now) (ht : ∀ x ∈ ts, x ≤ now) :
    LimOk w b (ts ++ [now]) (max l (if 65536 * now < w * b then 0 else 65536 * now - w * b) + w) := by
  refine ⟨fun a x hx => ?_, fun a z x y hx hy haz => ?_⟩
  · simp only [List.length_append, List.length_cons, List.length_nil]
    by_cases ha : a < ts.length
    · rw [List.getElem?_append_left ha] at hx
      have := h.ahead a x hx
      have e : ((ts.length + (0 + 1) : Nat) : Int) - a = ((ts.length : Int) - a) + 1 := by omega
      rw [e, Int.add_mul, Int.one_mul]
      omega
    · rw [List.getElem?_append_right (by omega)] at hx
      have ha2 : a = ts.length := by
        have := (List.getElem?_eq_some_iff.1 hx).1
        simp at this
        omega
      subst ha2
      simp at hx
      subst hx
      have e : ((ts.length + (0 + 1) : Nat) : Int) - ts.length = 1 := by omega
      rw [e, Int.one_mul]
      omega
  · by_cases hz : z < ts.length
    · rw [List.getElem?_append_left hz] at hy
      rw [List.getElem?_append_left (by omega)] at hx
      exact h.holds a z x y hx hy haz
    · rw [List.getElem?_append_right (by omega)] at hy
      have hz2 : z = ts.length := by
        have := (List.getElem?_eq_some_iff.1 hy).1
        simp at this
        omega
      subst hz2
      simp at hy
      subst hy
      by_cases ha : a < ts.length
      · rw [List.getElem?_append_left ha] at hx
        have h1 := h.ahead a x hx
        have h2 : ((ts.length : Int) - a - b) * w ≤ 65536 * (now - x) := by
          rw [Int.sub_mul, Int.mul_comm b w]
          omega
        have := Int.le_ediv_of_mul_le (show 0 < w by omega) h2
        omega
      · rw [List.getElem?_append_right (by omega)] at hx
        have ha2 : a = ts.length := by omega
        subst ha2
        simp at hx
        subst hx
        have : 0 ≤ 65536 * (now - now) / w := Int.ediv_nonneg (by omega) (by omega)
        omega
end Go.Proofs.Ytbfjakchgmdldaa
