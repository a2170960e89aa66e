/-
  Contracts of clocks.ByLimit and ByReserve, and of dotterelref11's. Condition: that an int holds the numbers.
-/
import Derived.Test.YtbfjakchgmdldaaGreatClkW
namespace Go.Proofs.YtbfjakchgmdldaaGreat
open Go.ChangeShapes Go.WideShapes Go.ChangeAt Go.RowKit
set_option linter.unusedVariables false

theorem heap_two0 (w : World) (X Y : Obj) : ((w.alloc X).alloc Y).heap[w.heap.size]? = some X := by
  rw [Below.heap_alloc _ _ _ (by rw [size_box]; omega)]
  exact heap_alloc_new w X
attribute [local go_sem ↓] ldPol_eq ldClk_eq
set_option maxRecDepth 100000 in
set_option maxHeartbeats 2000000 in
theorem ByLimit_any (q : Pol) (c : Clk) (now : Int) (w : World) (hq : InP q) :
    Calls Tryz.prog 54 #[.agg #[.int .i64 q.re, .int .i64 q.we, .int .i64 q.li, .int .i64 q.bu], .agg #[.int .i64 c.r, .int .i64 c.p, .int .i64 c.l], .int .i64 now] w
      fun e w' => e = .returned (.bool (byLimitF q c now)) ∧ Below w.heap.size w w' := by
  have C1 := Lib.hid (Right_any q ((w.alloc (.cells #[.int .i64 q.re, .int .i64 q.we, .int .i64 q.li, .int .i64 q.bu] 28)).alloc (.cells #[.int .i64 c.r, .int .i64 c.p, .int .i64 c.l] 46)))
  have D : Hid (∀ w2, Below ((w.alloc (.cells #[.int .i64 q.re, .int .i64 q.we, .int .i64 q.li, .int .i64 q.bu] 28)).alloc (.cells #[.int .i64 c.r, .int .i64 c.p, .int .i64 c.l] 46)).heap.size ((w.alloc (.cells #[.int .i64 q.re, .int .i64 q.we, .int .i64 q.li, .int .i64 q.bu] 28)).alloc (.cells #[.int .i64 c.r, .int .i64 c.p, .int .i64 c.l] 46)) w2 →
      w2.cell? ⟨w.heap.size, 2, none⟩ = some (.int .i64 q.li) ∧ w2.cell? ⟨w.heap.size + 1, 2, none⟩ = some (.int .i64 c.l) ∧ Below w.heap.size w w2) :=
    Lib.hid fun w2 hb => ⟨by rw [hb.cell (by rw [size_box, size_box]; show w.heap.size < _; omega)]; exact row_cell (heap_two0 w _ _) 2, by rw [hb.cell (by rw [size_box, size_box]; show w.heap.size + 1 < _; omega)]; exact row_cell (heap_two w _ _) 2, (below_two w _ _).trans (hb.mono (below_two w _ _).size)⟩
  have hld := ldPol_run (w := (w.alloc (.cells #[.int .i64 q.re, .int .i64 q.we, .int .i64 q.li, .int .i64 q.bu] 28)).alloc (.cells #[.int .i64 c.r, .int .i64 c.p, .int .i64 c.l] 46)) (pol_of_row (heap_two0 w _ _) hq)
  have E : Hid (∀ b, rightP q = b → byLimitF q c now = (b && (decide (q.li = 0) || decide (c.l ≤ now)))) := Lib.hid fun b h => by unfold byLimitF; rw [h]
  obtain ⟨z, hz⟩ : ∃ z, byLimitF q c now = z := ⟨_, rfl⟩
  rw [hz] at E ⊢
  clear hz
  obtain ⟨b, hb⟩ : ∃ b, rightP q = b := ⟨_, rfl⟩
  have E := Lib.hid (E.out b hb)
  rw [hb] at C1
  clear hb hq
  obtain ⟨re, we, li, bu⟩ := q
  obtain ⟨r, p, l⟩ := c
  simp only at C1 D E hld ⊢
  cases b
  · obtain rfl : z = false := by rw [E.out]; rfl
    go_enter Tryz.func54, Tryz.ntmps54
    go_wp2_with (go_at_call 20; refine C1.out.mono ?_; rintro e w2 ⟨rfl, hb2⟩; obtain ⟨k1, k2, hb3⟩ := D.out _ hb2; have HB := Lib.hid hb3; clear hb2 hb3 hld)
    go_ret
    exact ⟨rfl, HB.out⟩
  · by_cases h0 : li = 0
    · obtain rfl : z = true := by rw [E.out]; simp [h0]
      have hz : (li == 0) = true := by simpa using h0
      clear h0
      go_enter Tryz.func54, Tryz.ntmps54
      go_wp2_with (go_at_call 20; refine C1.out.mono ?_; rintro e w2 ⟨rfl, hb2⟩; obtain ⟨k1, k2, hb3⟩ := D.out _ hb2; have HB := Lib.hid hb3; clear hb2 hb3 hld)
      go_ret
      exact ⟨rfl, HB.out⟩
    · have hz : (li == 0) = false := by simpa using h0
      by_cases h1 : l ≤ now
      · obtain rfl : z = true := by rw [E.out]; simp [h1]
        clear h0
        go_enter Tryz.func54, Tryz.ntmps54
        go_wp2_with (go_at_call 20; refine C1.out.mono ?_; rintro e w2 ⟨rfl, hb2⟩; obtain ⟨k1, k2, hb3⟩ := D.out _ hb2; have HB := Lib.hid hb3; clear hb2 hb3 hld)
        go_ret
        exact ⟨rfl, HB.out⟩
      · obtain rfl : z = false := by rw [E.out]; simp [h1, h0]
        clear h0
        go_enter Tryz.func54, Tryz.ntmps54
        go_wp2_with (go_at_call 20; refine C1.out.mono ?_; rintro e w2 ⟨rfl, hb2⟩; obtain ⟨k1, k2, hb3⟩ := D.out _ hb2; have HB := Lib.hid hb3; clear hb2 hb3 hld)
        go_ret
        exact ⟨bool_eq (by simp; omega), HB.out⟩
set_option maxRecDepth 100000 in
set_option maxHeartbeats 2000000 in
theorem RByLimit_any (q : Pol) (c : Clk) (now : Int) (w : World) (hq : InP q) :
    Calls Tryz.prog 29 #[.agg #[.int .i64 q.re, .int .i64 q.we, .int .i64 q.li, .int .i64 q.bu], .agg #[.int .i64 c.r, .int .i64 c.p, .int .i64 c.l], .int .i64 now] w
      fun e w' => e = .returned (.bool (byLimitF q c now)) ∧ Below w.heap.size w w' := by
  have C1 := Lib.hid (RRight_any q ((w.alloc (.cells #[.int .i64 q.re, .int .i64 q.we, .int .i64 q.li, .int .i64 q.bu] 28)).alloc (.cells #[.int .i64 c.r, .int .i64 c.p, .int .i64 c.l] 46)))
  have D : Hid (∀ w2, Below ((w.alloc (.cells #[.int .i64 q.re, .int .i64 q.we, .int .i64 q.li, .int .i64 q.bu] 28)).alloc (.cells #[.int .i64 c.r, .int .i64 c.p, .int .i64 c.l] 46)).heap.size ((w.alloc (.cells #[.int .i64 q.re, .int .i64 q.we, .int .i64 q.li, .int .i64 q.bu] 28)).alloc (.cells #[.int .i64 c.r, .int .i64 c.p, .int .i64 c.l] 46)) w2 →
      w2.cell? ⟨w.heap.size, 2, none⟩ = some (.int .i64 q.li) ∧ w2.cell? ⟨w.heap.size + 1, 2, none⟩ = some (.int .i64 c.l) ∧ Below w.heap.size w w2) :=
    Lib.hid fun w2 hb => ⟨by rw [hb.cell (by rw [size_box, size_box]; show w.heap.size < _; omega)]; exact row_cell (heap_two0 w _ _) 2, by rw [hb.cell (by rw [size_box, size_box]; show w.heap.size + 1 < _; omega)]; exact row_cell (heap_two w _ _) 2, (below_two w _ _).trans (hb.mono (below_two w _ _).size)⟩
  have hld := ldPol_run (w := (w.alloc (.cells #[.int .i64 q.re, .int .i64 q.we, .int .i64 q.li, .int .i64 q.bu] 28)).alloc (.cells #[.int .i64 c.r, .int .i64 c.p, .int .i64 c.l] 46)) (pol_of_row (heap_two0 w _ _) hq)
  have E : Hid (∀ b, rightP q = b → byLimitF q c now = (b && (decide (q.li = 0) || decide (c.l ≤ now)))) := Lib.hid fun b h => by unfold byLimitF; rw [h]
  obtain ⟨z, hz⟩ : ∃ z, byLimitF q c now = z := ⟨_, rfl⟩
  rw [hz] at E ⊢
  clear hz
  obtain ⟨b, hb⟩ : ∃ b, rightP q = b := ⟨_, rfl⟩
  have E := Lib.hid (E.out b hb)
  rw [hb] at C1
  clear hb hq
  obtain ⟨re, we, li, bu⟩ := q
  obtain ⟨r, p, l⟩ := c
  simp only at C1 D E hld ⊢
  cases b
  · obtain rfl : z = false := by rw [E.out]; rfl
    go_enter Tryz.func29, Tryz.ntmps29
    go_wp2_with (go_at_call 18; refine C1.out.mono ?_; rintro e w2 ⟨rfl, hb2⟩; obtain ⟨k1, k2, hb3⟩ := D.out _ hb2; have HB := Lib.hid hb3; clear hb2 hb3 hld)
    go_ret
    exact ⟨rfl, HB.out⟩
  · by_cases h0 : li = 0
    · obtain rfl : z = true := by rw [E.out]; simp [h0]
      have hz : (li == 0) = true := by simpa using h0
      clear h0
      go_enter Tryz.func29, Tryz.ntmps29
      go_wp2_with (go_at_call 18; refine C1.out.mono ?_; rintro e w2 ⟨rfl, hb2⟩; obtain ⟨k1, k2, hb3⟩ := D.out _ hb2; have HB := Lib.hid hb3; clear hb2 hb3 hld)
      go_ret
      exact ⟨rfl, HB.out⟩
    · have hz : (li == 0) = false := by simpa using h0
      by_cases h1 : l ≤ now
      · obtain rfl : z = true := by rw [E.out]; simp [h1]
        clear h0
        go_enter Tryz.func29, Tryz.ntmps29
        go_wp2_with (go_at_call 18; refine C1.out.mono ?_; rintro e w2 ⟨rfl, hb2⟩; obtain ⟨k1, k2, hb3⟩ := D.out _ hb2; have HB := Lib.hid hb3; clear hb2 hb3 hld)
        go_ret
        exact ⟨rfl, HB.out⟩
      · obtain rfl : z = false := by rw [E.out]; simp [h1, h0]
        clear h0
        go_enter Tryz.func29, Tryz.ntmps29
        go_wp2_with (go_at_call 18; refine C1.out.mono ?_; rintro e w2 ⟨rfl, hb2⟩; obtain ⟨k1, k2, hb3⟩ := D.out _ hb2; have HB := Lib.hid hb3; clear hb2 hb3 hld)
        go_ret
        exact ⟨bool_eq (by simp; omega), HB.out⟩
set_option maxRecDepth 100000 in
set_option maxHeartbeats 2000000 in
theorem ByReserve_any (q : Pol) (c : Clk) (now : Int) (w : World) (hq : InP q) :
    Calls Tryz.prog 53 #[.agg #[.int .i64 q.re, .int .i64 q.we, .int .i64 q.li, .int .i64 q.bu], .agg #[.int .i64 c.r, .int .i64 c.p, .int .i64 c.l], .int .i64 now] w
      fun e w' => e = .returned (.bool (byReserveF q c now)) ∧ Below w.heap.size w w' := by
  have C1 := Lib.hid (ByLimit_any q c now ((w.alloc (.cells #[.int .i64 q.re, .int .i64 q.we, .int .i64 q.li, .int .i64 q.bu] 28)).alloc (.cells #[.int .i64 c.r, .int .i64 c.p, .int .i64 c.l] 46)) hq)
  have D : Hid (∀ w2, Below ((w.alloc (.cells #[.int .i64 q.re, .int .i64 q.we, .int .i64 q.li, .int .i64 q.bu] 28)).alloc (.cells #[.int .i64 c.r, .int .i64 c.p, .int .i64 c.l] 46)).heap.size ((w.alloc (.cells #[.int .i64 q.re, .int .i64 q.we, .int .i64 q.li, .int .i64 q.bu] 28)).alloc (.cells #[.int .i64 c.r, .int .i64 c.p, .int .i64 c.l] 46)) w2 →
      w2.cell? ⟨w.heap.size, 0, none⟩ = some (.int .i64 q.re) ∧ w2.cell? ⟨w.heap.size + 1, 0, none⟩ = some (.int .i64 c.r) ∧ Below w.heap.size w w2) :=
    Lib.hid fun w2 hb => ⟨by rw [hb.cell (by rw [size_box, size_box]; show w.heap.size < _; omega)]; exact row_cell (heap_two0 w _ _) 0, by rw [hb.cell (by rw [size_box, size_box]; show w.heap.size + 1 < _; omega)]; exact row_cell (heap_two w _ _) 0, (below_two w _ _).trans (hb.mono (below_two w _ _).size)⟩
  have HB0 := Lib.hid (below_two w (.cells #[.int .i64 q.re, .int .i64 q.we, .int .i64 q.li, .int .i64 q.bu] 28) (.cells #[.int .i64 c.r, .int .i64 c.p, .int .i64 c.l] 46))
  have hld := ldPol_run (w := ((w.alloc (.cells #[.int .i64 q.re, .int .i64 q.we, .int .i64 q.li, .int .i64 q.bu] 28)).alloc (.cells #[.int .i64 c.r, .int .i64 c.p, .int .i64 c.l] 46))) (pol_of_row (heap_two0 w _ _) hq)
  have hlc := ldClk_run (w := ((w.alloc (.cells #[.int .i64 q.re, .int .i64 q.we, .int .i64 q.li, .int .i64 q.bu] 28)).alloc (.cells #[.int .i64 c.r, .int .i64 c.p, .int .i64 c.l] 46))) (heap_two w _ _)
  have E : Hid (∀ b, byLimitF q c now = b → byReserveF q c now = (b && (decide (¬ q.re = 0) && decide (c.r ≤ now)))) := Lib.hid fun b h => by unfold byReserveF; rw [h]
  obtain ⟨z, hz⟩ : ∃ z, byReserveF q c now = z := ⟨_, rfl⟩
  rw [hz] at E ⊢
  clear hz
  obtain ⟨b, hb⟩ : ∃ b, byLimitF q c now = b := ⟨_, rfl⟩
  have E := Lib.hid (E.out b hb)
  rw [hb] at C1
  clear hb hq
  obtain ⟨re, we, li, bu⟩ := q
  obtain ⟨r, p, l⟩ := c
  simp only at C1 D E hld hlc HB0 ⊢
  have E2 : z = (b && (decide (¬ re = 0) && decide (r ≤ now))) := E.out
  have E := Lib.hid E2; clear E2
  by_cases h0 : re = 0
  · obtain rfl : z = false := by rw [E.out]; simp [h0]
    subst h0
    go_enter Tryz.func53, Tryz.ntmps53
    go_wp2
    go_ret
    exact ⟨rfl, HB0.out⟩
  · have hz : (re != 0) = true := by simpa using h0
    by_cases h1 : r ≤ now
    · obtain rfl : z = b := by rw [E.out]; simp [h1, h0]
      clear h0
      cases z
      all_goals
        go_enter Tryz.func53, Tryz.ntmps53
        go_wp2_with (go_at_call 54; refine C1.out.mono ?_; rintro e w2 ⟨rfl, hb2⟩; obtain ⟨k1, k2, hb3⟩ := D.out _ hb2; have HB := Lib.hid hb3; clear hb2 hb3 hld hlc)
        go_ret
        exact ⟨rfl, HB.out⟩
    · obtain rfl : z = false := by rw [E.out]; simp [h1]
      clear h0
      go_enter Tryz.func53, Tryz.ntmps53
      go_wp2
      go_ret
      exact ⟨bool_eq (by first | rfl | (simp; omega)), HB0.out⟩
set_option maxRecDepth 100000 in
set_option maxHeartbeats 2000000 in
theorem RByReserve_any (q : Pol) (c : Clk) (now : Int) (w : World) (hq : InP q) :
    Calls Tryz.prog 28 #[.agg #[.int .i64 q.re, .int .i64 q.we, .int .i64 q.li, .int .i64 q.bu], .agg #[.int .i64 c.r, .int .i64 c.p, .int .i64 c.l], .int .i64 now] w
      fun e w' => e = .returned (.bool (byReserveF q c now)) ∧ Below w.heap.size w w' := by
  have C1 := Lib.hid (RByLimit_any q c now ((w.alloc (.cells #[.int .i64 q.re, .int .i64 q.we, .int .i64 q.li, .int .i64 q.bu] 28)).alloc (.cells #[.int .i64 c.r, .int .i64 c.p, .int .i64 c.l] 46)) hq)
  have D : Hid (∀ w2, Below ((w.alloc (.cells #[.int .i64 q.re, .int .i64 q.we, .int .i64 q.li, .int .i64 q.bu] 28)).alloc (.cells #[.int .i64 c.r, .int .i64 c.p, .int .i64 c.l] 46)).heap.size ((w.alloc (.cells #[.int .i64 q.re, .int .i64 q.we, .int .i64 q.li, .int .i64 q.bu] 28)).alloc (.cells #[.int .i64 c.r, .int .i64 c.p, .int .i64 c.l] 46)) w2 →
      w2.cell? ⟨w.heap.size, 0, none⟩ = some (.int .i64 q.re) ∧ w2.cell? ⟨w.heap.size + 1, 0, none⟩ = some (.int .i64 c.r) ∧ Below w.heap.size w w2) :=
    Lib.hid fun w2 hb => ⟨by rw [hb.cell (by rw [size_box, size_box]; show w.heap.size < _; omega)]; exact row_cell (heap_two0 w _ _) 0, by rw [hb.cell (by rw [size_box, size_box]; show w.heap.size + 1 < _; omega)]; exact row_cell (heap_two w _ _) 0, (below_two w _ _).trans (hb.mono (below_two w _ _).size)⟩
  have HB0 := Lib.hid (below_two w (.cells #[.int .i64 q.re, .int .i64 q.we, .int .i64 q.li, .int .i64 q.bu] 28) (.cells #[.int .i64 c.r, .int .i64 c.p, .int .i64 c.l] 46))
  have hld := ldPol_run (w := ((w.alloc (.cells #[.int .i64 q.re, .int .i64 q.we, .int .i64 q.li, .int .i64 q.bu] 28)).alloc (.cells #[.int .i64 c.r, .int .i64 c.p, .int .i64 c.l] 46))) (pol_of_row (heap_two0 w _ _) hq)
  have hlc := ldClk_run (w := ((w.alloc (.cells #[.int .i64 q.re, .int .i64 q.we, .int .i64 q.li, .int .i64 q.bu] 28)).alloc (.cells #[.int .i64 c.r, .int .i64 c.p, .int .i64 c.l] 46))) (heap_two w _ _)
  have E : Hid (∀ b, byLimitF q c now = b → byReserveF q c now = (b && (decide (¬ q.re = 0) && decide (c.r ≤ now)))) := Lib.hid fun b h => by unfold byReserveF; rw [h]
  obtain ⟨z, hz⟩ : ∃ z, byReserveF q c now = z := ⟨_, rfl⟩
  rw [hz] at E ⊢
  clear hz
  obtain ⟨b, hb⟩ : ∃ b, byLimitF q c now = b := ⟨_, rfl⟩
  have E := Lib.hid (E.out b hb)
  rw [hb] at C1
  clear hb hq
  obtain ⟨re, we, li, bu⟩ := q
  obtain ⟨r, p, l⟩ := c
  simp only at C1 D E hld hlc HB0 ⊢
  have E2 : z = (b && (decide (¬ re = 0) && decide (r ≤ now))) := E.out
  have E := Lib.hid E2; clear E2
  cases b
  · obtain rfl : z = false := by rw [E.out]; rfl
    go_enter Tryz.func28, Tryz.ntmps28
    go_wp2_with (go_at_call 29; refine C1.out.mono ?_; rintro e w2 ⟨rfl, hb2⟩; obtain ⟨k1, k2, hb3⟩ := D.out _ hb2; have HB := Lib.hid hb3; clear hb2 hb3 hld hlc)
    go_ret
    exact ⟨rfl, HB.out⟩
  · by_cases h0 : re = 0
    · obtain rfl : z = false := by rw [E.out]; simp [h0]
      subst h0
      go_enter Tryz.func28, Tryz.ntmps28
      go_wp2_with (go_at_call 29; refine C1.out.mono ?_; rintro e w2 ⟨rfl, hb2⟩; obtain ⟨k1, k2, hb3⟩ := D.out _ hb2; have HB := Lib.hid hb3; clear hb2 hb3 hld hlc)
      go_ret
      exact ⟨rfl, HB.out⟩
    · have hz : (re != 0) = true := by simpa using h0
      by_cases h1 : r ≤ now
      · obtain rfl : z = true := by rw [E.out]; simp [h1, h0]
        clear h0
        go_enter Tryz.func28, Tryz.ntmps28
        go_wp2_with (go_at_call 29; refine C1.out.mono ?_; rintro e w2 ⟨rfl, hb2⟩; obtain ⟨k1, k2, hb3⟩ := D.out _ hb2; have HB := Lib.hid hb3; clear hb2 hb3 hld hlc)
        go_ret
        exact ⟨rfl, HB.out⟩
      · obtain rfl : z = false := by rw [E.out]; simp [h1]
        clear h0
        go_enter Tryz.func28, Tryz.ntmps28
        go_wp2_with (go_at_call 29; refine C1.out.mono ?_; rintro e w2 ⟨rfl, hb2⟩; obtain ⟨k1, k2, hb3⟩ := D.out _ hb2; have HB := Lib.hid hb3; clear hb2 hb3 hld hlc)
        go_ret
        exact ⟨bool_eq (by first | rfl | (simp; omega)), HB.out⟩
end Go.Proofs.YtbfjakchgmdldaaGreat
