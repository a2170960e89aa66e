/-
  Contracts of clocks.Wake and dotterelref11's Wake. Condition: that an int holds the numbers.
-/
import Derived.Test.YtbfjakchgmdldaaGreatClkS
import Derived.Test.YtbfjakchgmdldaaGreatKept
namespace Go.Proofs.YtbfjakchgmdldaaGreat
open Go.ChangeShapes Go.WideShapes Go.ChangeAt Go.RowKit
set_option linter.unusedVariables false

theorem clk_eq {a b : Clk} (h : a = b) : Ending.returned (.agg #[.int .i64 a.r, .int .i64 a.p, .int .i64 a.l]) = .returned (.agg #[.int .i64 b.r, .int .i64 b.p, .int .i64 b.l]) := by rw [h]
theorem size_box (w : World) (o : Obj) : (w.alloc o).heap.size = w.heap.size + 1 := Array.size_push _
theorem heap_two (w : World) (X Y : Obj) : ((w.alloc X).alloc Y).heap[w.heap.size + 1]? = some Y := by
  have h := heap_alloc_new (w.alloc X) Y
  rwa [size_box] at h
theorem below_two (w : World) (X Y : Obj) : Below w.heap.size w ((w.alloc X).alloc Y) := (below_box w X).alloc (below_box w X).size Y

set_option maxRecDepth 100000 in
set_option maxHeartbeats 2000000 in
theorem Wake_any (c : Clk) (now least : Int) (w : World) : Calls Tryz.prog 26 #[.agg #[.int .i64 c.r, .int .i64 c.p, .int .i64 c.l], .int .i64 now, .int .i64 least] w
    fun e w' => e = .returned (.agg #[.int .i64 (wakeF c now least).r, .int .i64 (wakeF c now least).p, .int .i64 (wakeF c now least).l]) ∧ Below w.heap.size w w' := by
  obtain ⟨r, p, l⟩ := c
  show Calls _ _ #[.agg #[.int .i64 r, .int .i64 p, .int .i64 l], _, _] _ _
  by_cases h1 : r < now <;> by_cases h2 : p < least
  all_goals
    go_enter Tryz.func26, Tryz.ntmps26
    go_wp2
    refine bodyPost_ret (results_cell_row rfl _ _ (w.heap.size + 1) 46 _ (0, 0) _ rfl (heap_two _ _ _) Tryz.underlying46 rfl clk_info) rfl ⟨?_, below_two _ _ _⟩
    simp only [wakeF]
    first
    | rw [show max r now = now by omega, show max p least = least by omega]
    | rw [show max r now = now by omega, show max p least = p by omega]
    | rw [show max r now = r by omega, show max p least = least by omega]
    | rw [show max r now = r by omega, show max p least = p by omega]
set_option maxRecDepth 100000 in
set_option maxHeartbeats 2000000 in
theorem RWake_any (c : Clk) (now least : Int) (w : World) : Calls Tryz.prog 22 #[.agg #[.int .i64 c.r, .int .i64 c.p, .int .i64 c.l], .int .i64 now, .int .i64 least] w
    fun e w' => e = .returned (.agg #[.int .i64 (wakeF c now least).r, .int .i64 (wakeF c now least).p, .int .i64 (wakeF c now least).l]) ∧ Below w.heap.size w w' := by
  obtain ⟨r, p, l⟩ := c
  show Calls _ _ #[.agg #[.int .i64 r, .int .i64 p, .int .i64 l], _, _] _ _
  by_cases h1 : r < now <;> by_cases h2 : p < least
  all_goals
    go_enter Tryz.func22, Tryz.ntmps22
    go_wp2
    refine bodyPost_ret (results_cell_row rfl _ _ (w.heap.size + 1) 46 _ (0, 0) _ rfl (heap_two _ _ _) Tryz.underlying46 rfl clk_info) rfl ⟨?_, below_two _ _ _⟩
    simp only [wakeF]
    first
    | rw [show max r now = now by omega, show max p least = least by omega]
    | rw [show max r now = now by omega, show max p least = p by omega]
    | rw [show max r now = r by omega, show max p least = least by omega]
    | rw [show max r now = r by omega, show max p least = p by omega]
end Go.Proofs.YtbfjakchgmdldaaGreat
