/-
  Contracts of rho.counted, plus, less, and of (*rho.Tracker).Total. Conditions: what each names.
-/
import Derived.Test.YtkfhocmnkamhlaaRhoMem
import Derived.WalkLawsBesides
import Derived.BigQuiet
namespace Go.Proofs.Ytkfhocmnkamhlaa
open Go.ChangeShapes Go.WideShapes Go.ChangeAt Go.RowKit Go.Maps
set_option linter.unusedVariables false

theorem below_boxT (w : World) (o : Obj) : Below w.heap.size w (w.alloc o) := (Below.refl _ _).alloc (Nat.le_refl _) o
theorem below_box3T (w : World) (a b c : Obj) : Below w.heap.size w (((w.alloc a).alloc b).alloc c) := (((Below.refl _ _).alloc (Nat.le_refl _) a).alloc (by simp) b).alloc (by simp; omega) c
theorem heap_threeT (w : World) (a b c : Obj) : (((w.alloc a).alloc b).alloc c).heap[w.heap.size + 2]? = some c := by
  have e : w.heap.size + 2 = ((w.alloc a).alloc b).heap.size := by simp
  rw [e]
  exact heap_alloc_new _ _
theorem cn_info : (Try.prog.info? 25).map (·.size) = some 2 := by kernel_rfl
def SmallC (c : Cn) : Prop := (-1000000 ≤ c.1 ∧ c.1 ≤ 1000000) ∧ (-1000000 ≤ c.2 ∧ c.2 ≤ 1000000)

set_option maxRecDepth 100000 in
theorem plus_any (a b : Cn) (w : World) (ha : SmallC a) (hb : SmallC b) :
    Calls Try.prog 16 #[.agg #[.int .i64 a.1, .int .i64 a.2], .agg #[.int .i64 b.1, .int .i64 b.2]] w fun e w' => e = .returned (.agg #[.int .i64 (a.1 + b.1), .int .i64 (a.2 + b.2)]) ∧ Below w.heap.size w w' := by
  obtain ⟨a1, a2⟩ := a
  obtain ⟨b1, b2⟩ := b
  obtain ⟨⟨x1, x2⟩, ⟨x3, x4⟩⟩ := ha
  obtain ⟨⟨y1, y2⟩, ⟨y3, y4⟩⟩ := hb
  simp only at x1 x2 x3 x4 y1 y2 y3 y4
  show Calls _ _ #[.agg #[.int .i64 a1, .int .i64 a2], .agg #[.int .i64 b1, .int .i64 b2]] _ _
  have Hb := Lib.hid (fun a b c => below_box3T w a b c)
  go_enter Try.func16, Try.ntmps16
  go_wp2
  refine bodyPost_ret (results_cell_row rfl _ _ (w.heap.size + 2) 25 _ (0, 0) _ rfl (heap_threeT _ _ _ _) Try.underlying25 rfl cn_info) rfl ⟨rfl, Hb.out _ _ _⟩
set_option maxRecDepth 100000 in
theorem less_any (a b : Cn) (w : World) (ha : SmallC a) (hb : SmallC b) :
    Calls Try.prog 13 #[.agg #[.int .i64 a.1, .int .i64 a.2], .agg #[.int .i64 b.1, .int .i64 b.2]] w fun e w' => e = .returned (.agg #[.int .i64 (a.1 - b.1), .int .i64 (a.2 - b.2)]) ∧ Below w.heap.size w w' := by
  obtain ⟨a1, a2⟩ := a
  obtain ⟨b1, b2⟩ := b
  obtain ⟨⟨x1, x2⟩, ⟨x3, x4⟩⟩ := ha
  obtain ⟨⟨y1, y2⟩, ⟨y3, y4⟩⟩ := hb
  simp only at x1 x2 x3 x4 y1 y2 y3 y4
  show Calls _ _ #[.agg #[.int .i64 a1, .int .i64 a2], .agg #[.int .i64 b1, .int .i64 b2]] _ _
  have Hb := Lib.hid (fun a b c => below_box3T w a b c)
  go_enter Try.func13, Try.ntmps13
  go_wp2
  refine bodyPost_ret (results_cell_row rfl _ _ (w.heap.size + 2) 25 _ (0, 0) _ rfl (heap_threeT _ _ _ _) Try.underlying25 rfl cn_info) rfl ⟨rfl, Hb.out _ _ _⟩
set_option maxRecDepth 100000 in
theorem counted_any (p : Int) (w : World) : Calls Try.prog 15 #[.int .i64 p] w fun e w' => e = .returned (.agg #[.int .i64 (oneC p).1, .int .i64 (oneC p).2]) ∧ Below w.heap.size w w' := by
  have Hb := Lib.hid (fun a => below_boxT w a)
  by_cases h1 : p = 1
  · subst h1
    show Calls _ _ _ _ fun e w' => e = .returned (.agg #[.int .i64 1, .int .i64 1]) ∧ _
    go_enter Try.func15, Try.ntmps15
    go_wp2
    refine bodyPost_ret (results_cell_row rfl _ _ w.heap.size 25 _ (0, 0) _ rfl (heap_alloc_new _ _) Try.underlying25 rfl cn_info) rfl ⟨rfl, Hb.out _⟩
  · by_cases h2 : p = 2
    · subst h2
      show Calls _ _ _ _ fun e w' => e = .returned (.agg #[.int .i64 1, .int .i64 0]) ∧ _
      go_enter Try.func15, Try.ntmps15
      go_wp2
      refine bodyPost_ret (results_cell_row rfl _ _ w.heap.size 25 _ (0, 0) _ rfl (heap_alloc_new _ _) Try.underlying25 rfl cn_info) rfl ⟨rfl, Hb.out _⟩
    · have e : oneC p = (0, 0) := by unfold oneC; rw [if_neg h1, if_neg h2]
      rw [e]
      show Calls _ _ _ _ fun e w' => e = .returned (.agg #[.int .i64 0, .int .i64 0]) ∧ _
      have c1 : (p == 1) = false := by simpa using h1
      have c2 : (p == 2) = false := by simpa using h2
      clear e h1 h2
      go_enter Try.func15, Try.ntmps15
      go_wp2
      refine bodyPost_ret (results_cell_row rfl _ _ w.heap.size 25 _ (0, 0) _ rfl (heap_alloc_new _ _) Try.underlying25 rfl cn_info) rfl ⟨rfl, Hb.out _⟩
set_option maxRecDepth 100000 in
theorem Total_any (B g n : Nat) (m : Option Nat) (t : Cn) (f : Int → Cn) (w : World) (H : TrkAt w B g n m t f) :
    Calls Try.prog 11 #[.pointer (some ⟨g, 0, none⟩)] w fun e w' => e = .returned (.tuple #[.int .i64 t.1, .int .i64 t.2]) ∧ Below w.heap.size w w' := by
  have a0 : w.cell? ⟨g, 0, none⟩ = some (.int .i64 t.1) := row_cell H.row 0
  have a1 : w.cell? ⟨g, 1, none⟩ = some (.int .i64 t.2) := row_cell H.row 1
  clear H
  go_enter Try.func11, Try.ntmps11
  go_wp2
  go_quiet (fail)
  go_wp2
  go_ret2
  exact ⟨rfl, below_drewN (Below.refl _ _) _⟩
end Go.Proofs.Ytkfhocmnkamhlaa
