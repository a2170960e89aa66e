/-
  Contract of (*sched.Sched).ways. No condition.
-/
import Derived.Test.YtbfjakchgmdldaaSchRis
import Derived.Test.YtbfjakchgmdldaaSchSt
namespace Go.Proofs.Ytbfjakchgmdldaa
open Go.ChangeShapes Go.WideShapes Go.ChangeAt Go.RowKit Go.Maps
set_option linter.unusedVariables false
/-- the two ways, as cells -/
def waysV (s : Nat) : Array Value := #[.int .i64 1, .pointer (some ⟨s, 1, none⟩), .func (.func 38) #[] #[], .int .i64 2, .pointer (some ⟨s, 3, none⟩), .func (.func 39) #[] #[]]
def stWays (p v : Value) : Sem Unit := Instr.storeAt 81 p v
theorem stWays_eq (p v : Value) : Instr.storeAt 81 p v = stWays p v := rfl
def noWays : Array Value := #[.int .i64 0, .pointer none, .nilFunc, .int .i64 0, .pointer none, .nilFunc]
theorem ways_size : (Try.prog.info? 81).map (·.size) = some 6 := by kernel_rfl
theorem stWays_run {w : World} {g : Nat} (s : Nat) (h : w.heap[g]? = some (.cells noWays 81 (0, 0))) :
    (stWays (.pointer (some ⟨g, 0, none⟩)) (.agg (waysV s))).run Try.prog w = .ok () (w.setCells g 0 (waysV s).toList) :=
  run_storeAt_mid w g 0 81 (waysV s) (fun j hj => ⟨by rw [row_cell h (0 + j), Array.getElem?_eq_getElem (by show 0 + j < 6; have : j < 6 := hj; omega)]; rfl, row_frozen h _⟩) ways_size (by simp [waysV, Value.oneCell'])
theorem ways_row {w : World} {g : Nat} (s : Nat) (h : w.heap[g]? = some (.cells noWays 81 (0, 0))) : (w.setCells g 0 (waysV s).toList).heap[g]? = some (.cells (waysV s) 81 (0, 0)) :=
  row_set (row_set (row_set (row_set (row_set (row_set h 0 (.int .i64 1)) 1 (.pointer (some ⟨s, 1, none⟩))) 2 (.func (.func 38) #[] #[])) 3 (.int .i64 2)) 4 (.pointer (some ⟨s, 3, none⟩))) 5 (.func (.func 39) #[] #[])
attribute [local go_sem ↓] stWays_eq
set_option maxRecDepth 100000 in
theorem ways_any (s : Nat) (w : World) : Calls Try.prog 31 #[.pointer (some ⟨s, 0, none⟩)] w fun e w' => e = .returned (.agg (waysV s)) ∧ Below w.heap.size w w' := by
  obtain ⟨W1, hW1⟩ : ∃ W1, w.alloc (.cells noWays 81) = W1 := ⟨_, rfl⟩
  have h1 : W1.drew.heap[w.heap.size]? = some (.cells noWays 81 (0, 0)) := by rw [← hW1]; exact heap_alloc_new w _
  have hb1 : Below w.heap.size w W1.drew := by rw [← hW1]; exact (below_box w _).drew
  have hst := stWays_run s h1
  have hrow := ways_row s h1
  have hb2 : Below w.heap.size w (W1.drew.setCells w.heap.size 0 (waysV s).toList) := hb1.trans ((turned_cells (p := fun j => j = w.heap.size) (fun _ => rfl) _ _ _ (Turned.refl _ _)).below (fun j e => by rw [e]; exact Nat.le_refl _) hb1.size)
  have Hrow := Lib.hid hrow; have Hb2 := Lib.hid hb2
  unfold waysV at hst
  unfold noWays at hW1
  clear h1 hb1 hrow hb2
  go_enter Try.func31, Try.ntmps31
  go_wp2
  go_region
  go_wp2
  refine bodyPost_ret (results_cell_row rfl _ _ w.heap.size 81 (waysV s) (0, 0) _ rfl Hrow.out Try.underlying81 rfl ways_size) rfl ⟨rfl, Hb2.out⟩
end Go.Proofs.Ytbfjakchgmdldaa
