/-
  Contract of volume's commands: the table of what does a command. Conditions: none.
-/
import Derived.Test.YtcaaakoahaoooaaVolMap
import Derived.Test.YtcaaakoahaoooaaVolRes
import Derived.Test.YtcaaakoahaoooaaVolJoin
namespace Go.Proofs.Ytcaaakoahaoooaa
open Go.ChangeShapes Go.WideShapes Go.ChangeAt Go.RowKit
set_option linter.unusedVariables false
set_option linter.unusedSimpArgs false

/-- what does a command of a kind -/
def cmdFn (k : Int) : FuncId := if k = 1 then 45 else if k = 2 then 46 else if k = 3 then 47 else if k = 4 then 48 else if k = 5 then 49 else if k = 6 then 50 else if k = 7 then 51 else 52
def CmdsRet (w : World) (e : Ending) (w' : World) : Prop := ∃ ks F, e = .returned (.map (some w.heap.size)) ∧ ValsM w' w.heap.size ks F ∧ (∀ k, k ∈ ks ↔ 1 ≤ k ∧ k ≤ 8) ∧ (∀ k, 1 ≤ k → k ≤ 8 → F k = .func (.func (cmdFn k)) #[] #[]) ∧ Below w.heap.size w w'
set_option maxRecDepth 100000 in
set_option maxHeartbeats 1000000 in
theorem VCommands (w : World) : Calls Try.prog 26 #[] w (CmdsRet w) := by
  have hmm := @run_makeMap Try.prog
  obtain ⟨w1, hw1⟩ : ∃ w1, w.alloc (.map #[] 0) = w1 := ⟨_, rfl⟩
  have hm1 : ValsM w1 w.heap.size [] (fun _ => undef) := by rw [← hw1]; exact ValsM.made w _
  have hb1 : Below w.heap.size w w1 := by rw [← hw1]; exact (Below.refl _ _).alloc (Nat.le_refl _) _
  obtain ⟨w2, hr2, hm2, ht2⟩ := put_run Try.underlying75 (.func (.func 45) #[] #[]) hm1 (k := 1) (by omega) (by omega) (by simp [putK, outK, insK])
  have hb2 := hb1.trans (ht2.below (fun k e => by omega) hb1.size)
  obtain ⟨w3, hr3, hm3, ht3⟩ := put_run Try.underlying75 (.func (.func 46) #[] #[]) hm2 (k := 2) (by omega) (by omega) (by simp [putK, outK, insK])
  have hb3 := hb2.trans (ht3.below (fun k e => by omega) hb2.size)
  obtain ⟨w4, hr4, hm4, ht4⟩ := put_run Try.underlying75 (.func (.func 47) #[] #[]) hm3 (k := 3) (by omega) (by omega) (by simp [putK, outK, insK])
  have hb4 := hb3.trans (ht4.below (fun k e => by omega) hb3.size)
  obtain ⟨w5, hr5, hm5, ht5⟩ := put_run Try.underlying75 (.func (.func 48) #[] #[]) hm4 (k := 4) (by omega) (by omega) (by simp [putK, outK, insK])
  have hb5 := hb4.trans (ht5.below (fun k e => by omega) hb4.size)
  obtain ⟨w6, hr6, hm6, ht6⟩ := put_run Try.underlying75 (.func (.func 49) #[] #[]) hm5 (k := 5) (by omega) (by omega) (by simp [putK, outK, insK])
  have hb6 := hb5.trans (ht6.below (fun k e => by omega) hb5.size)
  obtain ⟨w7, hr7, hm7, ht7⟩ := put_run Try.underlying75 (.func (.func 50) #[] #[]) hm6 (k := 6) (by omega) (by omega) (by simp [putK, outK, insK])
  have hb7 := hb6.trans (ht7.below (fun k e => by omega) hb6.size)
  obtain ⟨w8, hr8, hm8, ht8⟩ := put_run Try.underlying75 (.func (.func 51) #[] #[]) hm7 (k := 7) (by omega) (by omega) (by simp [putK, outK, insK])
  have hb8 := hb7.trans (ht8.below (fun k e => by omega) hb7.size)
  obtain ⟨w9, hr9, hm9, ht9⟩ := put_run Try.underlying75 (.func (.func 52) #[] #[]) hm8 (k := 8) (by omega) (by omega) (by simp [putK, outK, insK])
  have hb9 := hb8.trans (ht9.below (fun k e => by omega) hb8.size)
  have Hm := Lib.hid hm9; have Hb := Lib.hid hb9
  clear hm1 hm2 hm3 hm4 hm5 hm6 hm7 hm8 hm9 hb1 hb2 hb3 hb4 hb5 hb6 hb7 hb8 hb9 ht2 ht3 ht4 ht5 ht6 ht7 ht8 ht9
  go_enter Try.func26, Try.ntmps26
  go_wp2
  go_ret
  refine ⟨_, _, rfl, Hm.out, fun k => ?_, fun k h1 h5 => ?_, Hb.out⟩
  · simp only [mem_putK, List.not_mem_nil, or_false]
    omega
  · unfold updV cmdFn
    rcases (show k = 1 ∨ k = 2 ∨ k = 3 ∨ k = 4 ∨ k = 5 ∨ k = 6 ∨ k = 7 ∨ k = 8 by omega) with rfl | rfl | rfl | rfl | rfl | rfl | rfl | rfl <;> rfl
end Go.Proofs.Ytcaaakoahaoooaa
