/-
  Contract of the laws' awake. No condition.
-/
import Derived.Test.YtcaaakoahaoooaaVolAwk
namespace Go.Proofs.Ytcaaakoahaoooaa
open Go.ChangeShapes Go.WideShapes Go.ChangeAt Go.RowKit
set_option linter.unusedVariables false
set_option linter.unusedSimpArgs false

def bdCmd (parts : Array (Nat × Value)) : Sem Value := Instr.build 36 parts
theorem bdCmd_eq (parts : Array (Nat × Value)) : Instr.build 36 parts = bdCmd parts := rfl
theorem bdA1 (w : World) : (bdCmd #[(0, .int .i64 1), (1, .int .i64 2), (2, .int .i64 1)]).run Try.prog w = .ok (cmdA cA1) w := by kernel_rfl
theorem bdA2 (w : World) : (bdCmd #[(0, .int .i64 2), (1, .int .i64 0), (2, .int .i64 9), (3, .int .i64 1), (4, .agg #[.int .i64 1000, .int .i64 1, .int .i64 0, .int .i64 0])]).run Try.prog w = .ok (cmdA cA2) w := by kernel_rfl
theorem bdA3 (w : World) : (bdCmd #[(0, .int .i64 2), (1, .int .i64 1), (2, .int .i64 1), (3, .int .i64 1), (4, .agg #[.int .i64 1000, .int .i64 1, .int .i64 0, .int .i64 0])]).run Try.prog w = .ok (cmdA cA3) w := by kernel_rfl
theorem inA1 : CmdIn cA1 := by constructor <;> (simp only [cA1, pol0, InP, In64]; omega)
theorem inA2 : CmdIn cA2 := by constructor <;> (simp only [cA2, pA, InP, In64]; omega)
theorem inA3 : CmdIn cA3 := by constructor <;> (simp only [cA3, pA, InP, In64]; omega)
theorem goodA1 : GoodS 1 sA1 := by
  have := (applyS_good good0 (Int.le_refl 0) inA1).1
  rwa [awk1] at this
theorem goodA2 : GoodS 2 sA2 := by
  have := (applyS_good goodA1 (by decide) inA2).1
  rwa [awk2] at this
theorem volA2 : isVol sA2 ((0 : Nat) : Int) = true := by kernel_rfl
theorem stPol_run {w : World} {g : Nat} {cs : Array Value} {T : TypeId} (h : w.heap[g]? = some (.cells cs T (0, 0))) (hs : cs.size = 4) (p : Pol) :
    ∃ w', (stPol (.pointer (some ⟨g, 0, none⟩)) (.agg #[.int .i64 p.re, .int .i64 p.we, .int .i64 p.li, .int .i64 p.bu])).run Try.prog w = .ok () w' ∧ w'.heap[g]? = some (.cells #[.int .i64 p.re, .int .i64 p.we, .int .i64 p.li, .int .i64 p.bu] T (0, 0)) ∧ Turned (fun k => k = g) w w' :=
  st_row (T := 29) h (by rw [hs]; rfl) pol_info (by simp [Value.oneCell'])
attribute [local go_sem ↓] bdCmd_eq
attribute [local go_sem ↓] ldPol_eq
attribute [local go_sem ↓] stPol_eq
attribute [local go_sem ↓] stVo_eq
set_option maxRecDepth 100000 in
set_option maxHeartbeats 2000000 in
theorem VAwake (w : World) : Calls Try.prog 8 #[] w fun e w' => e = .returned (.bool true) ∧ Below w.heap.size w w' := by
  have KN := Lib.hid (VNew w)
  have b1 := bdA1; have b2 := bdA2; have b3 := bdA3
  go_enter Try.func8, Try.ntmps8
  go_wp2_with fail
  refine KN.out.mono ?_
  rintro e w1 ⟨rfl, hs1, hb1⟩
  obtain ⟨g, hg⟩ : ∃ g, w.heap.size = g := ⟨_, rfl⟩
  rw [hg] at hs1 ⊢
  have hg1 := hs1.lt
  obtain ⟨w2, hw2⟩ : ∃ w2, w1.alloc (.cells #[.int .i64 0, .int .i64 0, .int .i64 0, .int .i64 0] 29) = w2 := ⟨_, rfl⟩
  have hb2 : Below w1.heap.size w1 w2 := by rw [← hw2]; exact below_box _ _
  have hr2 : w2.heap[w1.heap.size]? = some (.cells #[.int .i64 0, .int .i64 0, .int .i64 0, .int .i64 0] 29 (0, 0)) := by rw [← hw2]; exact heap_alloc_new _ _
  obtain ⟨w3, hst3, hr3, ht3⟩ := stPol_run hr2 rfl pA
  simp only [pA] at hst3 hr3
  have hb3 : Below w1.heap.size w1 w3 := hb2.trans (ht3.below (fun k e => by omega) hb2.size)
  have hs3 := hs1.below hb3
  have KA := VApply g st0 cA1 w3 hs3 (good0.ready (Int.le_refl 0) (by decide) inA1)
  rw [awk1] at KA
  have Hg := Lib.hid hg
  have Hb3 := Lib.hid (hb1.trans (hb3.mono (by rw [hg]; omega))); have Hr3 := Lib.hid hr3; have KA1 := Lib.hid KA
  clear hb1 hs1 hb2 hr2 hr3 ht3 hb3 hs3 KA hg
  go_wp2_with fail
  refine KA1.out.mono ?_
  rintro e w4 ⟨rfl, hs4, ht4⟩
  have hr4 := ht4.heap Hr3.out (by omega)
  have hld := ldPol_run (pol_of_row (p := ⟨1000, 1, 0, 0⟩) hr4 (by simp only [InP, In64]; omega))
  have KA := VApply g sA1 cA2 w4 hs4 (goodA1.ready (by decide) (by decide) inA2)
  rw [awk2] at KA
  have KA2 := Lib.hid KA; have Hr4 := Lib.hid hr4
  have Hb4 := Lib.hid (Hb3.out.trans (ht4.below (fun k e => by have := Hg.out; omega) Hb3.out.size))
  clear hr4 hs4 ht4 KA
  go_wp2_with fail
  refine KA2.out.mono ?_
  rintro e w5 ⟨rfl, hs5, ht5⟩
  have hr5 := ht5.heap Hr4.out (by omega)
  have KV := VVolume_yes g sA2 0 w5 hs5 (goodA2.d.fit (by decide)) volA2
  have KV' := Lib.hid KV; have Hr5 := Lib.hid hr5; have Hs5 := Lib.hid hs5
  have Hb5 := Lib.hid (Hb4.out.trans (ht5.below (fun k e => by have := Hg.out; omega) Hb4.out.size))
  clear hr5 hs5 ht5 KV hld
  go_wp2_with fail
  refine KV'.out.mono ?_
  rintro e w6 ⟨S, rfl, hown6, hb6⟩
  obtain ⟨A, n, c⟩ := S
  have hn : n = 2 := by
    have := hown6.1
    rw [numsV_length] at this
    have e2 : (idsK (sA2.vs 0).ks).length = 2 := by kernel_rfl
    simp only at this
    omega
  subst hn
  obtain ⟨w7, hw7⟩ : ∃ w7, w6.alloc (.cells #[.int .i64 0, .int .i64 0, .int .i64 0, .int .i64 0, .int .i64 0, .int .i64 0, .int .i64 0, .slice none 0 0] 32) = w7 := ⟨_, rfl⟩
  have hb7 : Below w6.heap.size w6 w7 := by rw [← hw7]; exact below_box _ _
  have hr7 : w7.heap[w6.heap.size]? = some (.cells #[.int .i64 0, .int .i64 0, .int .i64 0, .int .i64 0, .int .i64 0, .int .i64 0, .int .i64 0, .slice none 0 0] 32 (0, 0)) := by rw [← hw7]; exact heap_alloc_new _ _
  obtain ⟨w8, hst8, hr8, ht8⟩ := stVo_run hr7 rfl (0 : Int) (sA2.vs 0).bl (sA2.vs 0).p.re (sA2.vs 0).p.we (sA2.vs 0).p.li (sA2.vs 0).p.bu (sA2.vs 0).ver ⟨A, 2, c⟩
  simp only at hst8 hr8
  have hb68 : Below w6.heap.size w6 w8 := hb7.trans (ht8.below (fun k e => by omega) hb7.size)
  have hb58 := hb6.trans (hb68.mono hb6.size)
  have hs8 := Hs5.out.below hb58
  have hr58 := row_below Hr5.out hb58
  have hld := ldPol_run (pol_of_row (p := ⟨1000, 1, 0, 0⟩) hr58 (by simp only [InP, In64]; omega))
  have KA := VApply g sA2 cA3 w8 hs8 (goodA2.ready (by decide) (by decide) inA3)
  rw [awk3] at KA
  have KA3 := Lib.hid KA; have Hr8 := Lib.hid hr8
  have hg6 : g < w6.heap.size := by have := hb6.size; have := Hs5.out.lt; omega
  have Hb8 := Lib.hid (Hb5.out.trans (hb58.mono Hb5.out.size))
  clear hown6 hb6 hb7 hr7 hb68 hb58 hs8 hr58 KA hr8 ht8
  go_wp2_with fail
  refine KA3.out.mono ?_
  rintro e w9 ⟨rfl, hs9, ht9⟩
  have hr9 := ht9.heap Hr8.out (by omega)
  have d7 : w9.cell? ⟨w6.heap.size, 7, none⟩ = some (.slice A 2 c) := row_cell hr9 7
  have Hb9 := Lib.hid (Hb8.out.trans (ht9.below (fun k e => by have := Hg.out; omega) Hb8.out.size))
  clear hr9 hs9 ht9 hld
  go_wp2
  go_ret
  exact ⟨rfl, Hb9.out⟩
end Go.Proofs.Ytcaaakoahaoooaa
