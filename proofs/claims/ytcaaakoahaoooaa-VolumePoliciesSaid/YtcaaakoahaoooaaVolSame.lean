/-
  Contracts of dotterelref18's SameVolume and SameChunk, of what is the same. Conditions: what each slice reads as.
-/
import Derived.Test.YtcaaakoahaoooaaVolEq
import Derived.Test.YtcaaakoahaoooaaSameI
namespace Go.Proofs.Ytcaaakoahaoooaa
open Go.ChangeShapes Go.WideShapes Go.ChangeAt Go.RowKit
set_option linter.unusedVariables false
set_option linter.unusedSimpArgs false

theorem eqPol_run (p q : Pol) (w : World) : (binOp .eql 29 (.agg #[.int .i64 p.re, .int .i64 p.we, .int .i64 p.li, .int .i64 p.bu]) (.agg #[.int .i64 q.re, .int .i64 q.we, .int .i64 q.li, .int .i64 q.bu])).run Try.prog w = .ok (.bool (decide (p = q))) w := by
  rw [run_eql_struct, eqPol_in 9998 p q w]
  rfl
theorem neqPol_run (p q : Pol) (w : World) : (binOp .neq 29 (.agg #[.int .i64 p.re, .int .i64 p.we, .int .i64 p.li, .int .i64 p.bu]) (.agg #[.int .i64 q.re, .int .i64 q.we, .int .i64 q.li, .int .i64 q.bu])).run Try.prog w = .ok (.bool (!decide (p = q))) w := by
  rw [run_neq_struct, eqPol_in 9998 p q w]
  rfl
theorem eqGuard_pol (op : BinOp) (x y : Operand) (p q : Pol) (w : World) : (eqGuard op 29 x y (.agg #[.int .i64 p.re, .int .i64 p.we, .int .i64 p.li, .int .i64 p.bu]) (.agg #[.int .i64 q.re, .int .i64 q.we, .int .i64 q.li, .int .i64 q.bu])).run Try.prog w = .ok () w :=
  run_eqGuard_agg w op _ x y _ _ (by kernel_rfl)
def voL (id bl : Int) (p : Pol) (ver : Int) (S : Sl) : Array Value := #[.int .i64 id, .int .i64 bl, .int .i64 p.re, .int .i64 p.we, .int .i64 p.li, .int .i64 p.bu, .int .i64 ver, .slice S.A S.n S.c]
attribute [local go_sem ↓] ldPol_eq
set_option maxRecDepth 100000 in
set_option maxHeartbeats 2000000 in
theorem VSameVolume (id bl ver : Int) (p : Pol) (S T : Sl) (us : List Int) (w : World) (hp : InP p) (hS : us.length = S.n) (hT : us.length = T.n) (hm : S.n ≤ maxLen) (sS : Seen w S.A (numsV us)) (sT : Seen w T.A (numsV us)) :
    Calls Try.prog 23 #[.agg (voL id bl p ver S), .agg (voL id bl p ver T)] w fun e w' => e = .returned (.bool true) ∧ Below w.heap.size w w' := by
  unfold voL
  obtain ⟨w1, hw1, hb1, hr1⟩ : ∃ w1, w.alloc (.cells #[.int .i64 id, .int .i64 bl, .int .i64 p.re, .int .i64 p.we, .int .i64 p.li, .int .i64 p.bu, .int .i64 ver, .slice S.A S.n S.c] 32) = w1 ∧ Below w.heap.size w w1 ∧ w1.heap[w.heap.size]? = some (.cells #[.int .i64 id, .int .i64 bl, .int .i64 p.re, .int .i64 p.we, .int .i64 p.li, .int .i64 p.bu, .int .i64 ver, .slice S.A S.n S.c] 32 (0, 0)) := ⟨_, rfl, below_box _ _, heap_alloc_new _ _⟩
  obtain ⟨w2, hw2, hb2, hr2⟩ : ∃ w2, w1.alloc (.cells #[.int .i64 id, .int .i64 bl, .int .i64 p.re, .int .i64 p.we, .int .i64 p.li, .int .i64 p.bu, .int .i64 ver, .slice T.A T.n T.c] 32) = w2 ∧ Below w1.heap.size w1 w2 ∧ w2.heap[w1.heap.size]? = some (.cells #[.int .i64 id, .int .i64 bl, .int .i64 p.re, .int .i64 p.we, .int .i64 p.li, .int .i64 p.bu, .int .i64 ver, .slice T.A T.n T.c] 32 (0, 0)) := ⟨_, rfl, below_box _ _, heap_alloc_new _ _⟩
  have hr12 := row_below hr1 hb2
  have hb12 := hb1.trans (hb2.mono hb1.size)
  have a0 : w2.cell? ⟨w.heap.size, 0, none⟩ = some (.int .i64 id) := row_cell hr12 0
  have a1 : w2.cell? ⟨w.heap.size, 1, none⟩ = some (.int .i64 bl) := row_cell hr12 1
  have a2 := ldPol_run (w := w2) (g := w.heap.size) (o := 2) (p := p) ⟨row_cell hr12 2, row_cell hr12 3, row_cell hr12 4, row_cell hr12 5, hp⟩
  have a6 : w2.cell? ⟨w.heap.size, 6, none⟩ = some (.int .i64 ver) := row_cell hr12 6
  have a7 : w2.cell? ⟨w.heap.size, 7, none⟩ = some (.slice S.A S.n S.c) := row_cell hr12 7
  have b0 : w2.cell? ⟨w1.heap.size, 0, none⟩ = some (.int .i64 id) := row_cell hr2 0
  have b1 : w2.cell? ⟨w1.heap.size, 1, none⟩ = some (.int .i64 bl) := row_cell hr2 1
  have b2 := ldPol_run (w := w2) (g := w1.heap.size) (o := 2) (p := p) ⟨row_cell hr2 2, row_cell hr2 3, row_cell hr2 4, row_cell hr2 5, hp⟩
  have b6 : w2.cell? ⟨w1.heap.size, 6, none⟩ = some (.int .i64 ver) := row_cell hr2 6
  have b7 : w2.cell? ⟨w1.heap.size, 7, none⟩ = some (.slice T.A T.n T.c) := row_cell hr2 7
  have e1 : (id == id) = true := by simp
  have e2 : (bl == bl) = true := by simp
  have e3 : (ver == ver) = true := by simp
  have hq := fun W => eqPol_run p p W
  rw [decide_eq_true (rfl : p = p)] at hq
  have hg := fun a b W => eqGuard_pol .eql a b p p W
  have KI := Lib.hid (SameInts_any S.A T.A S.n T.n S.c T.c us us w2 hS hT (sS.below hb12) (sT.below hb12) hm)
  rw [decide_eq_true (rfl : us = us)] at KI
  have Hb := Lib.hid hb12
  clear hb1 hb2 hr1 hr2 hr12 hb12 hS hT sS sT hm hp
  go_enter Try.func23, Try.ntmps23
  go_wp2_with (go_at_call 21; refine KI.out.mono ?_; rintro e w3 ⟨rfl, hb3⟩; have Hb3 := Lib.hid (Hb.out.trans (hb3.mono Hb.out.size)); clear hb3)
  go_ret
  exact ⟨rfl, Hb3.out⟩
set_option maxRecDepth 100000 in
set_option maxHeartbeats 2000000 in
theorem VSameChunk (id vo ep : Int) (S T U V : Sl) (us vs : List Int) (w : World) (hS : us.length = S.n) (hT : us.length = T.n) (hm : S.n ≤ maxLen) (sS : Seen w S.A (numsV us)) (sT : Seen w T.A (numsV us)) (hU : vs.length = U.n) (hV : vs.length = V.n) (hm2 : U.n ≤ maxLen) (sU : Seen w U.A (numsV vs)) (sV : Seen w V.A (numsV vs)) :
    Calls Try.prog 22 #[.agg #[.int .i64 id, .int .i64 vo, .int .i64 ep, .slice S.A S.n S.c, .slice U.A U.n U.c], .agg #[.int .i64 id, .int .i64 vo, .int .i64 ep, .slice T.A T.n T.c, .slice V.A V.n V.c]] w fun e w' => e = .returned (.bool true) ∧ Below w.heap.size w w' := by
  obtain ⟨w1, hw1, hb1, hr1⟩ := ck_box w ⟨id, vo, ep, S, U, us, vs⟩
  obtain ⟨w2, hw2, hb2, hr2⟩ := ck_box w1 ⟨id, vo, ep, T, V, us, vs⟩
  simp only at hw1 hw2 hr1 hr2
  have hr12 := row_below hr1 hb2
  have hb12 := hb1.trans (hb2.mono hb1.size)
  have e1 : (id == id) = true := by simp
  have e2 : (vo == vo) = true := by simp
  have e3 : (ep == ep) = true := by simp
  have a0 : w2.cell? ⟨w.heap.size, 0, none⟩ = some (.int .i64 id) := row_cell hr12 0
  have a1 : w2.cell? ⟨w.heap.size, 1, none⟩ = some (.int .i64 vo) := row_cell hr12 1
  have a2 : w2.cell? ⟨w.heap.size, 2, none⟩ = some (.int .i64 ep) := row_cell hr12 2
  have a3 : w2.cell? ⟨w.heap.size, 3, none⟩ = some (.slice S.A S.n S.c) := row_cell hr12 3
  have b0 : w2.cell? ⟨w1.heap.size, 0, none⟩ = some (.int .i64 id) := row_cell hr2 0
  have b1 : w2.cell? ⟨w1.heap.size, 1, none⟩ = some (.int .i64 vo) := row_cell hr2 1
  have b2 : w2.cell? ⟨w1.heap.size, 2, none⟩ = some (.int .i64 ep) := row_cell hr2 2
  have b3 : w2.cell? ⟨w1.heap.size, 3, none⟩ = some (.slice T.A T.n T.c) := row_cell hr2 3
  have KI := Lib.hid (SameInts_any S.A T.A S.n T.n S.c T.c us us w2 hS hT (sS.below hb12) (sT.below hb12) hm)
  rw [decide_eq_true (rfl : us = us)] at KI
  have KJ := Lib.hid (fun W (hb : Below w.heap.size w W) => SameInts_any U.A V.A U.n V.n U.c V.c vs vs W hU hV (sU.below hb) (sV.below hb) hm2)
  rw [decide_eq_true (rfl : vs = vs)] at KJ
  have Hb := Lib.hid hb12; have Hr := Lib.hid (And.intro hr12 hr2)
  clear hb1 hb2 hr1 hr2 hr12 hb12 hS hT sS sT hm hU hV sU sV hm2
  go_enter Try.func22, Try.ntmps22
  go_wp2_with fail
  refine KI.out.mono ?_
  rintro e w3 ⟨rfl, hb3⟩
  have a4 : w3.cell? ⟨w.heap.size, 4, none⟩ = some (.slice U.A U.n U.c) := row_cell (row_below Hr.out.1 hb3) 4
  have b4 : w3.cell? ⟨w1.heap.size, 4, none⟩ = some (.slice V.A V.n V.c) := row_cell (row_below Hr.out.2 hb3) 4
  have hb03 := Hb.out.trans (hb3.mono Hb.out.size)
  have KJ3 := Lib.hid (KJ.out w3 hb03)
  have Hb3 := Lib.hid hb03
  clear hb3 hb03 a0 a1 a2 a3 b0 b1 b2 b3
  go_wp2_with (go_at_call 21; refine KJ3.out.mono ?_; rintro e w4 ⟨rfl, hb4⟩; have Hb4 := Lib.hid (Hb3.out.trans (hb4.mono Hb3.out.size)); clear hb4)
  go_ret
  exact ⟨rfl, Hb4.out⟩
end Go.Proofs.Ytcaaakoahaoooaa
