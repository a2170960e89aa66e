/-
  Contract of law21's awake: the document's example, computed. No condition.
-/
import Derived.Test.YteebkolccbcehaaBlkRef
namespace Go.Proofs.Yteebkolccbcehaa
open Go.ChangeShapes Go.WideShapes Go.ChangeAt Go.RowKit
set_option linter.unusedVariables false
set_option linter.unusedSimpArgs false

def txt : List UInt8 := [48, 49, 50, 51, 52, 53, 54, 55, 56, 57, 97, 98, 99, 100, 101, 102]
def ex1 : List UInt8 := setB z128 3 txt
theorem ex1_len : ex1.length = 128 := by rfl
theorem ex1_get : getB ex1 3 = txt := by rfl
theorem ex1_trim : setB ex1 3 zB = z128 := by rfl
theorem ex_ne : (crcOf ex1 == crcOf z128) = false := by kernel_rfl
attribute [local go_sem ↓] ldB_eq stB_eq ldBs_eq ldC_eq stC_eq ldS_eq
attribute [local irreducible] wpQuiet
theorem CtAt.new2 (w : World) : CtAt ((w.alloc (.cells (bytesV z128).toArray 27)).alloc (.cells (bytesV z128).toArray 27)) w.heap.size z128 ∧ CtAt ((w.alloc (.cells (bytesV z128).toArray 27)).alloc (.cells (bytesV z128).toArray 27)) (w.heap.size + 1) z128 ∧ Below w.heap.size w ((w.alloc (.cells (bytesV z128).toArray 27)).alloc (.cells (bytesV z128).toArray 27)) := by
  refine ⟨(CtAt.new (m := z128) rfl w).below ((Below.refl _ _).alloc (Nat.le_refl _) _), ?_, ((Below.refl _ w).alloc (Nat.le_refl _) _).alloc (by simp) _⟩
  have := CtAt.new (m := z128) rfl (w.alloc (.cells (bytesV z128).toArray 27))
  simpa using this
set_option maxRecDepth 100000 in
set_option maxHeartbeats 2000000 in
theorem awake_any (w : World) : Calls Try.prog 7 #[] w fun e w' => e = .returned (.bool true) ∧ Below w.heap.size w w' := by
  have hz := zc_run
  obtain ⟨hc, hd, hb⟩ := CtAt.new2 w
  obtain ⟨W, hW⟩ : ∃ W, ((w.alloc (.cells (bytesV z128).toArray 27)).alloc (.cells (bytesV z128).toArray 27)) = W := ⟨_, rfl⟩
  rw [hW] at hc hd hb
  have Hc := Lib.hid hc; have Hd := Lib.hid hd; have Hb := Lib.hid hb
  obtain ⟨n0, hn0⟩ : ∃ n, crcOf z128 = n := ⟨_, rfl⟩
  obtain ⟨n1, hn1⟩ : ∃ n, crcOf ex1 = n := ⟨_, rfl⟩
  have hne : ((n1 : Int) == (n0 : Int)) = false := by
    have := ex_ne
    rw [hn0, hn1] at this
    rw [beq_eq_false_iff_ne] at this ⊢
    omega
  have hne2 : ((n1 : Int) != (n0 : Int)) = true := by unfold bne; rw [hne]; rfl
  have Hn0 := Lib.hid hn0; have Hn1 := Lib.hid hn1
  clear hc hd hb hn0 hn1
  go_enter Try.func7, Try.ntmps7
  have kc := fun (w : World) (C : Array Value) (n c : Nat) => Lib.run_convert_bytes_const (P := Try.prog) w 28 5 C n c Try.underlying28 Try.underlying5
  go_wp2_with fail
  have hb1 := (Below.refl _ W).alloc (Nat.le_refl _) (.cells (bytesV txt).toArray 5 (16, 17))
  have hs1 : Seen (W.alloc (.cells (bytesV txt).toArray 5 (16, 17))) (some ⟨W.heap.size, 0, none⟩) (bytesV txt) := by have := Seen.of_cells (heap_alloc_new W (.cells (bytesV txt).toArray 5 (16, 17))); simpa using this
  refine (BWrite_yes w.heap.size z128 3 (some ⟨W.heap.size, 0, none⟩) 16 txt (W.alloc (.cells (bytesV txt).toArray 5 (16, 17))) (Hc.out.below hb1) (by omega) rfl hs1).mono ?_
  rintro e w1 ⟨rfl, hc1, ht1⟩
  rw [show setB z128 3 txt = ex1 from rfl] at hc1
  have hd1 := Lib.hid ((Hd.out.below hb1).turned ht1 (by omega))
  have Hc1 := Lib.hid hc1
  have Hb1 := Lib.hid ((Hb.out.trans (hb1.mono Hb.out.size)).trans (ht1.below (fun k e => by omega) ((Hb.out.trans (hb1.mono Hb.out.size)).size)))
  clear hb1 hs1 kc hc1 ht1 hW hz
  go_wp2_with fail
  refine (BRead_yes w.heap.size ex1 3 w1 Hc1.out (by omega)).mono ?_
  rintro e w2 ⟨rfl, hs2, hb2⟩
  rw [ex1_get] at hs2
  have ha : w2.cell? ⟨w1.heap.size, 10, none⟩ = some (.int .u8 97) := by
    have := Seen.range hs2 10 (.int .u8 97) rfl
    simpa using this
  have hg2 : w.heap.size < w1.heap.size := Hc1.out.lt
  obtain ⟨g2, hge⟩ : ∃ g, w1.heap.size = g := ⟨_, rfl⟩
  rw [hge] at ha hg2
  have Hc2 := Lib.hid (Hc1.out.below hb2); have Hd2 := Lib.hid (hd1.out.below hb2); have Hb2 := Lib.hid (Hb1.out.trans (hb2.mono Hb1.out.size))
  have hlt2 : g2 < w2.heap.size := block_lt_of_cell ha
  rw [hge]
  clear hs2 hb2 Hc1 hd1 Hb1 Hc Hd Hb hge
  go_wp2_with fail
  refine (BSum_any w.heap.size ex1 w2 Hc2.out).mono ?_
  rintro e w3 ⟨rfl, hb3⟩
  rw [Hn1.out]
  have Hc3 := Lib.hid (Hc2.out.below hb3); have Hd3 := Lib.hid (Hd2.out.below hb3); have Hb3 := Lib.hid (Hb2.out.trans (hb3.mono Hb2.out.size))
  have ha3 := (hb3.cell (p := ⟨g2, 10, none⟩) hlt2).trans ha
  have hlt3 : g2 < w3.heap.size := block_lt_of_cell ha3
  clear hb3 Hc2 Hd2 Hb2 ha hlt2
  go_wp2_with fail
  refine (BSum_any (w.heap.size + 1) z128 w3 Hd3.out).mono ?_
  rintro e w4 ⟨rfl, hb4⟩
  rw [Hn0.out]
  have Hc4 := Lib.hid (Hc3.out.below hb4); have Hd4 := Lib.hid (Hd3.out.below hb4); have Hb4 := Lib.hid (Hb3.out.trans (hb4.mono Hb3.out.size))
  have ha4 := (hb4.cell (p := ⟨g2, 10, none⟩) hlt3).trans ha3
  have hlt4 : g2 < w4.heap.size := block_lt_of_cell ha4
  clear hb4 Hc3 Hd3 Hb3 ha3 hlt3
  go_wp2_with fail
  refine (BTrim_yes w.heap.size ex1 3 w4 Hc4.out (by omega)).mono ?_
  rintro e w5 ⟨rfl, hc5, ht5⟩
  rw [ex1_trim] at hc5
  have Hc5 := Lib.hid hc5; have Hd5 := Lib.hid (Hd4.out.turned ht5 (by omega)); have Hb5 := Lib.hid (Hb4.out.trans (ht5.below (fun k e => by omega) Hb4.out.size))
  have ha5 := ht5.cell ha4 (show ¬ g2 = w.heap.size by omega)
  have hlt5 : g2 < w5.heap.size := block_lt_of_cell ha5
  clear ht5 hc5 Hc4 Hd4 Hb4 ha4 hlt4
  go_wp2_with fail
  refine (BSum_any w.heap.size z128 w5 Hc5.out).mono ?_
  rintro e w6 ⟨rfl, hb6⟩
  rw [Hn0.out]
  have Hd6 := Lib.hid (Hd5.out.below hb6); have Hb6 := Lib.hid (Hb5.out.trans (hb6.mono Hb5.out.size))
  clear hb6 Hc5 Hd5 Hb5 ha5 hlt5
  go_wp2_with fail
  refine (BSum_any (w.heap.size + 1) z128 w6 Hd6.out).mono ?_
  rintro e w7 ⟨rfl, hb7⟩
  rw [Hn0.out]
  have Hb7 := Lib.hid (Hb6.out.trans (hb7.mono Hb6.out.size))
  clear hb7
  go_wp2
  go_ret
  exact ⟨rfl, Hb7.out⟩
end Go.Proofs.Yteebkolccbcehaa
