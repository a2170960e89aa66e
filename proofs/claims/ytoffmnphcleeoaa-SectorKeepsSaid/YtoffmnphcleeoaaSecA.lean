/-
  Contract of law04's awake: the document's example. No condition.
-/
import Derived.Test.YtoffmnphcleeoaaRows
import Derived.Test.YtoffmnphcleeoaaSecF
import Derived.Test.YtoffmnphcleeoaaSecW
import Derived.Test.YtoffmnphcleeoaaSecN
namespace Go.Proofs.Ytoffmnphcleeoaa
open Go.ChangeShapes Go.WideShapes Go.ChangeAt Go.RowKit
set_option linter.unusedVariables false

theorem Blk.seen {w : World} {b : Nat} {t : TypeId} {bs : List UInt8} (h : Blk w b t (bytesV bs).toArray) : Seen w (some ⟨b, 0, none⟩) (bytesV bs) := by
  have := Seen.of_cells (w := w) (g := b) (t := t) (fr := (0, 0)) h
  simpa using this
theorem Blk.below {w w' : World} {b : Nat} {t : TypeId} {cs : Array Value} (h : Blk w b t cs) (hb : Below w.heap.size w w') : Blk w' b t cs := (hb.block b h.lt).trans h

/-- the document's device -/
def d1A : Dv := (Dv.new 2).write 1 (full 7)
def d2A : Dv := d1A.boot [3]
def bsA : List UInt8 := newest d2A.L d2A.S 1
theorem awake_facts : (Dv.new 2).writeE 1 (full 7) = 0 ∧ d1A.L.length = 1 ∧ d2A.L.length = 0 ∧ d2A.down = false ∧ d2A.n = 2 ∧ bsA[2]? = some 7 ∧ bsA[3]? = some 0 := by decide +kernel

set_option maxRecDepth 100000 in
theorem awake_any (w : World) : Calls Try.prog 13 #[] w fun e w' => e = .returned (.bool true) ∧ Below w.heap.size w w' := by
  obtain ⟨a1, a2, a3, a4, a5, a6, a7⟩ := awake_facts
  have A1 := Lib.hid a1; have A2 := Lib.hid a2; have A3 := Lib.hid a3; have A4 := Lib.hid a4; have A5 := Lib.hid a5; have A6 := Lib.hid a6; have A7 := Lib.hid a7
  clear a1 a2 a3 a4 a5 a6 a7
  obtain ⟨B, hB⟩ : ∃ B, w.heap.size = B := ⟨_, rfl⟩
  have HB := Lib.hid hB; clear hB
  go_enter Try.func13, Try.ntmps13
  go_wp2_with fail
  refine (New_any 2 w (by omega) (by omega)).mono ?_
  rw [HB.out]
  rintro e w1 ⟨g, s, rfl, hd, hb⟩
  have Hd1 := Lib.hid hd; have Hb1 := Lib.hid hb
  clear hd hb
  go_wp2_with fail
  refine (full_any 7 w1).mono ?_
  rintro e w2 ⟨rfl, hf, hb⟩
  have hB1 : B ≤ w1.heap.size := by have := Hb1.out.size; have := HB.out; omega
  have Hd2 := Lib.hid (Hd1.out.below hb)
  have Hb2 := Lib.hid (Hb1.out.trans (hb.mono hB1))
  have Hf2 := Lib.hid (Blk.seen hf)
  have Hl1 := Lib.hid Hd1.out.lt
  have hB2 : B ≤ w2.heap.size := by have := hb.size; omega
  clear hf hb
  go_wp2_with fail
  refine (Write_any B g s none (Dv.new 2) 1 _ 64 64 (full 7) w2 Hd2.out (by show 0 < _; omega) (by omega) (by omega) (full_length _) (by omega) hB2 Hf2.out (fun gb ob e => by
    injection e with e; injection e with e _
    have := Hl1.out.1; have := Hl1.out.2.1
    exact ⟨by omega, by omega, by simp⟩)).mono ?_
  rw [A1.out]
  rintro e w3 ⟨rfl, hmv⟩
  have Hb3 := Lib.hid (Hb2.out.trans (hmv.below Hd2.out hB2))
  obtain ⟨r3, hd3, _, _⟩ := hmv
  have Hd3 := Lib.hid (show IsD w3 B g s r3 d1A from hd3)
  have hB3 : B ≤ w3.heap.size := by have := Hb3.out.size; have := HB.out; omega
  clear hd3
  go_wp2_with fail
  have Hl3 := Lib.hid Hd3.out.lt
  have hbk : Below w3.heap.size w3 (w3.alloc (.cells #[.int .i64 3] 3)) := (Below.refl _ _).alloc (Nat.le_refl _) _
  refine (Boot_any B g s r3 d1A (some ⟨w3.heap.size, 0, none⟩) 1 1 [3] _ (Hd3.out.below hbk) (by rw [A2.out]; omega) rfl (Seen.of_cells (heap_alloc_new w3 _)) (fun _ gb ob e => by
    injection e with e; injection e with e _
    have := Hl3.out.2.1
    omega)).mono ?_
  rintro e w4 ⟨rfl, hmv⟩
  have Hb4 := Lib.hid ((Hb3.out.alloc hB3 _).trans (hmv.below (Hd3.out.below hbk) (by simp; omega)))
  obtain ⟨r4, hd4, _, _⟩ := hmv
  have Hd4 := Lib.hid (show IsD w4 B g s r4 d2A from hd4)
  have hB4 : B ≤ w4.heap.size := by have := Hb4.out.size; have := HB.out; omega
  clear hd4
  go_wp2_with fail
  refine (Read_any B g s r4 d2A 1 _ Hd4.out (by rw [A3.out]; omega) A4.out (by rw [A5.out]; omega)).mono ?_
  rintro e w5 ⟨b, rfl, hbl, hbk, hb⟩
  have Hb5 := Lib.hid (Hb4.out.trans (hb.mono hB4))
  have k2 : w5.cell? ⟨b, 2, none⟩ = some (.int .u8 7) := by
    rw [row_cell hbk 2]
    have := A6.out
    show (bytesV bsA).toArray[2]? = _
    rw [List.getElem?_toArray, bytesV, List.getElem?_map, this]
    rfl
  have k3 : w5.cell? ⟨b, 3, none⟩ = some (.int .u8 0) := by
    rw [row_cell hbk 3]
    have := A7.out
    show (bytesV bsA).toArray[3]? = _
    rw [List.getElem?_toArray, bytesV, List.getElem?_map, this]
    rfl
  have hB5 : B ≤ w5.heap.size := by have := Hb5.out.size; have := HB.out; omega
  clear hbk hb hbl
  go_wp2_with fail
  refine (New_out 0 w5 (by omega) (by omega) (by omega)).mono ?_
  rintro e w6 ⟨rfl, rfl⟩
  go_wp2
  go_ret
  exact ⟨rfl, by rw [HB.out]; exact Hb5.out⟩
end Go.Proofs.Ytoffmnphcleeoaa
