/-
  Contracts of dotterelref03 (the document's answer for pack): Num, Text.
-/
import Derived.Test.YtkjfaijdmpnjkaaPackA
namespace Go.Proofs.Ytkjfaijdmpnjkaa
open Go.ChangeShapes Go.WideShapes Go.ChangeAt Go.RowKit
set_option linter.unusedVariables false

/-- the loop's relation: what stands in out, and what is still to be written -/
def RefAt (m : Nat) (w : World) (k : Nat) (A : Option Addr) (n c : Nat) (wr : World) : Prop :=
  k ≤ m ∧ ∃ ys, ys ++ numB k = numB m ∧ ys.length = n ∧ wr.ownsRow w.heap.size 5 1 (.slice A n c) n (bytesV ys) ∧ Below w.heap.size w wr

set_option maxRecDepth 100000 in
theorem FNum_any (n : Int) (w : World) (h1 : -9223372036854775808 ≤ n) (h2 : n ≤ 9223372036854775807) :
    Calls Try.prog 26 #[.int .i64 n] w (OwnRet 5 (bytesV (numB n.toNat)) w) := by
  obtain ⟨m, hm⟩ : ∃ m : Nat, n.toNat = m := ⟨_, rfl⟩
  have hm2 : m < 9223372036854775808 := by omega
  have Hl9 := Lib.hid (numB_len9 hm2)
  rw [hm]
  have Hm := Lib.hid hm; clear hm
  by_cases hneg : n < 0
  all_goals
    go_enter Try.func26, Try.ntmps26
    go_wp2
    go_loopw [0, 3] (fun i out wr => ∃ (k : Nat) (A : Option Addr) (l c : Nat), i = .int .i64 k ∧ out = .slice A l c ∧ RefAt m w k A l c wr) (fun i _ _ => (intOf i).toNat)
    case atStart => exact ⟨m, none, 0, 0, by have := Hm.out; congr 1; omega, rfl, Nat.le_refl _, [], rfl, rfl, World.ownsRow_nil _ _ _ _, Below.refl _ _⟩
    case round =>
      obtain ⟨k, A, l, c, rfl, rfl, hk, ys, hys, hyl, hown, hbw⟩ := hrel
      have hkl := numB_ne k
      have hl9 : l + (numB k).length ≤ 9 := by have := Hl9.out; rw [← hys, List.length_append] at this; omega
      have Hys := Lib.hid hys; clear hys
      have Hyl := Lib.hid hyl; clear hyl
      have Hown := Lib.hid hown; clear hown
      have Hbw := Lib.hid hbw
      have hsz := hbw.size
      clear hbw
      by_cases hlt : k < 128
      · have hmod : (k : Int) % 256 = (k : Int) := by omega
        go_wp2_with (at_builtin; refine wpList_app rfl (.tmp 17) (.tmp 20) _ rfl 5 _ 1 Try.underlying36 u8_info rfl w.heap.size A l c (bytesV ys) rfl (Hown.out.alloc _) (some ⟨wr.heap.size, 0, none⟩) 1 1 [.int .u8 (k : Int)] rfl rfl (Seen.of_cells (heap_alloc_new wr _)) (by simp [Value.oneCell']) (by unfold maxLen; omega) (by omega) (by simp; omega) ?_; intro A4 c4 w4 hown4 hb4; have Hown4 := Lib.hid hown4; have Hb4 := Lib.hid ((Hbw.out.alloc Hbw.out.size (.cells #[.int .u8 (k : Int)] 5)).trans hb4); clear hown4 hb4)
        go_ret
        have e : bytesV (numB m) = bytesV ys ++ [.int .u8 (k : Int)] := by rw [bytes_snoc (by omega), ← Hys.out, numB_lt hlt]
        have el : (bytesV (numB m)).length = l + 1 := by rw [e, List.length_append, bytes_length, Hyl.out]; rfl
        exact ⟨A4, c4, by rw [el]; rfl, by rw [el, e]; exact Hown4.out, Hb4.out⟩
      · go_wp2_with (at_builtin; refine wpList_app rfl (.tmp 8) (.tmp 13) _ rfl 5 _ 1 Try.underlying36 u8_info rfl w.heap.size A l c (bytesV ys) rfl (Hown.out.alloc _) (some ⟨wr.heap.size, 0, none⟩) 1 1 [.int .u8 (128 + (k : Int) % 128)] rfl rfl (Seen.of_cells (heap_alloc_new wr _)) (by simp [Value.oneCell']) (by unfold maxLen; omega) (by omega) (by simp; omega) ?_; intro A4 c4 w4 hown4 hb4; have Hown4 := Lib.hid hown4; have Hb4 := Lib.hid ((Hbw.out.alloc Hbw.out.size (.cells #[.int .u8 (128 + (k : Int) % 128)] 5)).trans hb4); clear hown4 hb4)
        go_roundw
        case rel =>
          refine ⟨k / 128, A4, l + 1, c4, by go_num, rfl, by omega, ys ++ [UInt8.ofNat (k % 128 + 128)], ?_, by rw [List.length_append, Hyl.out]; rfl, ?_, Hb4.out⟩
          · rw [List.append_assoc, ← Hys.out, numB_ge hlt]; rfl
          · rw [← bytes_snoc (by omega), show ((k % 128 + 128 : Nat) : Int) = 128 + (k : Int) % 128 by omega]
            exact Hown4.out
        case measure => simp [intOf]; omega

end Go.Proofs.Ytkjfaijdmpnjkaa
