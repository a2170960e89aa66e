/-
  Contracts of block's whole, Sum, Bytes: of any content. No condition but that it lies where the pointer says.
-/
import Derived.Test.YteebkolccbcehaaBlkMem
import Derived.Test.YteebkolccbcehaaCrcC
namespace Go.Proofs.Yteebkolccbcehaa
open Go.ChangeShapes Go.WideShapes Go.ChangeAt Go.RowKit
set_option linter.unusedVariables false
set_option linter.unusedSimpArgs false

def ldBs (p : Value) : Sem Value := Instr.loadAt 25 p
theorem ldBs_eq (p : Value) : Instr.loadAt 25 p = ldBs p := rfl
theorem ldBs_run {w : World} {g : Nat} {l : List UInt8} (h : CtAt w g l) : (ldBs (.pointer (some ⟨g, 0, none⟩))).run Try.prog w = .ok (.agg (bytesV l).toArray) w :=
  run_loadAt_mid w g 0 _ _ _ (fun j v hv => by rw [row_cell h.blk, Nat.zero_add, List.getElem?_toArray]; exact hv) b128_und rfl (by rw [b128_size, bytes_length, h.len])
theorem take_get {l : List UInt8} {k : Nat} (hl : l.length = 128) (hk : k < 8) : l.take (16 * k) ++ getB l k = l.take (16 * (k + 1)) := by
  unfold getB
  rw [show 16 * (k + 1) = 16 * k + 16 by omega, List.take_add]
/-- a block of the whole, by value -/
theorem part_run {l : List UInt8} {k : Nat} (hl : l.length = 128) (hk : k < 8) (w : World) : (Instr.index 25 (.agg (bytesV l).toArray) (.int .i64 (k : Int))).run Try.prog w = .ok (.agg (bytesV (getB l k)).toArray) w := by
  have h1 : (0 : Int) ≤ (k : Int) ∧ (k : Int) < 8 := by omega
  have z : (Go.sizeOf 24).run Try.prog w = .ok 16 w := by kernel_rfl
  have e : List.take 16 (List.drop (k * 16) (bytesV l)) = bytesV (getB l k) := by
    unfold getB bytesV
    rw [List.map_take, List.map_drop, Nat.mul_comm k]
  simp [Instr.index, run_underlying b128_und, asIntOf, part, h1, z, isAgg, run_underlying b16_und, e, hk, go_sem]
attribute [local go_sem ↓] ldB_eq stB_eq ldBs_eq
set_option maxRecDepth 100000 in
set_option maxHeartbeats 2000000 in
theorem whole_any (g : Nat) (l : List UInt8) (w : World) (h : CtAt w g l) :
    Calls Try.prog 25 #[.pointer (some ⟨g, 0, none⟩)] w (OwnRet 5 (bytesV l) w) := by
  obtain ⟨i0, hi, hz0, hz1, hz2⟩ := info_parts u8_info
  have hl := ldBs_run h
  have H := Lib.hid h; clear h
  go_enter Try.func25, Try.ntmps25
  go_wp2_with (at_make; go_loud (refine wpList_make_own _ rfl _ _ 28 rfl w.heap.size 5 i0 _ 1 Try.underlying28 hi hz0 hz1 .i64 .i64 _ 128 rfl rfl (by omega) (by rw [hz2]; omega) (by unfold maxLen; omega) (Nat.le_refl _) ?_; intro w1 hown1 hg1; have hb1 : Below w.heap.size w w1 := (Below.refl _ _).grown hg1 (Nat.le_refl _) (by simp); have hl1 := ldBs_run (H.out.below hb1)))
  have Hb1 := Lib.hid hb1; have Hown1 := Lib.hid hown1
  clear hb1 hown1 hg1
  go_wp2
  go_loopw [3, 11] (fun out iv wr => ∃ (k : Nat) (A : Option Addr) (c : Nat), k ≤ 8 ∧ iv = .int .i64 (k : Int) ∧ out = .slice A (16 * k) c ∧ wr.ownsRow w.heap.size 5 1 (.slice A (16 * k) c) (16 * k) (bytesV (l.take (16 * k))) ∧ Below w.heap.size w wr) (fun _ iv _ => 8 - (intOf iv).toNat)
  case atStart => exact ⟨0, _, _, by omega, rfl, rfl, by simpa [bytesV] using Hown1.out, Hb1.out⟩
  case round =>
    obtain ⟨k, A, c, hk, rfl, rfl, hown, hb⟩ := hrel
    have Hown := Lib.hid hown; have Hb := Lib.hid hb
    clear hown hb
    by_cases hlt : k < 8
    · have h16 := getB_length H.out.len hlt
      have hp := fun W => part_run H.out.len hlt W
      have htk := Lib.hid (take_get H.out.len hlt)
      obtain ⟨b, hbk⟩ : ∃ b, getB l k = b := ⟨_, rfl⟩
      rw [hbk] at h16 hp htk
      have k0 : (k : Int) < 8 := by omega
      have hst := stB_new h16 wr
      have hz := zb_run
      have H16 := Lib.hid h16
      clear h16 hbk
      go_wp2_with (at_builtin; go_loud (refine wpList_app rfl (.tmp 14) (.tmp 15) _ rfl 5 _ 1 Try.underlying28 u8_info rfl w.heap.size A (16 * k) c (bytesV (l.take (16 * k))) rfl (Hown.out.alloc _) (some ⟨wr.heap.size, 0, none⟩) 16 16 (bytesV b) rfl (by rw [bytes_length]; exact H16.out) (by have := Seen.of_cells (heap_alloc_new wr (.cells (bytesV b).toArray 24)); simpa using this) (bytes_one b) (by unfold maxLen; omega) (by omega) (Hb.out.alloc Hb.out.size _).size ?_; intro A2 c2 w2 hown2 hb2))
      have Hown2 := Lib.hid hown2; have Hb2 := Lib.hid ((Hb.out.alloc Hb.out.size _).trans hb2)
      clear hown2 hb2
      go_wp2
      go_roundw
      case rel => exact ⟨k + 1, A2, c2, by omega, by go_num, by rw [Nat.mul_succ], by rw [Nat.mul_succ, ← Nat.mul_succ 16 k, ← htk.out, bytes_append]; exact Hown2.out, Hb2.out⟩
      case measure => simp [intOf]; omega
    · obtain rfl : k = 8 := by omega
      go_wp2
      go_ret
      have e : l.take (16 * 8) = l := List.take_of_length_le (by rw [H.out.len]; omega)
      exact ⟨A, c, by rw [bytes_length, H.out.len]; rfl, by rw [bytes_length, H.out.len]; have := Hown.out; rw [e] at this; exact this, Hb.out⟩
end Go.Proofs.Yteebkolccbcehaa
