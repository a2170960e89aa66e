/-
  Contracts of journal.wipe over a part that is zeros already, and of Open over a new device.
-/
import Derived.Test.YtcplclnlcfhoeaaJouScan
import Derived.Test.YtcplclnlcfhoeaaJouD
namespace Go.Proofs.Ytcplclnlcfhoeaa
open Go.ChangeShapes Go.WideShapes Go.ChangeAt Go.RowKit
set_option linter.unusedVariables false

set_option maxRecDepth 100000 in
set_option maxHeartbeats 2000000 in
theorem wipe_zero (B g s : Nat) (r : Option Nat) (d : Dv) (a b : Nat) (w : World) (h : IsD w B g s r d) (hL : d.L.length ≤ 1000000) (hd : d.down = false) (hb : b ≤ d.n) (hz : ∀ i, i < b → newest d.L d.S i = List.replicate 64 0) :
    Calls Try.prog 26 #[.pointer (some ⟨g, 0, none⟩), .int .i64 (a : Int), .int .i64 (b : Int)] w fun e w' => e = .returned (.int .i64 0) ∧ Below w.heap.size w w' := by
  have H := Lib.hid h; clear h
  have hn := H.out.1.n
  have Hd := Lib.hid hd; have Hz := Lib.hid hz
  clear hd hz
  obtain ⟨i0, hi, hz0, hz1, hz2⟩ := info_parts u8_info
  go_enter Try.func26, Try.ntmps26
  go_wp2_with (at_make; go_loud (refine wpList_make_full _ rfl (.const (.int .i64 64)) (.const (.int .i64 64)) _ rfl w.heap.size 5 i0 (.int .u8 0) 1 Try.underlying22 hi hz0 hz1 .i64 .i64 _ _ 64 rfl rfl (by omega) (by omega) (by rw [hz2]; omega) (by unfold maxLen; omega) (Nat.le_refl _) ?_; intro w1 hown hgr; rw [made_u8] at hown; have Hs1 := Lib.hid (Seen.of_own hown); have Hb1 := Lib.hid ((Below.refl w.heap.size w).grown hgr (Nat.le_refl _) (fun k e => by cases e)); clear hown hgr))
  go_loopw [8, 9] (fun bv iv wr => ∃ k : Nat, bv = .bool false ∧ iv = .int .i64 (k : Int) ∧ Below w1.heap.size w1 wr) (fun _ iv _ => b - (intOf iv).toNat)
  case atStart => exact ⟨a, rfl, rfl, Below.refl _ _⟩
  case round =>
    obtain ⟨k, rfl, rfl, hbr⟩ := hrel
    have Hbr := Lib.hid hbr; clear hbr
    by_cases hk : k < b
    · have hrd := Read_any B g s r d k wr (H.out.below (Hb1.out.trans (Hbr.out.mono Hb1.out.size))) hL Hd.out (by omega)
      rw [Hz.out k hk] at hrd
      have Hrd := Lib.hid hrd; clear hrd
      go_wp2_with (first
        | (go_at_call 32; refine Hrd.out.mono ?_; rintro e w3 ⟨pb, rfl, hpb, hblk, hb3⟩; have Hblk := Lib.hid (Blk.seen hblk); have Hb3 := Lib.hid (Hbr.out.trans (hb3.mono Hbr.out.size)); clear hblk hb3)
        | (go_at_call 39; refine (BytesEqual_any (some ⟨pb, 0, none⟩) (some ⟨w.heap.size, 0, none⟩) 64 64 64 64 (List.replicate 64 0) (List.replicate 64 0) w3 List.length_replicate List.length_replicate Hblk.out (Hs1.out.below Hb3.out)).mono ?_; rw [decide_eq_true rfl]; rintro e w4 ⟨rfl, rfl⟩))
      go_roundw
      case rel => exact ⟨k + 1, rfl, by go_num, Hb3.out⟩
      case measure => simp [intOf]; omega
    · go_wp2
      go_ret
      exact ⟨rfl, Hb1.out.trans (Hbr.out.mono Hb1.out.size)⟩

theorem new_part {n : Nat} : (Dv.new n).part 0 n = List.replicate (64 * n) 0 := by
  show ((List.replicate (n * 64) (0 : UInt8)).drop (64 * 0)).take (64 * n) = _
  rw [Nat.mul_zero, List.drop_zero, List.take_replicate, Nat.mul_comm n 64, Nat.min_self]

/-- what Open hands back over a new device -/
def OpenNew (B g s n gen : Nat) (w : World) (en : Ending) (w' : World) : Prop :=
  ∃ jg A c, en = .returned (.tuple #[.pointer (some ⟨jg, 0, none⟩), .slice A 0 c, .int .i64 0]) ∧ IsJ w' B g s none jg none (Jn.first n gen) ∧ Below w.heap.size w w'

set_option maxRecDepth 100000 in
set_option maxHeartbeats 2000000 in
theorem Open_new (B g s n gen : Nat) (w : World) (h : IsD w B g s none (.new n)) (hg : gen ≤ 1099511627776) :
    Calls Try.prog 11 #[.pointer (some ⟨g, 0, none⟩), .int .i64 0, .int .i64 (n : Int), .int .i64 (gen : Int)] w (OpenNew B g s n gen w) := by
  have H := Lib.hid h
  have hn : n ≤ 4096 := h.1.n
  have hsc := Scan_any B g s none (.new n) 0 n gen w h (Nat.zero_le _) rfl (by show 0 + n ≤ n; omega) hg
  have hsc0 : Calls Try.prog 14 #[.pointer (some ⟨g, 0, none⟩), .int .i64 0, .int .i64 (n : Int), .int .i64 (gen : Int)] w (fun e w' => (∃ A c, e = .returned (.tuple #[.slice A 0 c, .int .i64 0, .int .i64 0])) ∧ Below w.heap.size w w') := by
    refine hsc.mono ?_
    rintro e w1 ⟨hb, ts, A, m, c, rfl, hs, ht⟩
    rw [new_part] at hs
    obtain rfl := hs.one (scanned_zeros gen (64 * n))
    obtain rfl : m = 0 := ht.1.symm
    exact ⟨⟨A, c, rfl⟩, hb⟩
  have Hsc := Lib.hid hsc0
  have hnew : ∀ i, i < n → newest (Dv.new n).L (Dv.new n).S i = List.replicate 64 0 := fun i hi => sec_new hi
  have Hnew := Lib.hid hnew
  clear hsc hsc0 hnew h
  go_enter Try.func11, Try.ntmps11
  go_wp2_with (first
    | (go_at_call 14; refine Hsc.out.mono ?_; rintro e w1 ⟨⟨A, c, rfl⟩, hb1⟩; have Hb1 := Lib.hid hb1; clear hb1)
    | (go_at_call 26; go_loud (refine (wipe_zero B g s none (.new n) 0 n w1 (H.out.below Hb1.out) (Nat.zero_le _) rfl (Nat.le_refl _) Hnew.out).mono ?_); rintro e w2 ⟨rfl, hb2⟩; have Hb2 := Lib.hid (Hb1.out.trans (hb2.mono Hb1.out.size)); clear hb2))
  go_ret3
  have hd2 := H.out.below Hb2.out
  have hal := (Below.refl w2.heap.size w2).alloc (Nat.le_refl _) (.cells #[.pointer (some ⟨g, 0, none⟩), .int .i64 (gen : Int), .int .i64 0, .int .i64 0, .int .i64 (n : Int), .slice none 0 0, .bool false] 64)
  have hl := hd2.lt
  exact ⟨w2.heap.size, A, c, rfl, ⟨(Run.new hn hg).ok, hd2.below hal, by omega, by omega, by omega, by simp, by simp, by simp, by simp, fun k e => (by cases e), none, 0, heap_alloc_new _ _, World.ownsRow_nil _ _ _ _, rfl⟩, Hb2.out.trans (hal.mono Hb2.out.size)⟩
end Go.Proofs.Ytcplclnlcfhoeaa
