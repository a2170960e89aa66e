/-
  Contract of pack.number: for any bytes.
-/
import Derived.Test.YtkjfaijdmpnjkaaRows
import Derived.Test.YtkjfaijdmpnjkaaRef01
import Derived.Test.YtkjfaijdmpnjkaaPackMath
import Derived.Deep.LoopGhost
import Derived.OwnWalk
import Derived.IntWalk
namespace Go.Proofs.Ytkjfaijdmpnjkaa
open Go.ChangeShapes Go.WideShapes Go.ChangeAt Go.RowKit
set_option linter.unusedVariables false

/-- what number hands back -/
def numV (b : List UInt8) : Value := .tuple #[.int .i64 ((numR b).1 : Int), .int .i64 ((numR b).2.1 : Int), .int .i64 ((numR b).2.2 : Int)]

theorem or_i64_nat (a b : Nat) (ha : a < 9223372036854775808) (hb : b < 9223372036854775808) : bits .or .i64 (a : Int) (b : Int) = ((a ||| b : Nat) : Int) := by
  have hx : a ||| b < 2 ^ 63 := Nat.or_lt_two_pow (by omega) (by omega)
  have h1 : (BitVec.ofInt 64 (a : Int)).toNat = a := by
    rw [BitVec.ofInt_natCast, BitVec.toNat_ofNat]; exact Nat.mod_eq_of_lt (by omega)
  have h2 : (BitVec.ofInt 64 (b : Int)).toNat = b := by
    rw [BitVec.ofInt_natCast, BitVec.toNat_ofNat]; exact Nat.mod_eq_of_lt (by omega)
  show IntKind.i64.wrap ((BitVec.ofInt 64 (a : Int) ||| BitVec.ofInt 64 (b : Int)).toNat : Int) = _
  rw [BitVec.toNat_or, h1, h2, IntKind.wrap_i64]
  omega
theorem or_shl (v y k : Nat) (hv : v < 128 ^ k) (hy : y < 128) (hk : k < 9) : bits .or .i64 (v : Int) (wrap64 ((y : Int) * 2 ^ (k * 7))) = ((v + 128 ^ k * y : Nat) : Int) := by
  have e : (128 : Nat) ^ k = 2 ^ (k * 7) := by rw [Nat.mul_comm, Nat.pow_mul]
  have h9 : (128 : Nat) ^ (k + 1) ≤ 128 ^ 9 := Nat.pow_le_pow_right (by omega) (by omega)
  rw [Nat.pow_succ] at h9
  have hm : 128 ^ k * y < 128 ^ k * 128 := Nat.mul_lt_mul_of_pos_left hy (Nat.pow_pos (by omega))
  have h63 : (128 : Nat) ^ 9 = 9223372036854775808 := by decide
  have hvl : 128 ^ k ≤ 128 ^ k * 128 := Nat.le_mul_of_pos_right _ (by omega)
  have ei : (y : Int) * 2 ^ (k * 7) = ((128 ^ k * y : Nat) : Int) := by rw [e]; push_cast; exact Int.mul_comm _ _
  rw [ei, show wrap64 ((128 ^ k * y : Nat) : Int) = ((128 ^ k * y : Nat) : Int) by unfold wrap64; omega, or_i64_nat _ _ (by omega) (by omega), Nat.or_comm]
  congr 1
  rw [e] at hv ⊢
  rw [← Nat.two_pow_add_eq_or_of_lt hv]
  omega
theorem val_step {bs : List UInt8} {k v y : Nat} {x : UInt8} (hv : valL (bs.take k) = v) (ht : bs.take (k + 1) = bs.take k ++ [x]) (hx : x.toNat = y) (hk : k < bs.length) : valL (bs.take (k + 1)) = v + 128 ^ k * (y % 128) := by
  rw [ht, valL_snoc, hv, hx, List.length_take, Nat.min_eq_left (by omega)]
theorem num_ret {bs : List UInt8} {a b c : Nat} {x y z : Int} (h : numR bs = (a, b, c)) (hx : x = a) (hy : y = b) (hz : z = c) : Ending.returned (.tuple #[.int .i64 x, .int .i64 y, .int .i64 z]) = Ending.returned (numV bs) := by
  unfold numV
  rw [h, hx, hy, hz]

theorem numR_nine {b : List UInt8} (h : 9 ≤ going b) : numR b = (0, 0, 3) := by unfold numR; rw [if_pos h]
theorem numR_end {b : List UInt8} (h : b.length ≤ going b) (h9 : ¬ 9 ≤ going b) : numR b = (0, 0, 2) := by unfold numR; rw [if_neg h9, if_pos (by have := going_le b; omega)]
theorem numR_zero {b : List UInt8} {k : Nat} (h : going b = k) (h9 : k < 9) (hx : b[k]? = some 0) (h0 : 0 < k) : numR b = (0, 0, 3) := by
  subst h
  unfold numR
  have := (List.getElem?_eq_some_iff.1 hx).1
  rw [if_neg (by omega), if_neg (by omega), if_pos ⟨by rw [List.getD_eq_getElem?_getD, hx]; rfl, h0⟩]
theorem numR_num {b : List UInt8} {k : Nat} {x : UInt8} (h : going b = k) (h9 : k < 9) (hx : b[k]? = some x) (h0 : x = 0 → k = 0) : numR b = (valL (b.take (k + 1)), k + 1, 0) := by
  subst h
  unfold numR
  have := (List.getElem?_eq_some_iff.1 hx).1
  rw [if_neg (by omega), if_neg (by omega), if_neg (by
    rintro ⟨h1, h2⟩
    rw [List.getD_eq_getElem?_getD, hx] at h1
    have := h0 h1
    omega)]

set_option maxRecDepth 100000 in
theorem number_any (A : Option Addr) (n c : Nat) (bs : List UInt8) (w : World) (hn : bs.length = n) (hl : n ≤ 2000000) (h : Seen w A (bytesV bs)) :
    Calls Try.prog 30 #[.slice A n c] w fun e w' => e = .returned (numV bs) ∧ w = w' := by
  have Hh := Lib.hid h; clear h
  have Hn := Lib.hid hn
  have hgl := going_le bs
  rw [hn] at hgl
  clear hn
  go_enter Try.func30, Try.ntmps30
  go_wp2
  go_step3
  go_wp2
  go_step3
  go_wp2
  go_loop [2, 5] (fun s i => ∃ k v : Nat, i = .int .i64 k ∧ s = .int .i64 v ∧ k ≤ 9 ∧ k ≤ going bs ∧ valL (bs.take k) = v ∧ v < 128 ^ k) (fun _ i => 9 - (intOf i).toNat)
  case atStart => exact ⟨0, 0, rfl, rfl, by omega, by omega, rfl, by omega⟩
  case round =>
    obtain ⟨k, v, rfl, rfl, hk9, hkg, hv, hvl⟩ := hrel
    have Hv := Lib.hid hv; clear hv
    have Hvl := Lib.hid hvl; clear hvl
    by_cases h9 : k = 9
    · subst h9
      have Hr := Lib.hid (numR_nine hkg)
      go_wp2
      go_ret3
      exact ⟨num_ret Hr.out rfl rfl rfl, rfl⟩
    · by_cases hkn : k = n
      · have Hr := Lib.hid (numR_end (b := bs) (by have := Hn.out; omega) (by omega))
        go_wp2
        go_ret3
        exact ⟨num_ret Hr.out rfl rfl rfl, rfl⟩
      · obtain ⟨g, o, x, rfl, hx, hxt, hcell⟩ := Hh.out.byteAt (j := k) (by have := Hn.out; omega)
        have Hx := Lib.hid (And.intro hx hxt)
        have hxl := UInt8.toNat_lt x
        obtain ⟨y, hy⟩ : ∃ y, x.toNat = y := ⟨_, rfl⟩
        rw [hy] at hcell hxl
        have Hy := Lib.hid hy
        have hkn2 : k < n := by omega
        have hk92 : k < 9 := by omega
        by_cases hy128 : y < 128
        · have Hg := Lib.hid (going_stop hkg hx (by omega))
          by_cases hy0 : y = 0 ∧ 0 < k
          · have Hr := Lib.hid (numR_zero Hg.out hk92 (by rw [hx]; congr 1; exact UInt8.toNat_inj.1 (by rw [hy]; exact hy0.1)) hy0.2)
            obtain ⟨rfl, hk0⟩ := hy0
            clear hy hx hxt
            go_wp2
            go_ret3
            exact ⟨num_ret Hr.out rfl rfl rfl, rfl⟩
          · have Hr := Lib.hid (numR_num Hg.out hk92 hx (fun e => by subst e; simp at hy; omega))
            have Hvs := Lib.hid (val_step Hv.out hxt hy (by have := Hn.out; omega))
            have e1 := or_shl v y k Hvl.out hy128 hk92
            have hmod : y % 128 = y := by omega
            have Hmod := Lib.hid hmod
            clear hy hx hxt hmod
            by_cases hy00 : y = 0
            · subst hy00
              have hk0 : decide ((0 : Int) < (k : Int)) = false := by simp; omega
              go_wp2
              go_ret3
              exact ⟨num_ret Hr.out (by rw [Hvs.out]; have := or_shl v 0 k Hvl.out (by omega) hk92; simp [wrap64] at this; simpa using this) rfl rfl, rfl⟩
            · go_wp2
              go_ret3
              exact ⟨num_ret Hr.out (by rw [Hvs.out, Hmod.out]; push_cast; rfl) rfl rfl, rfl⟩
        · have Hg := Lib.hid (going_step hkg hx (by omega))
          have Hvs := Lib.hid (val_step Hv.out hxt hy (by have := Hn.out; omega))
          have e1 := or_shl v (y - 128) k Hvl.out (by omega) hk92
          rw [show ((y - 128 : Nat) : Int) = (y : Int) - 128 by omega] at e1
          have hmod : y % 128 = y - 128 := by omega
          have Hmod := Lib.hid hmod
          clear hy hx hxt hmod
          go_wp2
          go_round
          case rel =>
            refine ⟨k + 1, v + 128 ^ k * (y - 128), by go_num, rfl, by omega, Hg.out, by rw [Hvs.out, Hmod.out], ?_⟩
            have := Hvl.out
            have hm : 128 ^ k * (y - 128) ≤ 128 ^ k * 127 := Nat.mul_le_mul_left _ (by omega)
            rw [Nat.pow_succ]
            omega
          case measure => simp [intOf]; omega
end Go.Proofs.Ytkjfaijdmpnjkaa
