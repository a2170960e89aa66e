/-
  Contract of dotterelref01's Same: for any bytes. No condition but that.
-/
import Derived.Test.YtkjfaijdmpnjkaaRows
import Derived.Test.YtkjfaijdmpnjkaaWords
import Derived.WalkLawsBesides
import Derived.WalkSpells
import Derived.Deep.QuietTactic
import Derived.BigQuiet
namespace Go.Proofs.Ytkjfaijdmpnjkaa
open Go.ChangeShapes Go.WideShapes Go.ChangeAt Go.RowKit
set_option linter.unusedVariables false

theorem u8_info : (Try.prog.info? 5).map (fun i => (i.zero, i.size, i.bytes)) = some (some (.int .u8 0), 1, 1) := by kernel_rfl
theorem i64_eq {a b : Int} (h : a = b) : Ending.returned (.int .i64 a) = .returned (.int .i64 b) := by rw [h]
theorem bool_ret {a b : Bool} (h : a = b) : Ending.returned (.bool a) = .returned (.bool b) := by rw [h]

theorem Same_any (A C : Option Addr) (n m c d : Nat) (xs ys : List UInt8) (w : World) (hn : xs.length = n) (hm : ys.length = m) (ha : Seen w A (bytesV xs)) (hb : Seen w C (bytesV ys)) (hl : n ≤ 9223372036854775807) :
    Calls Try.prog 14 #[.slice A n c, .slice C m d] w fun e w' => e = .returned (.bool (decide (xs = ys))) ∧ Below w.heap.size w w' := by
  have Ha := Lib.hid ha; clear ha
  have Hb := Lib.hid hb; clear hb
  by_cases hnm : n = m
  · subst hnm
    go_enter Try.func14, Try.ntmps14
    go_wp2
    go_loopw [5] (fun i wr => ∃ k : Nat, k ≤ n ∧ i = .int .i64 k ∧ Below w.heap.size w wr ∧ xs.take k = ys.take k) (fun i _ => n - (intOf i).toNat)
    case atStart => exact ⟨0, by omega, rfl, Below.refl _ _, rfl⟩
    case round =>
      obtain ⟨k, hk, rfl, hbw, htk⟩ := hrel
      have Hbw := Lib.hid hbw
      have Htk := Lib.hid htk
      clear htk
      by_cases hlt : k < n
      · obtain ⟨g, o, x, rfl, hx, hxt, hc⟩ := Ha.out.byteAt (j := k) (by omega)
        obtain ⟨g2, o2, y, rfl, hy, hyt, hc2⟩ := Hb.out.byteAt (j := k) (by omega)
        rw [← hbw.cell (p := ⟨g, o + k, none⟩) (block_lt_of_cell hc)] at hc
        rw [← hbw.cell (p := ⟨g2, o2 + k, none⟩) (block_lt_of_cell hc2)] at hc2
        clear hbw
        have Hx := Lib.hid (And.intro hx hxt); clear hx hxt
        have Hy := Lib.hid (And.intro hy hyt); clear hy hyt
        have b0 : (0 : Int) ≤ (k : Int) := by omega
        have b1 : (k : Int) < (n : Int) := by omega
        have Hn := Lib.hid hn; clear hn
        have Hm := Lib.hid hm; clear hm
        by_cases he : x = y
        · have hq : (((x.toNat : Nat) : Int) != ((y.toNat : Nat) : Int)) = false := by rw [he]; simp
          have He := Lib.hid he; clear he
          go_wp2
          go_quiet (fail)
          go_wp2
          go_roundw
          case rel => exact ⟨k + 1, by omega, by go_num, below_drewN Hbw.out _, by rw [Hx.out.2, Hy.out.2, Htk.out, He.out]⟩
          case measure => simp [intOf]; omega
        · have hq : (((x.toNat : Nat) : Int) != ((y.toNat : Nat) : Int)) = true := by simp; exact fun e => he (UInt8.toNat_inj.1 (by omega))
          have He := Lib.hid he; clear he
          go_wp2
          go_quiet (fail)
          go_wp2
          go_ret
          exact ⟨bool_ret (by rw [decide_eq_false]; intro e; have h1 := Hx.out.1; rw [e, Hy.out.1] at h1; injection h1 with h1; exact He.out h1.symm), below_drewN Hbw.out _⟩
      · have hkn : k = n := by omega
        subst hkn
        have Hn := Lib.hid hn; clear hn
        have Hm := Lib.hid hm; clear hm
        go_wp2
        go_ret
        exact ⟨bool_ret (by have h := Htk.out; rw [List.take_of_length_le (by have := Hn.out; omega), List.take_of_length_le (by have := Hm.out; omega)] at h; rw [decide_eq_true h]), Hbw.out⟩
  · go_enter Try.func14, Try.ntmps14
    go_wp2
    go_ret
    exact ⟨bool_ret (by rw [decide_eq_false]; intro e; rw [e] at hn; omega), Below.refl _ _⟩
end Go.Proofs.Ytkjfaijdmpnjkaa
