/-
  Contracts of journal's small functions: counts, sectorsOf, restOf, sizeOf, and of the device's Len, Down.
-/
import Derived.Test.YtjekcaoonaniaaaGreatSecD
import Derived.Test.YtjekcaoonaniaaaGreatPackN
import Derived.Test.YtjekcaoonaniaaaGreatJouMath
namespace Go.Proofs.YtjekcaoonaniaaaGreat
open Go.ChangeShapes Go.WideShapes Go.ChangeAt Go.RowKit
set_option linter.unusedVariables false

theorem counts_any (n : Int) (w : World) (h1 : -9223372036854775808 ≤ n) (h2 : n ≤ 9223372036854775807) :
    Calls Tryz.prog 54 #[.int .i64 n] w fun e w' => e = .returned (.bool (decide (0 ≤ n ∧ n ≤ 1099511627776))) ∧ w = w' := by
  by_cases h0 : 0 ≤ n
  · by_cases h3 : n ≤ 1099511627776
    · rw [decide_eq_true ⟨h0, h3⟩]
      go_enter Tryz.func54, Tryz.ntmps54
      go_wp2
      go_ret
      exact ⟨rfl, rfl⟩
    · rw [decide_eq_false (by omega)]
      go_enter Tryz.func54, Tryz.ntmps54
      go_wp2
      go_ret
      exact ⟨rfl, rfl⟩
  · rw [decide_eq_false (by omega)]
    go_enter Tryz.func54, Tryz.ntmps54
    go_wp2
    go_ret
    exact ⟨rfl, rfl⟩

theorem sectorsOf_any (r : Nat) (w : World) (h : r ≤ 2000000) :
    Calls Tryz.prog 77 #[.int .i64 (r : Int)] w fun e w' => e = .returned (.int .i64 (secsOf r : Int)) ∧ w = w' := by
  have e : (secsOf r : Int) = (3 + (r : Int) + 64 - 1) / 64 := by unfold secsOf; omega
  have E := Lib.hid e; clear e
  go_enter Tryz.func77, Tryz.ntmps77
  go_wp2
  go_ret
  exact ⟨by rw [E.out]; rfl, rfl⟩

theorem or_256 (x y : Nat) (hx : x < 256) (hy : y < 256) : bits .or .i64 (x : Int) ((y : Int) * 256) = ((x + 256 * y : Nat) : Int) := by
  rw [show (y : Int) * 256 = ((2 ^ 8 * y : Nat) : Int) by omega, or_i64_nat _ _ (by omega) (by omega), Nat.or_comm]
  congr 1
  rw [← Nat.two_pow_add_eq_or_of_lt (by omega)]
  omega
set_option maxRecDepth 100000 in
theorem restOf_any (A : Option Addr) (n c : Nat) (bs : List UInt8) (w : World) (hn : bs.length = n) (h3 : 3 ≤ n) (h : Seen w A (bytesV bs)) :
    Calls Tryz.prog 78 #[.slice A n c] w fun e w' => e = .returned (.int .i64 (restN bs : Int)) ∧ Below w.heap.size w w' := by
  obtain ⟨g, o, x, rfl, hx, _, hc1⟩ := h.byteAt (j := 1) (by omega)
  obtain ⟨g', o', y, he, hy, _, hc2⟩ := h.byteAt (j := 2) (by omega)
  injection he with he
  injection he with e1 e2
  subst e1; subst e2
  have hxl := UInt8.toNat_lt x
  have hyl := UInt8.toNat_lt y
  have hr : restN bs = x.toNat + 256 * y.toNat := by unfold restN; rw [List.getD_eq_getElem?_getD, List.getD_eq_getElem?_getD, hx, hy]; rfl
  obtain ⟨a, ha⟩ : ∃ a, x.toNat = a := ⟨_, rfl⟩
  obtain ⟨b, hb⟩ : ∃ b, y.toNat = b := ⟨_, rfl⟩
  rw [ha] at hc1 hxl hr
  rw [hb] at hc2 hyl hr
  have e1 := or_256 a b hxl hyl
  rw [← hr] at e1
  have n1 : (1 : Int) < (n : Int) := by omega
  have n2 : (2 : Int) < (n : Int) := by omega
  clear h hx hy ha hb hr hn
  go_enter Tryz.func78, Tryz.ntmps78
  go_wp2
  go_quiet (fail)
  go_wp2
  go_ret
  exact ⟨rfl, below_drewN (Below.refl _ _) _⟩

theorem sizeOf_any (A : Option Addr) (n c : Nat) (bs : List UInt8) (w : World) (hn : bs.length = n) (h3 : 3 ≤ n) (h : Seen w A (bytesV bs)) :
    Calls Tryz.prog 56 #[.slice A n c] w fun e w' => e = .returned (.int .i64 (secsOf (restN bs) : Int)) ∧ Below w.heap.size w w' := by
  have hb : restN bs ≤ 65535 := by
    have := UInt8.toNat_lt (bs.getD 1 0); have := UInt8.toNat_lt (bs.getD 2 0)
    unfold restN; omega
  have H := Lib.hid h; clear h
  go_enter Tryz.func56, Tryz.ntmps56
  go_wp2_with (first | (go_at_call 78; refine (restOf_any A n c bs w hn h3 H.out).mono ?_; rintro e w1 ⟨rfl, hb1⟩; have Hb1 := Lib.hid hb1; clear hb1) | (go_at_call 77; refine (sectorsOf_any (restN bs) w1 (by omega)).mono ?_; rintro e w2 ⟨rfl, rfl⟩))
  go_ret
  exact ⟨rfl, Hb1.out⟩

theorem Len_any (B g s : Nat) (r : Option Nat) (d : Dv) (w : World) (h : IsD w B g s r d) :
    Calls Tryz.prog 19 #[.pointer (some ⟨g, 0, none⟩)] w fun e w' => e = .returned (.int .i64 (d.n : Int)) ∧ w = w' := by
  obtain ⟨hok, hBg, hBs, hgs, hrg, hrs, hS, A, c, hh, hown, hr⟩ := h
  have c0 : w.cell? ⟨g, 0, none⟩ = some (.slice (some ⟨s, 0, none⟩) d.n d.n) := row_cell hh 0
  clear hS hown hr hh hok
  go_enter Tryz.func19, Tryz.ntmps19
  go_wp2
  go_ret
  exact ⟨rfl, rfl⟩
theorem Down_any (B g s : Nat) (r : Option Nat) (d : Dv) (w : World) (h : IsD w B g s r d) :
    Calls Tryz.prog 55 #[.pointer (some ⟨g, 0, none⟩)] w fun e w' => e = .returned (.bool d.down) ∧ w = w' := by
  obtain ⟨hok, hBg, hBs, hgs, hrg, hrs, hS, A, c, hh, hown, hr⟩ := h
  have c3 : w.cell? ⟨g, 3, none⟩ = some (.bool d.down) := row_cell hh 3
  clear hS hown hr hh hok
  go_enter Tryz.func55, Tryz.ntmps55
  go_wp2
  go_ret
  exact ⟨rfl, rfl⟩

/-- is the part within the device -/
def withinB (n : Nat) (from_ many : Int) : Bool := decide (0 ≤ from_ ∧ 0 ≤ many ∧ from_ + many ≤ n)
theorem within_any (B g s : Nat) (r : Option Nat) (d : Dv) (a m : Int) (w : World) (h : IsD w B g s r d) (a1 : -9223372036854775808 ≤ a) (a2 : a ≤ 9223372036854775807) (m1 : -9223372036854775808 ≤ m) (m2 : m ≤ 9223372036854775807) :
    Calls Tryz.prog 53 #[.pointer (some ⟨g, 0, none⟩), .int .i64 a, .int .i64 m] w fun e w' => e = .returned (.bool (withinB d.n a m)) ∧ w = w' := by
  have hn := h.1.n
  have H := Lib.hid h; clear h
  by_cases h0 : 0 ≤ a
  · by_cases h1 : 0 ≤ m
    · by_cases h2 : a ≤ d.n
      · by_cases h3 : m ≤ d.n - a
        · have e : withinB d.n a m = true := decide_eq_true (by omega)
          rw [e]; clear e
          go_enter Tryz.func53, Tryz.ntmps53
          go_wp2_with (go_at_call 19; refine (Len_any B g s r d w H.out).mono ?_; rintro e w1 ⟨rfl, rfl⟩)
          go_ret
          exact ⟨rfl, rfl⟩
        · have e : withinB d.n a m = false := decide_eq_false (by omega)
          have hd : decide (m ≤ (d.n : Int) - a) = false := decide_eq_false h3
          rw [e]; clear e
          go_enter Tryz.func53, Tryz.ntmps53
          go_wp2_with (go_at_call 19; refine (Len_any B g s r d w H.out).mono ?_; rintro e w1 ⟨rfl, rfl⟩)
          go_ret
          exact ⟨rfl, rfl⟩
      · have e : withinB d.n a m = false := decide_eq_false (by omega)
        rw [e]; clear e
        go_enter Tryz.func53, Tryz.ntmps53
        go_wp2_with (go_at_call 19; refine (Len_any B g s r d w H.out).mono ?_; rintro e w1 ⟨rfl, rfl⟩)
        go_ret
        exact ⟨rfl, rfl⟩
    · have e : withinB d.n a m = false := decide_eq_false (by omega)
      rw [e]; clear e
      go_enter Tryz.func53, Tryz.ntmps53
      go_wp2
      go_ret
      exact ⟨rfl, rfl⟩
  · have e : withinB d.n a m = false := decide_eq_false (by omega)
    rw [e]; clear e
    go_enter Tryz.func53, Tryz.ntmps53
    go_wp2
    go_ret
    exact ⟨rfl, rfl⟩
end Go.Proofs.YtjekcaoonaniaaaGreat
