/-
  Contracts of dotterelref13's Begin and Total. Conditions: what the argument reads as.
-/
import Derived.Test.YtkfhocmnkamhlaaEvs
import Derived.Test.YtkfhocmnkamhlaaProg
import Derived.BigQuiet
namespace Go.Proofs.Ytkfhocmnkamhlaa
open Go.ChangeShapes Go.WideShapes Go.ChangeAt Go.RowKit
set_option linter.unusedVariables false

theorem take_rev {l : List Ev} {j : Nat} {a : Ev} (h : l[j]? = some a) : (l.take (j + 1)).reverse = a :: (l.take j).reverse := by
  obtain ⟨hk, rfl⟩ := List.getElem?_eq_some_iff.1 h
  rw [List.take_succ_eq_append_getElem hk, List.reverse_append]
  rfl
theorem int_eqR {a b : Int} (h : a = b) : Ending.returned (.int .i64 a) = Ending.returned (.int .i64 b) := by rw [h]

set_option maxRecDepth 100000 in
set_option maxHeartbeats 4000000 in
theorem RTotal_any (A : Option Addr) (n c : Nat) (l : List Ev) (r : Bool) (w : World) (hn : l.length = n) (hs : EvsAt w A l) (hl : n ≤ 100000) :
    Calls Try.prog 12 #[.slice A n c, .bool r] w fun e w' => e = .returned (.int .i64 (totR r l.reverse : Nat)) ∧ Below w.heap.size w w' := by
  have Hn := Lib.hid hn; have Hs := Lib.hid hs
  clear hn hs
  go_enter Try.func12, Try.ntmps12
  go_wp2
  go_loopw [5, 6] (fun xv iv wr => ∃ (i x : Nat), xv = .int .i64 (x : Int) ∧ iv = .int .i64 (i : Int) ∧ i ≤ n ∧ x = totR r (l.take i).reverse ∧ Below w.heap.size w wr) (fun _ iv _ => n - (intOf iv).toNat)
  case atStart => exact ⟨0, 0, rfl, rfl, by omega, rfl, Below.refl _ _⟩
  case round =>
    obtain ⟨i, x, rfl, rfl, hin, hx, hb⟩ := hrel
    have Hx := Lib.hid hx; have Hb := Lib.hid hb
    have hx9 : x ≤ 100000 := by have := totR_le r (l.take i).reverse; simp at this; omega
    clear hx hb
    by_cases hi : i < n
    · obtain ⟨g, o, ⟨sv, p⟩, rfl, hk, c0, c1, hb0, hb1⟩ := (Hs.out.below Hb.out).get (k := i) (by have := Hn.out; omega)
      have Hk := Lib.hid hk
      have i0 : (0 : Int) ≤ (i : Int) := by omega
      have i1 : (i : Int) < (n : Int) := by omega
      have Hnx := Lib.hid (show totR r (l.take (i + 1)).reverse = (if countsB p r = true then 1 else 0) + x by rw [take_rev Hk.out, totR_cons, Hx.out])
      clear hk hb0 hb1
      simp only at c0 c1
      by_cases p1 : p = 1
      · subst p1
        go_wp2
        go_roundw
        case rel => exact ⟨i + 1, x + 1, by go_num, by go_num, by omega, by rw [Hnx.out]; simp [countsB]; omega, Hb.out⟩
        case measure => simp [intOf]; omega
      · have q1 : (p == 1) = false := by simpa using p1
        by_cases p2 : p = 2
        · subst p2
          cases r with
          | true =>
            go_wp2
            go_roundw
            case rel => exact ⟨i + 1, x, by go_num, by go_num, by omega, by rw [Hnx.out]; simp [countsB], Hb.out⟩
            case measure => simp [intOf]; omega
          | false =>
            go_wp2
            go_roundw
            case rel => exact ⟨i + 1, x + 1, by go_num, by go_num, by omega, by rw [Hnx.out]; simp [countsB]; omega, Hb.out⟩
            case measure => simp [intOf]; omega
        · have q2 : (p == 2) = false := by simpa using p2
          have Hp := Lib.hid (And.intro p1 p2)
          clear p1 p2
          go_wp2
          go_roundw
          case rel => exact ⟨i + 1, x, by go_num, by go_num, by omega, by rw [Hnx.out]; have := Hp.out; simp [countsB, this], Hb.out⟩
          case measure => simp [intOf]; omega
    · obtain rfl : i = n := by omega
      have i1 : ¬ (i : Int) < (i : Int) := by omega
      go_wp2
      go_ret
      exact ⟨int_eqR (by rw [Hx.out, List.take_of_length_le (by have := Hn.out; omega)]), Hb.out⟩

set_option maxRecDepth 100000 in
set_option maxHeartbeats 4000000 in
theorem RBegin_any (A : Option Addr) (n c : Nat) (l : List Ev) (s : Int) (r : Bool) (w : World) (hn : l.length = n) (hs : EvsAt w A l) (hl : n ≤ 100000) :
    Calls Try.prog 9 #[.slice A n c, .int .i64 s, .bool r] w fun e w' => e = .returned (.int .i64 (begR s r l.reverse : Nat)) ∧ Below w.heap.size w w' := by
  have Hn := Lib.hid hn; have Hs := Lib.hid hs
  have Hz := Lib.hid (show begR s r l.reverse = 0 + begR s r (l.take n).reverse by rw [List.take_of_length_le (by omega)]; omega)
  clear hn hs
  go_enter Try.func9, Try.ntmps9
  go_wp2
  go_loopw [7, 8] (fun xv iv wr => ∃ (j x : Nat), xv = .int .i64 (x : Int) ∧ iv = .int .i64 ((j : Int) - 1) ∧ j ≤ n ∧ x ≤ n - j ∧ begR s r l.reverse = x + begR s r (l.take j).reverse ∧ Below w.heap.size w wr) (fun _ iv _ => ((intOf iv) + 1).toNat)
  case atStart => exact ⟨n, 0, rfl, by go_num, by omega, by omega, Hz.out, Below.refl _ _⟩
  case round =>
    obtain ⟨j, x, rfl, rfl, hin, hx9, hx, hb⟩ := hrel
    have Hx := Lib.hid hx; have Hb := Lib.hid hb
    clear hx hb
    cases j with
    | zero =>
      have i1 : ¬ (((0 : Nat) : Int) - 1) ≥ 0 := by omega
      go_wp2
      go_ret
      exact ⟨int_eqR (by rw [Hx.out]; simp [begR]), Hb.out⟩
    | succ i =>
      obtain ⟨g, o, ⟨sv, p⟩, rfl, hk, c0, c1, hb0, hb1⟩ := (Hs.out.below Hb.out).get (k := i) (by have := Hn.out; omega)
      have Hk := Lib.hid hk
      have e1 : (((i + 1 : Nat) : Int) - 1) = (i : Int) := by omega
      rw [e1]
      have i0 : (0 : Int) ≤ (i : Int) := by omega
      have i1 : (i : Int) < (n : Int) := by omega
      have Hnx := Lib.hid (show begR s r l.reverse = x + (if p = 0 ∧ sv = s then 0 else (if sv ≠ s ∧ countsB p r = true then 1 else 0) + begR s r (l.take i).reverse) by rw [Hx.out, take_rev Hk.out, begR_cons])
      clear hk hb0 hb1 e1
      simp only at c0 c1
      by_cases s1 : sv = s
      · subst s1
        by_cases p0 : p = 0
        · subst p0
          go_wp2
          go_ret
          exact ⟨int_eqR (by rw [Hnx.out]; simp), Hb.out⟩
        · have q0 : (p == 0) = false := by simpa using p0
          have Hp := Lib.hid p0
          clear p0
          go_wp2
          go_roundw
          case rel => exact ⟨i, x, rfl, by go_num, by omega, by omega, by rw [Hnx.out]; have := Hp.out; simp [this], Hb.out⟩
          case measure => simp [intOf]
      · have q1 : (sv == s) = false := by simpa using s1
        have q2 : (sv != s) = true := by simpa using s1
        have Hsv := Lib.hid s1
        clear s1
        by_cases p0 : p = 0
        · subst p0
          go_wp2
          go_roundw
          case rel => exact ⟨i, x, rfl, by go_num, by omega, by omega, by rw [Hnx.out]; have := Hsv.out; simp [countsB, this], Hb.out⟩
          case measure => simp [intOf]
        · have q0 : (p == 0) = false := by simpa using p0
          by_cases p1 : p = 1
          · subst p1
            go_wp2
            go_roundw
            case rel => exact ⟨i, x + 1, by go_num, by go_num, by omega, by omega, by rw [Hnx.out]; have := Hsv.out; simp [countsB, this]; omega, Hb.out⟩
            case measure => simp [intOf]
          · have q3 : (p == 1) = false := by simpa using p1
            by_cases p2 : p = 2
            · subst p2
              cases r with
              | true =>
                go_wp2
                go_roundw
                case rel => exact ⟨i, x, rfl, by go_num, by omega, by omega, by rw [Hnx.out]; simp [countsB], Hb.out⟩
                case measure => simp [intOf]
              | false =>
                go_wp2
                go_roundw
                case rel => exact ⟨i, x + 1, by go_num, by go_num, by omega, by omega, by rw [Hnx.out]; have := Hsv.out; simp [countsB, this]; omega, Hb.out⟩
                case measure => simp [intOf]
            · have q4 : (p == 2) = false := by simpa using p2
              have Hp := Lib.hid (And.intro p0 (And.intro p1 p2))
              clear p0 p1 p2
              go_wp2
              go_roundw
              case rel => exact ⟨i, x, rfl, by go_num, by omega, by omega, by rw [Hnx.out]; have := Hp.out; simp [countsB, this], Hb.out⟩
              case measure => simp [intOf]
end Go.Proofs.Ytkfhocmnkamhlaa
