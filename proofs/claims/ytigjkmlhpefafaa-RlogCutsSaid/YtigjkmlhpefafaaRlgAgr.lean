/-
  Contract of rlog's agree. Conditions: entries that can be read.
-/
import Derived.Test.YtigjkmlhpefafaaRlgTrm
namespace Go.Proofs.Ytigjkmlhpefafaa
open Go.ChangeShapes Go.WideShapes Go.ChangeAt Go.RowKit
set_option linter.unusedVariables false

/-- k is how many entries two lists have with the same terms, up to where one ends or the terms differ -/
structure IsAgree (x y : List Dat) (k : Nat) : Prop where
  lx : k ≤ x.length
  ly : k ≤ y.length
  same : ∀ (j : Nat) (a b : Dat), j < k → x[j]? = some a → y[j]? = some b → a.1 = b.1
  stop : ∀ a b : Dat, x[k]? = some a → y[k]? = some b → a.1 ≠ b.1
/-- the loop's relation -/
def AgreeAt (X Y : List Ent) (w : World) (k : Nat) (wr : World) : Prop :=
  k ≤ X.length ∧ k ≤ Y.length ∧ (∀ (j : Nat) (a b : Ent), j < k → X[j]? = some a → Y[j]? = some b → a.t = b.t) ∧ Below w.heap.size w wr
theorem AgreeAt.is {X Y : List Ent} {w wr : World} {k : Nat} (h : AgreeAt X Y w k wr) (hs : ∀ a b : Ent, X[k]? = some a → Y[k]? = some b → a.t ≠ b.t) : IsAgree (X.map Ent.dat) (Y.map Ent.dat) k := by
  obtain ⟨h1, h2, h3, _⟩ := h
  refine ⟨by simpa using h1, by simpa using h2, fun j a b hj ha hb => ?_, fun a b ha hb => ?_⟩
  · rw [List.getElem?_map, Option.map_eq_some_iff] at ha hb
    obtain ⟨a', ha, rfl⟩ := ha
    obtain ⟨b', hb, rfl⟩ := hb
    exact h3 j a' b' hj ha hb
  · rw [List.getElem?_map, Option.map_eq_some_iff] at ha hb
    obtain ⟨a', ha, rfl⟩ := ha
    obtain ⟨b', hb, rfl⟩ := hb
    exact hs a' b' ha hb
def AgreeRet (X Y : List Ent) (w : World) (e : Ending) (w' : World) : Prop := ∃ k : Nat, e = .returned (.int .i64 (k : Int)) ∧ IsAgree (X.map Ent.dat) (Y.map Ent.dat) k ∧ Below w.heap.size w w'

set_option maxRecDepth 100000 in
theorem agree_any (A C : Option Addr) (n m c d : Nat) (X Y : List Ent) (w : World) (hn : X.length = n) (hm : Y.length = m) (ha : Seen w A (entsV X)) (hb : Seen w C (entsV Y)) (hl : n ≤ 1000000) :
    Calls Try.prog 21 #[.slice A n c, .slice C m d] w (AgreeRet X Y w) := by
  have Ha := Lib.hid ha; have Hb := Lib.hid hb; have Hn := Lib.hid hn; have Hm := Lib.hid hm
  clear ha hb hn hm
  go_enter Try.func21, Try.ntmps21
  go_wp2
  go_step3
  go_wp2
  go_step3
  go_wp2
  go_loopw [5] (fun i wr => ∃ k : Nat, i = .int .i64 (k : Int) ∧ AgreeAt X Y w k wr) (fun i _ => n - (intOf i).toNat)
  case atStart => exact ⟨0, rfl, Nat.zero_le _, Nat.zero_le _, fun j a b hj => by omega, Below.refl _ _⟩
  case round =>
    obtain ⟨k, rfl, hrel⟩ := hrel
    have Hr := Lib.hid hrel
    obtain ⟨h1, h2, -, -⟩ := hrel
    rw [Hn.out] at h1
    rw [Hm.out] at h2
    have k0 : (0 : Int) ≤ (k : Int) := by omega
    by_cases hx : k = n
    · subst hx
      have hle : (k : Int) < 9223372036854775807 := by omega
      clear h1 h2
      go_wp2
      go_ret
      refine ⟨k, rfl, Hr.out.is fun a b h _ => ?_, Hr.out.2.2.2⟩
      have := (List.getElem?_eq_some_iff.1 h).1
      have := Hn.out
      omega
    · have e1 : ((k : Int) == (n : Int)) = false := by simp; omega
      by_cases hy : k = m
      · subst hy
        clear h1 h2 hx
        go_wp2
        go_ret
        refine ⟨k, rfl, Hr.out.is fun a b _ h => ?_, Hr.out.2.2.2⟩
        have := (List.getElem?_eq_some_iff.1 h).1
        have := Hm.out
        omega
      · have e2 : ((k : Int) == (m : Int)) = false := by simp; omega
        obtain ⟨x, hX⟩ : ∃ x, X[k]? = some x := ⟨_, List.getElem?_eq_getElem (by have := Hn.out; omega)⟩
        obtain ⟨y, hY⟩ : ∃ y, Y[k]? = some y := ⟨_, List.getElem?_eq_getElem (by have := Hm.out; omega)⟩
        obtain ⟨gx, ox, rfl, c0, _, _⟩ := (Ha.out.below Hr.out.2.2.2).ent hX
        obtain ⟨gy, oy, rfl, d0, _, _⟩ := (Hb.out.below Hr.out.2.2.2).ent hY
        have k1 : (k : Int) < (n : Int) := by omega
        have k2 : (k : Int) < (m : Int) := by omega
        have HX := Lib.hid hX; have HY := Lib.hid hY
        clear hX hY hx hy h1 h2
        by_cases ht : x.t = y.t
        · have t1 : (x.t != y.t) = false := by simp [ht]
          have Ht := Lib.hid ht
          clear ht
          go_wp2
          go_quiet (fail)
          go_wp2
          go_roundw
          case rel =>
            refine ⟨k + 1, by go_num, by have := Hn.out; omega, by have := Hm.out; omega, fun j a b hj ha hb => ?_, below_drewN Hr.out.2.2.2 _⟩
            by_cases hjk : j = k
            · subst hjk
              rw [HX.out] at ha
              rw [HY.out] at hb
              injection ha with ha
              injection hb with hb
              rw [← ha, ← hb]
              exact Ht.out
            · exact Hr.out.2.2.1 j a b (by omega) ha hb
          case measure => simp [intOf]; omega
        · have t1 : (x.t != y.t) = true := by simp [ht]
          have Ht := Lib.hid ht
          clear ht
          go_wp2
          go_quiet (fail)
          go_wp2
          go_ret
          refine ⟨k, rfl, Hr.out.is fun a b ha hb => ?_, below_drewN Hr.out.2.2.2 _⟩
          rw [HX.out] at ha
          rw [HY.out] at hb
          injection ha with ha
          injection hb with hb
          rw [← ha, ← hb]
          exact Ht.out
end Go.Proofs.Ytigjkmlhpefafaa
