/-
  Contracts of (*heap.Heap).firstBelow, (*heap.Heap).sink. Conditions: a heap in memory; for sink one that is a heap but for a hole.
-/
import Derived.Test.YtbfjakchgmdldaaGreatHomRise
namespace Go.Proofs.YtbfjakchgmdldaaGreat
open Go.ChangeShapes Go.WideShapes Go.ChangeAt Go.RowKit Go.Maps Go.Sort
set_option linter.unusedVariables false

/-- j is the first of the two below p -/
def FirstBelow (p : Nat) (t : List Ent) (j : Nat) : Prop := 0 < j ∧ (j - 1) / 2 = p ∧ ∃ y, t[j]? = some y ∧ ∀ (i : Nat) x, 0 < i → (i - 1) / 2 = p → t[i]? = some x → ¬ ahead x y
/-- what firstBelow hands back -/
def FirstRet (p : Nat) (t : List Ent) (w : World) (en : Ending) (w' : World) : Prop :=
  ∃ (v : Int) (ok : Bool), en = .returned (.tuple #[.int .i64 v, .bool ok]) ∧ ((ok = false ∧ t.length ≤ 2 * p + 1) ∨ (ok = true ∧ ∃ j : Nat, v = (j : Int) ∧ FirstBelow p t j)) ∧ Below w.heap.size w w'

theorem FirstBelow.one {p : Nat} {t : List Ent} {y : Ent} (hy : t[2 * p + 1]? = some y) (hl : t.length ≤ 2 * p + 2) : FirstBelow p t (2 * p + 1) := by
  refine ⟨by omega, by omega, y, hy, fun i x hi hp hx => ?_⟩
  have h1 := (List.getElem?_eq_some_iff.1 hx).1
  obtain rfl : i = 2 * p + 1 := by omega
  rw [hy] at hx
  injection hx with hx
  subst hx
  exact ahead_irr _
theorem FirstBelow.left {p : Nat} {t : List Ent} {y z : Ent} (hy : t[2 * p + 1]? = some y) (hz : t[2 * p + 2]? = some z) (h : ¬ ahead z y) : FirstBelow p t (2 * p + 1) := by
  refine ⟨by omega, by omega, y, hy, fun i x hi hp hx => ?_⟩
  rcases (by omega : i = 2 * p + 1 ∨ i = 2 * p + 2) with rfl | rfl
  · rw [hy] at hx
    injection hx with hx
    subst hx
    exact ahead_irr _
  · rw [hz] at hx
    injection hx with hx
    subst hx
    exact h
theorem FirstBelow.right {p : Nat} {t : List Ent} {y z : Ent} (hy : t[2 * p + 1]? = some y) (hz : t[2 * p + 2]? = some z) (h : ahead z y) : FirstBelow p t (2 * p + 2) := by
  refine ⟨by omega, by omega, z, hz, fun i x hi hp hx => ?_⟩
  rcases (by omega : i = 2 * p + 1 ∨ i = 2 * p + 2) with rfl | rfl
  · rw [hy] at hx
    injection hx with hx
    subst hx
    exact ahead_asymm h
  · rw [hz] at hx
    injection hx with hx
    subst hx
    exact ahead_irr _

-- a region most of whose operations aren't wanted: else each step weighs all that is left
attribute [local irreducible] wpQuiet
set_option maxRecDepth 100000 in
set_option maxHeartbeats 2000000 in
theorem firstBelow_any (B : Nat) (h : Home) (p : Nat) (q m : Option Nat) (t : List Ent) (ks : List Int) (f : Int → Int) (w : World) (H : IsH w B h q m t ks f) (hp : p < t.length) (hn : t.length ≤ 100000) :
    Calls Tryz.prog 75 #[.pointer (some ⟨h.b, h.o, none⟩), .int .i64 (p : Int)] w (FirstRet p t w) := by
  obtain ⟨r0, hr0⟩ : ∃ r, t[p]? = some r := ⟨_, List.getElem?_eq_getElem hp⟩
  obtain ⟨g, c, rfl, hgs, hlc, hcm, hrow, hown, -, -⟩ := H.get hr0
  have a0 : w.cell? ⟨h.b, h.o, none⟩ = some (.slice (some ⟨g, 0, none⟩) t.length c) := h.cell0 hrow
  have hhs := (Array.getElem?_eq_some_iff.1 hrow).1
  obtain ⟨L, hL⟩ : ∃ L : Nat, 2 * p + 1 = L := ⟨_, rfl⟩
  obtain ⟨R, hR⟩ : ∃ R : Nat, 2 * p + 2 = R := ⟨_, rfl⟩
  have eL : 2 * (p : Int) + 1 = (L : Int) := by omega
  have eR : 2 * (p : Int) + 2 = (R : Int) := by omega
  have b0 : (0 : Int) ≤ (p : Int) := by omega
  have b3 : (p : Int) ≤ 100000 := by omega
  have HL := Lib.hid hL; have HR := Lib.hid hR; have EL := Lib.hid eL; have ER := Lib.hid eR; have HH := Lib.hid H
  obtain ⟨n, hln⟩ : ∃ n, t.length = n := ⟨_, rfl⟩
  have Hln := Lib.hid hln
  have mixed : Tryz.prog.follows .mixedOrders = true := mixed_is
  have k0 : ∀ n' os, (grow (w.drewN n') os).cell? ⟨h.b, h.o, none⟩ = some (.slice (some ⟨g, 0, none⟩) n c) := by rw [← hln]; exact cell_grown hhs a0
  rw [hln] at hp hn hlc a0
  clear hL hR H hr0 hrow hown hln
  by_cases h1 : n ≤ L
  · have i1 : (n : Int) ≤ (L : Int) := by omega
    go_enter Tryz.func75, Tryz.ntmps75
    go_wp2
    go_ret2
    unfold FirstRet
    exact ⟨0, false, rfl, .inl ⟨rfl, by rw [Hln.out, HL.out]; exact h1⟩, Below.refl _ _⟩
  · obtain ⟨y, hy⟩ : ∃ r, t[L]? = some r := ⟨_, List.getElem?_eq_getElem (by rw [Hln.out]; omega)⟩
    obtain ⟨g', c', hg', -, -, -, -, -, c0, c1⟩ := HH.out.get hy
    injection hg' with hg'
    subst hg'
    have i1 : ¬ (n : Int) ≤ (L : Int) := by omega
    have i2 : (0 : Int) ≤ (L : Int) := by omega
    have i3 : (L : Int) < (n : Int) := by omega
    have k1 : ∀ n os, (grow (w.drewN n) os).cell? ⟨g, L * 2, none⟩ = some (.int .i64 y.1) := cell_grown hgs c0
    have k2 : ∀ n os, (grow (w.drewN n) os).cell? ⟨g, L * 2 + 1, none⟩ = some (.int .i64 y.2) := cell_grown hgs c1
    have Hy := Lib.hid hy
    clear hy c0 c1
    by_cases h2 : n ≤ R
    · have hnl : ¬ R < n := by omega
      have Hh2 := Lib.hid h2
      clear h2
      go_enter Tryz.func75, Tryz.ntmps75
      go_wp2
      go_quiet_grown (fail)
      go_wp2
      go_ret2
      unfold FirstRet
      exact ⟨(L : Int), true, rfl, .inr ⟨rfl, L, rfl, by rw [← HL.out]; exact FirstBelow.one (by rw [HL.out]; exact Hy.out) (by rw [Hln.out, HR.out]; exact Hh2.out)⟩, below_ofgrow _ _ _⟩
    · obtain ⟨z, hz⟩ : ∃ r, t[R]? = some r := ⟨_, List.getElem?_eq_getElem (by rw [Hln.out]; omega)⟩
      obtain ⟨g', c', hg', -, -, -, -, -, d0, d1⟩ := HH.out.get hz
      injection hg' with hg'
      subst hg'
      have j1 : (0 : Int) ≤ (R : Int) := by omega
      have j2 : (R : Int) < (n : Int) := by omega
      have hd : decide ((R : Int) < (n : Int)) = true := decide_eq_true (by omega)
      have k3 : ∀ n os, (grow (w.drewN n) os).cell? ⟨g, R * 2, none⟩ = some (.int .i64 z.1) := cell_grown hgs d0
      have k4 : ∀ n os, (grow (w.drewN n) os).cell? ⟨g, R * 2 + 1, none⟩ = some (.int .i64 z.2) := cell_grown hgs d1
      have Hz := Lib.hid hz
      obtain ⟨r, hr⟩ : ∃ r, cmpE z y = r := ⟨_, rfl⟩
      have hcmp : ∀ W, Calls Tryz.prog 71 #[.agg #[.int .i64 z.1, .int .i64 z.2], .agg #[.int .i64 y.1, .int .i64 y.2]] W fun en w' => en = .returned (.int .i64 r) ∧ ∃ q os', w' = grow (W.drewN q) os' := fun W => by rw [← hr]; exact compare_any z y W
      have hneg := cmpE_lt z y
      rw [hr] at hneg
      have Hcmp := Lib.hid hcmp; have Hneg := Lib.hid hneg
      clear hr hcmp hneg hz d0 d1 h2
      by_cases hlt : r < 0
      · have hd : decide (r < 0) = true := decide_eq_true hlt
        have Hlt := Lib.hid hlt
        clear hlt
        go_enter Tryz.func75, Tryz.ntmps75
        go_wp2
        go_quiet_grown (first | (go_at_call 71; refine Calls.grown_of (Hcmp.out _)))
        go_wp2
        go_ret2
        unfold FirstRet
        exact ⟨(R : Int), true, rfl, .inr ⟨rfl, R, rfl, by rw [← HR.out]; exact FirstBelow.right (by rw [HL.out]; exact Hy.out) (by rw [HR.out]; exact Hz.out) (Hneg.out.1 Hlt.out)⟩, below_ofgrow _ _ _⟩
      · have hd : decide (r < 0) = false := decide_eq_false hlt
        have Hlt := Lib.hid hlt
        clear hlt
        go_enter Tryz.func75, Tryz.ntmps75
        go_wp2
        go_quiet_grown (first | (go_at_call 71; refine Calls.grown_of (Hcmp.out _)))
        go_wp2
        go_ret2
        unfold FirstRet
        exact ⟨(L : Int), true, rfl, .inr ⟨rfl, L, rfl, by rw [← HL.out]; exact FirstBelow.left (by rw [HL.out]; exact Hy.out) (by rw [HR.out]; exact Hz.out) (fun e => by have h1 := Hneg.out.2 e; have h2 := Hlt.out; omega)⟩, below_ofgrow _ _ _⟩
end Go.Proofs.YtbfjakchgmdldaaGreat
