/-
  Contract of (*heap.Heap).Least. Conditions: a heap in memory.
-/
import Derived.Test.YtbfjakchgmdldaaGreatHomAt
namespace Go.Proofs.YtbfjakchgmdldaaGreat
open Go.ChangeShapes Go.WideShapes Go.ChangeAt Go.RowKit Go.Maps Go.Sort
set_option linter.unusedVariables false

theorem HeapAt.len {w : World} {B : Nat} {h : Home} {q m : Option Nat} {x : List Ent} (H : HeapAt w B h q m x) : ∃ A c, w.heap[h.b]? = some (.cells (h.K (.slice A x.length c) (.map m)) h.T (0, 0)) := by
  obtain ⟨t, ks, f, H1, T, hm, hg, _⟩ := H
  obtain ⟨A, c, hrow, -, -⟩ := H1.row
  exact ⟨A, c, by rw [← (hg.perm T hm).length_eq]; exact hrow⟩
/-- what Least hands back -/
def LeastRet (x : List Ent) (w : World) (en : Ending) (w' : World) : Prop :=
  ∃ (n k : Int) (ok : Bool), en = .returned (.tuple #[.int .i64 n, .int .i64 k, .bool ok]) ∧ ((x = [] ∧ n = 0 ∧ k = 0 ∧ ok = false) ∨ (x[0]? = some (n, k) ∧ ok = true)) ∧ Below w.heap.size w w'
set_option maxRecDepth 100000 in
theorem Least_any (B : Nat) (h : Home) (q m : Option Nat) (x : List Ent) (w : World) (H : HeapAt w B h q m x) (hl : x.length ≤ 100000) :
    Calls Tryz.prog 25 #[.pointer (some ⟨h.b, h.o, none⟩)] w (LeastRet x w) := by
  obtain ⟨t, ks, f, H1, T, hm, hg, _⟩ := H
  have hlen := (hg.perm T hm).length_eq
  have hf := hg.first T hm
  cases t with
  | nil =>
    obtain ⟨A, c, hrow, -, -⟩ := H1.row
    have a0 : w.cell? ⟨h.b, h.o, none⟩ = some (.slice A 0 c) := h.cell0 hrow
    have hx : x = [] := List.length_eq_zero_iff.1 hlen.symm
    subst hx
    clear H1 T hm hg hf hlen hrow
    go_enter Tryz.func25, Tryz.ntmps25
    go_wp2
    go_ret3
    unfold LeastRet
    exact ⟨0, 0, false, rfl, .inl ⟨rfl, rfl, rfl, rfl⟩, Below.refl _ _⟩
  | cons r s =>
    obtain ⟨g, c, rfl, hgs, hlc, hcm, hrow, hown, c0, c1⟩ := H1.get (i := 0) (r := r) rfl
    obtain ⟨n, hn⟩ : ∃ n, (r :: s).length = n := ⟨_, rfl⟩
    rw [hn] at hrow hlc hlen
    have hn0 : 0 < n := by rw [← hn]; simp
    have a0 : w.cell? ⟨h.b, h.o, none⟩ = some (.slice (some ⟨g, 0, none⟩) n c) := h.cell0 hrow
    have Hf := Lib.hid hf
    have c0' : w.cell? ⟨g, 0, none⟩ = some (.int .i64 r.1) := c0
    have c1' : w.cell? ⟨g, 1, none⟩ = some (.int .i64 r.2) := c1
    have i1 : (0 : Int) < (n : Int) := by omega
    have i2 : ((n : Int) == 0) = false := by simp; omega
    have i3 : ¬ n = 0 := by omega
    clear H1 T hm hg hf hlen hrow hown hn c0 c1
    go_enter Tryz.func25, Tryz.ntmps25
    go_wp2
    go_quiet (fail)
    go_wp2
    go_ret3
    unfold LeastRet
    exact ⟨r.1, r.2, true, rfl, .inr ⟨by rw [← Hf.out]; rfl, rfl⟩, below_drewN (Below.refl _ _) _⟩
end Go.Proofs.YtbfjakchgmdldaaGreat
