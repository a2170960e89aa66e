/-
  Contracts of (*heap.Heap).Len, Least, Key, Drop. Conditions: a heap in memory.
-/
import Derived.Test.YtleibgihaplhnaaHeapAt
namespace Go.Proofs.Ytleibgihaplhnaa
open Go.ChangeShapes Go.WideShapes Go.ChangeAt Go.RowKit Go.Maps Go.Sort
set_option linter.unusedVariables false

theorem HeapAt.len {w : World} {B h : Nat} {q m : Option Nat} {x : List Ent} (H : HeapAt w B h q m x) : ∃ A c, w.heap[h]? = some (.cells #[.slice A x.length c, .map m] 27 (0, 0)) := by
  obtain ⟨t, ks, f, H1, T, hm, hg, _⟩ := H
  obtain ⟨A, c, hrow, -, -⟩ := H1.row
  exact ⟨A, c, by rw [← (hg.perm T hm).length_eq]; exact hrow⟩
theorem Len_any (B h : Nat) (q m : Option Nat) (x : List Ent) (w : World) (H : HeapAt w B h q m x) :
    Calls Try.prog 14 #[.pointer (some ⟨h, 0, none⟩)] w fun en w' => en = .returned (.int .i64 (x.length : Int)) ∧ w = w' := by
  obtain ⟨A, c, hrow⟩ := H.len
  have a0 : w.cell? ⟨h, 0, none⟩ = some (.slice A x.length c) := row_cell hrow 0
  clear H hrow
  go_enter Try.func14, Try.ntmps14
  go_wp2
  go_ret
  exact ⟨rfl, rfl⟩
/-- what Least hands back -/
def LeastRet (x : List Ent) (w : World) (en : Ending) (w' : World) : Prop :=
  ∃ (n k : Int) (ok : Bool), en = .returned (.tuple #[.int .i64 n, .int .i64 k, .bool ok]) ∧ ((x = [] ∧ n = 0 ∧ k = 0 ∧ ok = false) ∨ (x[0]? = some (n, k) ∧ ok = true)) ∧ Below w.heap.size w w'
set_option maxRecDepth 100000 in
theorem Least_any (B h : Nat) (q m : Option Nat) (x : List Ent) (w : World) (H : HeapAt w B h q m x) (hl : x.length ≤ 100000) :
    Calls Try.prog 12 #[.pointer (some ⟨h, 0, none⟩)] w (LeastRet x w) := by
  obtain ⟨t, ks, f, H1, T, hm, hg, _⟩ := H
  have hlen := (hg.perm T hm).length_eq
  have hf := hg.first T hm
  cases t with
  | nil =>
    obtain ⟨A, c, hrow, -, -⟩ := H1.row
    have a0 : w.cell? ⟨h, 0, none⟩ = some (.slice A 0 c) := row_cell hrow 0
    have hx : x = [] := List.length_eq_zero_iff.1 hlen.symm
    subst hx
    clear H1 T hm hg hf hlen hrow
    go_enter Try.func12, Try.ntmps12
    go_wp2
    go_ret3
    unfold LeastRet
    exact ⟨0, 0, false, rfl, .inl ⟨rfl, rfl, rfl, rfl⟩, Below.refl _ _⟩
  | cons r s =>
    obtain ⟨g, c, rfl, hgs, hlc, hcm, hrow, hown, c0, c1⟩ := H1.get (i := 0) (r := r) rfl
    obtain ⟨n, hn⟩ : ∃ n, (r :: s).length = n := ⟨_, rfl⟩
    rw [hn] at hrow hlc hlen
    have hn0 : 0 < n := by rw [← hn]; simp
    have a0 : w.cell? ⟨h, 0, none⟩ = some (.slice (some ⟨g, 0, none⟩) n c) := row_cell hrow 0
    have Hf := Lib.hid hf
    have c0' : w.cell? ⟨g, 0, none⟩ = some (.int .i64 r.1) := c0
    have c1' : w.cell? ⟨g, 1, none⟩ = some (.int .i64 r.2) := c1
    have i1 : (0 : Int) < (n : Int) := by omega
    have i2 : ((n : Int) == 0) = false := by simp; omega
    have i3 : ¬ n = 0 := by omega
    clear H1 T hm hg hf hlen hrow hown hn c0 c1
    go_enter Try.func12, Try.ntmps12
    go_wp2
    go_quiet (fail)
    go_wp2
    go_ret3
    unfold LeastRet
    exact ⟨r.1, r.2, true, rfl, .inr ⟨by rw [← Hf.out]; rfl, rfl⟩, below_drewN (Below.refl _ _) _⟩
/-- what Key hands back -/
def KeyRet (x : List Ent) (n : Int) (w : World) (en : Ending) (w' : World) : Prop :=
  ∃ (k : Int) (ok : Bool), en = .returned (.tuple #[.int .i64 k, .bool ok]) ∧ (((∀ r ∈ x, r.1 ≠ n) ∧ k = 0 ∧ ok = false) ∨ ((n, k) ∈ x ∧ ok = true)) ∧ w = w'
set_option maxRecDepth 100000 in
theorem Key_any (B h : Nat) (q m : Option Nat) (x : List Ent) (n : Int) (w : World) (H : HeapAt w B h q m x) (hl : x.length ≤ 100000) (h1 : -9223372036854775808 ≤ n) (h2 : n ≤ 9223372036854775807) :
    Calls Try.prog 13 #[.pointer (some ⟨h, 0, none⟩), .int .i64 n] w (KeyRet x n w) := by
  obtain ⟨t, ks, f, H1, T, hm, hg, _⟩ := H
  have hlen := (hg.perm T hm).length_eq
  have Hmap := Lib.hid H1.map
  by_cases hin : n ∈ ks
  · obtain ⟨i, v, hfi, hti⟩ := T.has hin
    obtain ⟨g, c, rfl, hgs, hlc, hcm, hrow, hown, c0, c1⟩ := H1.get hti
    have hil := (List.getElem?_eq_some_iff.1 hti).1
    have a0 : w.cell? ⟨h, 0, none⟩ = some (.slice (some ⟨g, 0, none⟩) t.length c) := row_cell hrow 0
    have a1 : w.cell? ⟨h, 1, none⟩ = some (.map m) := row_cell hrow 1
    have e1 : (if n ∈ ks then f n else 0) = (i : Int) := by rw [if_pos hin]; exact hfi
    have e2 : decide (n ∈ ks) = true := decide_eq_true hin
    have E1 := Lib.hid e1; have E2 := Lib.hid e2
    have i0 : (0 : Int) ≤ (i : Int) := by omega
    have i1 : (i : Int) < (t.length : Int) := by omega
    have Hin := Lib.hid (show (n, v) ∈ x from (hm _).1 (List.mem_iff_getElem?.2 ⟨i, hti⟩))
    have Hn := Lib.hid (And.intro h1 h2)
    clear H1 T hm hg hlen hrow hown hin hfi hti e1 e2 h1 h2
    go_enter Try.func13, Try.ntmps13
    go_wp2_with (refine wpList_lookI rfl (.tmp 12) (.tmp 13) rfl B m ks f n rfl rfl Hmap.out Hn.out.1 Hn.out.2 ?_; rw [E1.out, E2.out])
    go_ret2
    unfold KeyRet
    exact ⟨v, true, rfl, .inr ⟨Hin.out, rfl⟩, rfl⟩
  · have e1 : (if n ∈ ks then f n else 0) = 0 := if_neg hin
    have e2 : decide (n ∈ ks) = false := decide_eq_false hin
    obtain ⟨A, c, hrow, -, -⟩ := H1.row
    have a1 : w.cell? ⟨h, 1, none⟩ = some (.map m) := row_cell hrow 1
    have E1 := Lib.hid e1; have E2 := Lib.hid e2
    have hnot : ∀ r ∈ x, r.1 ≠ n := fun r hr e => by
      obtain ⟨i, hi⟩ := List.mem_iff_getElem?.1 ((hm r).2 hr)
      exact hin (e ▸ (T.place i r hi).1)
    have Hnot := Lib.hid hnot
    have Hn := Lib.hid (And.intro h1 h2)
    clear H1 T hm hg hlen hrow hin e1 e2 hnot h1 h2
    go_enter Try.func13, Try.ntmps13
    go_wp2_with (refine wpList_lookI rfl (.tmp 12) (.tmp 13) rfl B m ks f n rfl rfl Hmap.out Hn.out.1 Hn.out.2 ?_; rw [E1.out, E2.out])
    go_ret2
    unfold KeyRet
    exact ⟨0, false, rfl, .inl ⟨Hnot.out, rfl, rfl⟩, rfl⟩
end Go.Proofs.Ytleibgihaplhnaa
