/-
  Joined: RafMem, RafFn, RafTxt, RafNod, RafSet, RafSt, RafAp. Conditions: each theorem's own.
-/
import Derived.Test.YtdlgihgdpdiglaaGreatJVauB
import Derived.Test.YtdlgihgdpdiglaaGreatJRlg
import Derived.Test.YtdlgihgdpdiglaaGreatBalMem
import Derived.Test.YtdlgihgdpdiglaaGreatQuoByt
import Derived.Test.YtdlgihgdpdiglaaGreatBalFn
import Derived.Test.YtdlgihgdpdiglaaGreatBalByt
import Derived.Test.YtdlgihgdpdiglaaGreatJQuoA
import Derived.Test.YtdlgihgdpdiglaaGreatJWords
import Derived.Test.YtdlgihgdpdiglaaGreatJVauA
import Derived.Shelf.SlicesE.DeleteFunc
import Derived.Shelf.Slices.Turned
import Derived.Shelf.Slices.Clone

section
namespace Go.Proofs.YtdlgihgdpdiglaaGreat
open Go.ChangeShapes Go.WideShapes Go.ChangeAt Go.RowKit
set_option linter.unusedVariables false

theorem box_below (w : World) (o : Obj) : Below w.heap.size w (w.alloc o) := (Below.refl _ _).alloc (Nat.le_refl _) o
theorem row_below {w w' : World} {g : Nat} {o : Obj} (h : w.heap[g]? = some o) (hb : Below w.heap.size w w') : w'.heap[g]? = some o := by
  rw [hb.block g (Array.getElem?_eq_some_iff.1 h).1]; exact h
/-- a slice -/
structure Sl where
  A : Option Addr
  n : Nat
  c : Nat
@[reducible] def Sl.v (s : Sl) : Value := .slice s.A s.n s.c
def Sl.nil : Sl := ⟨none, 0, 0⟩

/-- the cells of a node -/
structure Nc where
  id : Int
  v : Nat
  rf : Int
  te : Int
  vo : Int
  lg : Value
  si : Int
  sn : Int
  sm : Sl
  ss : Sl
  mem : Sl
  chg : Int
  role : Int
  lead : Int
  com : Int
  told : Int
  unt : Bool
  wait : Int
  votes : Sl
  ct : Int
  ci : Int
  clock : Int
  peers : Option Nat
  out : Sl
def ncells (c : Nc) : Array Value := #[.int .i64 c.id, .pointer (some ⟨c.v, 0, none⟩), .int .i64 c.rf, .int .i64 c.te, .int .i64 c.vo, c.lg, .int .i64 c.si, .int .i64 c.sn, .slice c.sm.A c.sm.n c.sm.c, .slice c.ss.A c.ss.n c.ss.c, .slice c.mem.A c.mem.n c.mem.c, .int .i64 c.chg, .int .i64 c.role, .int .i64 c.lead, .int .i64 c.com, .int .i64 c.told, .bool c.unt, .int .i64 c.wait, .slice c.votes.A c.votes.n c.votes.c, .int .i64 c.ct, .int .i64 c.ci, .int .i64 c.clock, .map c.peers, .slice c.out.A c.out.n c.out.c]
/-- a node's cells at n -/
def NcAt (w : World) (n : Nat) (c : Nc) : Prop := w.heap[n]? = some (.cells (ncells c) 101 (0, 0))
theorem NcAt.lt {w : World} {n : Nat} {c : Nc} (h : NcAt w n c) : n < w.heap.size := (Array.getElem?_eq_some_iff.1 h).1
theorem NcAt.below {w w' : World} {n : Nat} {c : Nc} (h : NcAt w n c) (hb : Below w.heap.size w w') : NcAt w' n c := by
  unfold NcAt at h ⊢
  rw [hb.block n (NcAt.lt h)]; exact h
theorem NcAt.turned {p : Nat → Prop} {w w' : World} {n : Nat} {c : Nc} (h : NcAt w n c) (ht : Turned p w w') (hn : ¬ p n) : NcAt w' n c := ht.heap h hn
theorem NcAt.c0 {w : World} {n : Nat} {c : Nc} (h : NcAt w n c) : w.cell? ⟨n, 0, none⟩ = some (.int .i64 c.id) := row_cell h 0
theorem NcAt.c1 {w : World} {n : Nat} {c : Nc} (h : NcAt w n c) : w.cell? ⟨n, 1, none⟩ = some (.pointer (some ⟨c.v, 0, none⟩)) := row_cell h 1
theorem NcAt.c2 {w : World} {n : Nat} {c : Nc} (h : NcAt w n c) : w.cell? ⟨n, 2, none⟩ = some (.int .i64 c.rf) := row_cell h 2
theorem NcAt.c3 {w : World} {n : Nat} {c : Nc} (h : NcAt w n c) : w.cell? ⟨n, 3, none⟩ = some (.int .i64 c.te) := row_cell h 3
theorem NcAt.c4 {w : World} {n : Nat} {c : Nc} (h : NcAt w n c) : w.cell? ⟨n, 4, none⟩ = some (.int .i64 c.vo) := row_cell h 4
theorem NcAt.c5 {w : World} {n : Nat} {c : Nc} (h : NcAt w n c) : w.cell? ⟨n, 5, none⟩ = some c.lg := row_cell h 5
theorem NcAt.c6 {w : World} {n : Nat} {c : Nc} (h : NcAt w n c) : w.cell? ⟨n, 6, none⟩ = some (.int .i64 c.si) := row_cell h 6
theorem NcAt.c7 {w : World} {n : Nat} {c : Nc} (h : NcAt w n c) : w.cell? ⟨n, 7, none⟩ = some (.int .i64 c.sn) := row_cell h 7
theorem NcAt.c8 {w : World} {n : Nat} {c : Nc} (h : NcAt w n c) : w.cell? ⟨n, 8, none⟩ = some (.slice c.sm.A c.sm.n c.sm.c) := row_cell h 8
theorem NcAt.c9 {w : World} {n : Nat} {c : Nc} (h : NcAt w n c) : w.cell? ⟨n, 9, none⟩ = some (.slice c.ss.A c.ss.n c.ss.c) := row_cell h 9
theorem NcAt.c10 {w : World} {n : Nat} {c : Nc} (h : NcAt w n c) : w.cell? ⟨n, 10, none⟩ = some (.slice c.mem.A c.mem.n c.mem.c) := row_cell h 10
theorem NcAt.c11 {w : World} {n : Nat} {c : Nc} (h : NcAt w n c) : w.cell? ⟨n, 11, none⟩ = some (.int .i64 c.chg) := row_cell h 11
theorem NcAt.c12 {w : World} {n : Nat} {c : Nc} (h : NcAt w n c) : w.cell? ⟨n, 12, none⟩ = some (.int .i64 c.role) := row_cell h 12
theorem NcAt.c13 {w : World} {n : Nat} {c : Nc} (h : NcAt w n c) : w.cell? ⟨n, 13, none⟩ = some (.int .i64 c.lead) := row_cell h 13
theorem NcAt.c14 {w : World} {n : Nat} {c : Nc} (h : NcAt w n c) : w.cell? ⟨n, 14, none⟩ = some (.int .i64 c.com) := row_cell h 14
theorem NcAt.c15 {w : World} {n : Nat} {c : Nc} (h : NcAt w n c) : w.cell? ⟨n, 15, none⟩ = some (.int .i64 c.told) := row_cell h 15
theorem NcAt.c16 {w : World} {n : Nat} {c : Nc} (h : NcAt w n c) : w.cell? ⟨n, 16, none⟩ = some (.bool c.unt) := row_cell h 16
theorem NcAt.c17 {w : World} {n : Nat} {c : Nc} (h : NcAt w n c) : w.cell? ⟨n, 17, none⟩ = some (.int .i64 c.wait) := row_cell h 17
theorem NcAt.c18 {w : World} {n : Nat} {c : Nc} (h : NcAt w n c) : w.cell? ⟨n, 18, none⟩ = some (.slice c.votes.A c.votes.n c.votes.c) := row_cell h 18
theorem NcAt.c19 {w : World} {n : Nat} {c : Nc} (h : NcAt w n c) : w.cell? ⟨n, 19, none⟩ = some (.int .i64 c.ct) := row_cell h 19
theorem NcAt.c20 {w : World} {n : Nat} {c : Nc} (h : NcAt w n c) : w.cell? ⟨n, 20, none⟩ = some (.int .i64 c.ci) := row_cell h 20
theorem NcAt.c21 {w : World} {n : Nat} {c : Nc} (h : NcAt w n c) : w.cell? ⟨n, 21, none⟩ = some (.int .i64 c.clock) := row_cell h 21
theorem NcAt.c22 {w : World} {n : Nat} {c : Nc} (h : NcAt w n c) : w.cell? ⟨n, 22, none⟩ = some (.map c.peers) := row_cell h 22
theorem NcAt.c23 {w : World} {n : Nat} {c : Nc} (h : NcAt w n c) : w.cell? ⟨n, 23, none⟩ = some (.slice c.out.A c.out.n c.out.c) := row_cell h 23
theorem NcAt.fr {w : World} {n : Nat} {c : Nc} (h : NcAt w n c) (j : Nat) : w.frozen? ⟨n, j, none⟩ = false := row_frozen h j
/-- a cell is written: the node's cells are those of c' -/
theorem NcAt.set {w : World} {n : Nat} {c c' : Nc} (h : NcAt w n c) (j : Nat) (u : Value) (e : (ncells c).setIfInBounds j u = ncells c') : NcAt (w.setCell ⟨n, j, none⟩ u) n c' := by
  unfold NcAt
  rw [row_set h j u, e]
theorem NcAt.draw {w : World} {n : Nat} {c : Nc} (h : NcAt w n c) (k : Nat) : NcAt (w.drewN k) n c := h
/-- only the node's cells were written -/
def WroteN (n : Nat) (c' : Nc) (w w' : World) : Prop := NcAt w' n c' ∧ Turned (fun k => k = n) w w'
theorem WroteN.trans {n : Nat} {c1 c2 : Nc} {w w1 w2 : World} (h : WroteN n c1 w w1) (k : WroteN n c2 w1 w2) : WroteN n c2 w w2 := ⟨k.1, turned_step h.2 k.2 fun _ _ e => e⟩
theorem set_turned {n j : Nat} {u : Value} (w : World) : Turned (fun k => k = n) w (w.setCell ⟨n, j, none⟩ u) := (Turned.refl (fun k => k = n) w).setCell (b := ⟨n, j, none⟩) (fun _ => rfl) u
theorem WroteN.set {w w1 : World} {n : Nat} {c c' : Nc} (h : WroteN n c w w1) (j : Nat) (u : Value) (e : (ncells c).setIfInBounds j u = ncells c') : WroteN n c' w (w1.setCell ⟨n, j, none⟩ u) :=
  ⟨h.1.set j u e, turned_step h.2 (set_turned w1) fun _ _ e => e⟩
theorem WroteN.refl {w : World} {n : Nat} {c : Nc} (h : NcAt w n c) : WroteN n c w w := ⟨h, .refl _ _⟩
theorem WroteN.drew {w w1 : World} {n : Nat} {c : Nc} (h : WroteN n c w w1) : WroteN n c w w1.drew := ⟨h.1, turned_step h.2 (Turned.of_below (p := fun _ => False) (Below.refl _ _).drew) fun _ _ e => e.elim⟩
theorem WroteN.drewN {w w1 : World} {n : Nat} {c : Nc} (h : WroteN n c w w1) (k : Nat) : WroteN n c w (w1.drewN k) := ⟨h.1, turned_step h.2 (Turned.of_below (p := fun _ => False) (below_drewN (Below.refl _ _) k)) fun _ _ e => e.elim⟩

/-! ### slices that no method writes -/
/-- a slice that reads as these ints, in a block of ints -/
structure IntsAt (w : World) (s : Sl) (us : List Int) : Prop where
  len : us.length = s.n
  cap : s.n ≤ s.c
  see : Seen w s.A (numsV us)
  blk : us = [] ∨ ∃ g o cs fr, s.A = some ⟨g, o, none⟩ ∧ w.heap[g]? = some (.cells cs 3 fr)
/-- no block of ints is among those of p -/
def NoInts (w : World) (p : Nat → Prop) : Prop := ∀ k cs fr, p k → w.heap[k]? ≠ some (.cells cs 3 fr)
theorem NoInts.no (w : World) : NoInts w (fun _ => False) := fun _ _ _ e => e.elim
theorem IntsAt.turned {p : Nat → Prop} {w w' : World} {s : Sl} {us : List Int} (h : IntsAt w s us) (ht : Turned p w w') (hp : NoInts w p) : IntsAt w' s us := by
  obtain ⟨h1, h2, h3, h4⟩ := h
  rcases h4 with rfl | ⟨g, o, cs, fr, hA, hg⟩
  · exact ⟨h1, h2, .inl rfl, .inl rfl⟩
  · have hn : ¬ p g := fun e => hp g cs fr e hg
    refine ⟨h1, h2, ht.seen h3 (fun g' o' e => ?_), .inr ⟨g, o, cs, fr, hA, ht.heap hg hn⟩⟩
    rw [hA] at e
    injection e with e
    injection e with e _
    subst e
    exact hn
theorem IntsAt.below {w w' : World} {s : Sl} {us : List Int} (h : IntsAt w s us) (hb : Below w.heap.size w w') : IntsAt w' s us := h.turned (p := fun _ => False) (.of_below hb) (NoInts.no w)
theorem IntsAt.nil (w : World) : IntsAt w Sl.nil [] := ⟨rfl, Nat.le_refl _, .inl rfl, .inl rfl⟩
theorem IntsAt.own {w : World} {base n c : Nat} {A : Option Addr} {us : List Int} (h : w.ownsRow base 3 1 (.slice A n c) n (numsV us)) : IntsAt w ⟨A, n, c⟩ us := by
  have hl := h.1
  rw [numsV_length] at hl
  rcases h.2 with ⟨hv, hn⟩ | ⟨g, cap, cur, hv, hg, hh, h1, h2, h3, h4⟩
  · injection hv with e1 e2 e3
    subst e1; subst e2; subst e3
    exact ⟨by show us.length = 0; omega, Nat.le_refl _, Seen.of_own h, .inl (List.length_eq_zero_iff.1 (by omega))⟩
  · injection hv with e1 e2 e3
    subst e1; subst e3
    exact ⟨by show us.length = n; omega, h1, Seen.of_own h, .inr ⟨g, 0, cur, _, rfl, hh⟩⟩
theorem WroteN.ints {n : Nat} {c c0 : Nc} {w w' : World} {s : Sl} {us : List Int} (h : WroteN n c w w') (h0 : NcAt w n c0) (k : IntsAt w s us) : IntsAt w' s us :=
  k.turned h.2 fun k cs fr e => by
    rw [e, h0]
    intro x
    injection x with x
    injection x with _ x _
    exact absurd x (by decide)
end Go.Proofs.YtdlgihgdpdiglaaGreat
end

section
namespace Go.Proofs.YtdlgihgdpdiglaaGreat
open Go.ChangeShapes Go.WideShapes Go.ChangeAt Go.RowKit
set_option linter.unusedVariables false

theorem seen_one (w : World) (x : Value) (t : TypeId) : Seen (w.alloc (.cells #[x] t)) (some ⟨w.heap.size, 0, none⟩) [x] := Seen.of_cells (heap_alloc_new w _)
set_option maxRecDepth 100000 in
theorem NisId (x : Int) (w : World) : Calls Tryz.prog 32 #[.int .i64 x] w fun e w' => e = .returned (.bool (decide (0 ≤ x ∧ x ≤ 15))) ∧ Below w.heap.size w w' := by
  have hr : quo.RightQ [x] ↔ (0 ≤ x ∧ x ≤ 15) := by simp [quo.RightQ, quo.GoodQ, quo.InQ]
  have KR := Lib.hid (quo.Right_any (some ⟨w.heap.size, 0, none⟩) 1 1 [x] (w.alloc (.cells #[.int .i64 x] 3)) rfl (by unfold maxLen; omega) (seen_one w _ _))
  obtain ⟨b, hb⟩ : ∃ b, decide (quo.RightQ [x]) = b := ⟨_, rfl⟩
  rw [hb] at KR
  have Hb := Lib.hid (show Below w.heap.size w (w.alloc (.cells #[.int .i64 x] 3)) from box_below w _)
  have e1 : decide (0 ≤ x ∧ x ≤ 15) = b := by rw [← hb]; exact decide_eq_decide.2 hr.symm
  rw [e1]
  clear hb e1 hr
  go_enter Tryz.func32, Tryz.ntmps32
  go_wp2_with fail
  refine KR.out.mono ?_
  rintro e w1 ⟨rfl, rfl⟩
  go_wp2
  go_ret
  exact ⟨rfl, Hb.out⟩
theorem NendOf (i t : Int) (w : World) : Calls Tryz.prog 115 #[.int .i64 i, .int .i64 t] w fun e w' => e = .returned (.agg #[.int .i64 t, .int .i64 i]) ∧ Below w.heap.size w w' := by
  go_enter Tryz.func115, Tryz.ntmps115
  go_wp2
  refine bodyPost_ret (results_cell_row rfl _ _ w.heap.size 97 #[.int .i64 t, .int .i64 i] (0, 0) _ rfl (heap_alloc_new _ _) Tryz.underlying97 rfl (by kernel_rfl)) rfl ⟨rfl, box_below _ _⟩
theorem NentryKey (i : Int) (w : World) (h0 : 0 ≤ i) (h1 : i ≤ 9223372036854775806) : Calls Tryz.prog 137 #[.int .i64 i] w fun e w' => e = .returned (.int .i64 (i + 1)) ∧ w = w' := by
  have hw : IntKind.i64.wrap (1 + i) = i + 1 := by rw [Int.add_comm]; exact rl.i64_add (by omega) (by omega)
  go_enter Tryz.func137, Tryz.ntmps137
  go_wp2
  go_ret
  exact ⟨by rw [← hw]; rfl, rfl⟩
theorem NDead (n : Nat) (c : Nc) (w : World) (h : NcAt w n c) : Calls Tryz.prog 39 #[.pointer (some ⟨n, 0, none⟩)] w fun e w' => e = .returned (.bool (decide (c.rf ≠ 0))) ∧ w = w' := by
  have c2 := h.c2
  clear h
  by_cases hz : c.rf = 0
  · have q : (c.rf == 0) = true := by simpa using hz
    go_enter Tryz.func39, Tryz.ntmps39
    go_wp2
    go_ret
    exact ⟨by simp [hz], rfl⟩
  · have q : (c.rf == 0) = false := by simpa using hz
    go_enter Tryz.func39, Tryz.ntmps39
    go_wp2
    go_ret
    exact ⟨by simp [hz], rfl⟩
theorem Nleads (n : Nat) (c : Nc) (w : World) (h : NcAt w n c) : Calls Tryz.prog 37 #[.pointer (some ⟨n, 0, none⟩)] w fun e w' => e = .returned (.bool (decide (c.role = 2 ∧ c.rf = 0))) ∧ w = w' := by
  have c12 := h.c12
  have KD := Lib.hid (NDead n c w h)
  clear h
  by_cases hz : c.role = 2
  · have q : (c.role == 2) = true := by simpa using hz
    by_cases hr : c.rf = 0
    · have hd : decide (c.rf ≠ 0) = false := by simp [hr]
      rw [hd] at KD
      have ha : decide (c.role = 2 ∧ c.rf = 0) = true := by simp [hz, hr]
      rw [ha]
      clear hz hr ha hd
      go_enter Tryz.func37, Tryz.ntmps37
      go_wp2_with (go_at_call 39; refine KD.out.mono ?_; rintro e w1 ⟨rfl, rfl⟩)
      go_ret
      exact ⟨rfl, rfl⟩
    · have hd : decide (c.rf ≠ 0) = true := by simp [hr]
      rw [hd] at KD
      have ha : decide (c.role = 2 ∧ c.rf = 0) = false := by simp [hz, hr]
      rw [ha]
      clear hz hr ha hd
      go_enter Tryz.func37, Tryz.ntmps37
      go_wp2_with (go_at_call 39; refine KD.out.mono ?_; rintro e w1 ⟨rfl, rfl⟩)
      go_ret
      exact ⟨rfl, rfl⟩
  · have q : (c.role == 2) = false := by simpa using hz
    have ha : decide (c.role = 2 ∧ c.rf = 0) = false := by simp [hz]
    rw [ha]
    clear hz ha
    go_enter Tryz.func37, Tryz.ntmps37
    go_wp2
    go_ret
    exact ⟨rfl, rfl⟩
theorem Nkept (n : Nat) (c : Nc) (x : Int) (w : World) (h : NcAt w n c) : Calls Tryz.prog 78 #[.pointer (some ⟨n, 0, none⟩), .int .i64 x] w fun e w' => e = .returned (.bool (decide (x = 0))) ∧ WroteN n { c with rf := x } w w' := by
  have c2 := h.c2
  have z2 := h.fr 2
  have H := Lib.hid ((WroteN.refl h).set 2 (.int .i64 x) (c' := { c with rf := x }) rfl)
  clear h
  by_cases hz : x = 0
  · subst hz
    go_enter Tryz.func78, Tryz.ntmps78
    go_wp2
    go_ret
    exact ⟨rfl, H.out⟩
  · have q : (x == 0) = false := by simpa using hz
    go_enter Tryz.func78, Tryz.ntmps78
    go_wp2
    go_ret
    exact ⟨by simp [hz], H.out⟩
/-- a node that follows nobody -/
def Nc.rested (c : Nc) : Nc := { c with role := 0, lead := -1, votes := Sl.nil, peers := none }
theorem Nrest (n : Nat) (c : Nc) (w : World) (h : NcAt w n c) : Calls Tryz.prog 147 #[.pointer (some ⟨n, 0, none⟩)] w fun e w' => e = .returned (.tuple #[]) ∧ WroteN n c.rested w w' := by
  have c12 := h.c12; have c13 := h.c13; have c18 := h.c18; have c22 := h.c22
  have z12 := h.fr 12; have z13 := h.fr 13; have z18 := h.fr 18; have z22 := h.fr 22
  have H := Lib.hid (((((WroteN.refl h).set 12 (.int .i64 0) (c' := { c with role := 0 }) rfl).set 13 (.int .i64 (-1)) (c' := { c with role := 0, lead := -1 }) rfl).set 18 (.slice none 0 0) (c' := { c with role := 0, lead := -1, votes := Sl.nil }) rfl).set 22 (.map none) (c' := c.rested) rfl)
  clear h
  go_enter Tryz.func147, Tryz.ntmps147
  go_wp2
  go_end0
  exact ⟨rfl, H.out⟩

/-! ### rlog's Base, lastOf -/
theorem LBase (B g : Nat) (q : Option Nat) (base term : Int) (x : List rl.Dat) (w : World) (h : rl.LogD w B g q base term x) : Calls Tryz.prog 92 #[.pointer (some ⟨g, 0, none⟩)] w fun e w' => e = .returned (.tuple #[.int .i64 base, .int .i64 term]) ∧ Below w.heap.size w w' := by
  obtain ⟨X, _, hB, ⟨A, c, h1, _, _⟩, _⟩ := h
  have a0 : w.cell? ⟨g, 0, none⟩ = some (.int .i64 base) := row_cell h1 0
  have a1 : w.cell? ⟨g, 1, none⟩ = some (.int .i64 term) := row_cell h1 1
  clear h1
  go_enter Tryz.func92, Tryz.ntmps92
  go_upto_region 1 with fail
  go_quiet (fail)
  go_wp2
  go_ret2
  exact ⟨rfl, below_drewN (Below.refl _ _) _⟩
theorem lastTerm_any (B g n : Nat) (q : Option Nat) (base term : Int) (x : List rl.Dat) (w : World) (h : rl.LogD w B g q base term x) (hn : x.length = n) (h0 : 0 ≤ base) (h3 : base ≤ 4611686018427387904) (hl : n ≤ 1000000) :
    Calls Tryz.prog 35 #[.pointer (some ⟨g, 0, none⟩)] w fun e w' => ∃ t, e = .returned (.tuple #[.int .i64 (base + n), .int .i64 t]) ∧ Below w.heap.size w w' := by
  obtain ⟨X, rfl, h⟩ := h
  rw [List.length_map] at hn
  refine (rl.Last_any B g n q base term X w h hn h0 h3 hl).mono ?_
  rintro e w' ⟨rfl, hb⟩
  exact ⟨_, rfl, hb⟩
theorem NlastOf (B g n : Nat) (q : Option Nat) (base term : Int) (x : List rl.Dat) (w : World) (h : rl.LogD w B g q base term x) (hn : x.length = n) (h0 : 0 ≤ base) (h3 : base ≤ 4611686018427387904) (hl : n ≤ 1000000) :
    Calls Tryz.prog 76 #[.pointer (some ⟨g, 0, none⟩)] w fun e w' => e = .returned (.int .i64 (base + n)) ∧ Below w.heap.size w w' := by
  have K := Lib.hid (lastTerm_any B g n q base term x w h hn h0 h3 hl)
  clear h hn h0 h3 hl
  go_enter Tryz.func76, Tryz.ntmps76
  go_wp2_with fail
  refine K.out.mono ?_
  rintro e w1 ⟨t, rfl, hb⟩
  have Hb := Lib.hid hb
  clear hb
  go_wp2
  go_ret
  exact ⟨rfl, Hb.out⟩
end Go.Proofs.YtdlgihgdpdiglaaGreat
end

section
namespace Go.Proofs.YtdlgihgdpdiglaaGreat
open Go.ChangeShapes Go.WideShapes Go.ChangeAt Go.RowKit
set_option linter.unusedVariables false

/-- a text as a field -/
def txB (bs : List UInt8) : List UInt8 := numB bs.length ++ bs
/-- an entry's bytes -/
def entB (d : rl.Dat) : List UInt8 := numB d.1.toNat ++ numB d.2.1.toNat ++ txB d.2.2
/-- the bytes of members; none: nobody -/
def memB (us : List Int) : List UInt8 := if us = [] then [] else quo.bytesQ us
/-- a snapshot's bytes -/
def snapB (si sn : Int) (us : List Int) (ss : List UInt8) : List UInt8 := numB si.toNat ++ numB sn.toNat ++ txB (memB us) ++ txB ss
theorem txB_len {bs : List UInt8} (h : bs.length ≤ 1000000) : (txB bs).length ≤ 9 + bs.length := by
  unfold txB
  have := numB_len9 (n := bs.length) (by omega)
  rw [List.length_append]; omega
theorem entB_len {d : rl.Dat} (h1 : d.1 ≤ 9223372036854775807) (h2 : d.2.1 ≤ 9223372036854775807) (h : d.2.2.length ≤ 1000000) : (entB d).length ≤ 27 + d.2.2.length := by
  unfold entB
  have a1 := numB_len9 (n := d.1.toNat) (by omega)
  have a2 := numB_len9 (n := d.2.1.toNat) (by omega)
  have a3 := txB_len h
  simp only [List.length_append]; omega
set_option maxRecDepth 100000 in
theorem NentryText (t k : Int) (A : Option Addr) (m c : Nat) (bs : List UInt8) (w : World) (t1 : In64 t) (k1 : In64 k) (hm : bs.length = m) (hl : m ≤ 10000) (hs : Seen w A (bytesV bs)) :
    Calls Tryz.prog 145 #[.agg #[.int .i64 t, .int .i64 k, .slice A m c]] w (OwnRet 5 (bytesV (entB (t, k, bs))) w) := by
  have Hs := Lib.hid hs
  have Hm := Lib.hid hm
  obtain ⟨w0, hw0⟩ : ∃ w0, w.alloc (.cells #[.int .i64 t, .int .i64 k, .slice A m c] 73) = w0 := ⟨_, rfl⟩
  have hb0 : Below w.heap.size w w0 := by rw [← hw0]; exact box_below _ _
  have hh0 : w0.heap[w.heap.size]? = some (.cells #[.int .i64 t, .int .i64 k, .slice A m c] 73 (0, 0)) := by rw [← hw0]; exact heap_alloc_new _ _
  obtain ⟨g, hg⟩ : ∃ g, w0.heap.size = g := ⟨_, rfl⟩
  have hlt : w.heap.size < g := by rw [← hg]; exact (Array.getElem?_eq_some_iff.1 hh0).1
  obtain ⟨W1, hW1⟩ : ∃ W1, w0.alloc (.cells #[.slice none 0 0] 175) = W1 := ⟨_, rfl⟩
  have hz : IsW W1 g g none [] := by rw [← hW1, ← hg]; exact IsW.zero w0 _ (Nat.le_refl _)
  have hb1 : Below g w0 W1 := by rw [← hW1, ← hg]; exact box_below _ _
  have Hb0 := Lib.hid hb0; have Hz := Lib.hid hz; have Hb1 := Lib.hid hb1
  have Ce := Lib.hid (show ∀ w', Below g w0 w' → (w'.cell? ⟨w.heap.size, 0, none⟩ = some (.int .i64 t) ∧ w'.cell? ⟨w.heap.size, 1, none⟩ = some (.int .i64 k) ∧ w'.cell? ⟨w.heap.size, 2, none⟩ = some (.slice A m c)) from fun w' h => by
    have hh : w'.heap[w.heap.size]? = some (.cells #[.int .i64 t, .int .i64 k, .slice A m c] 73 (0, 0)) := by rw [h.block _ hlt]; exact hh0
    exact ⟨row_cell hh 0, row_cell hh 1, row_cell hh 2⟩)
  have Up := Lib.hid (show ∀ w', Below g w0 w' → Below w.heap.size w w' from fun w' h => hb0.trans (h.mono (by omega)))
  have n1 := numB_len9 (n := t.toNat) (by have := t1.2; omega)
  have n2 := numB_len9 (n := k.toNat) (by have := k1.2; omega)
  have n3 := numB_len9 (n := m) (by omega)
  obtain ⟨a0, a1, a2⟩ := Ce.out W1 Hb1.out
  clear hb0 hh0 hz hb1 hs hm
  go_enter Tryz.func145, Tryz.ntmps145
  go_wp2_with fail
  refine (WNum_any g g none [] t W1 Hz.out (by simp) t1.1 t1.2).mono ?_
  rintro e w2 ⟨rfl, hg2⟩
  obtain ⟨r2, hw2, hb2⟩ := Hz.out.grown hg2
  rw [List.nil_append] at hw2
  have Hw2 := Lib.hid hw2; have Hb2 := Lib.hid (Hb1.out.trans hb2)
  clear hw2 hb2 hg2 a0 a1 a2 hW1 hw0
  obtain ⟨a0, a1, a2⟩ := Ce.out w2 Hb2.out
  go_wp2_with fail
  refine (WNum_any g g r2 _ k w2 Hw2.out (by omega) k1.1 k1.2).mono ?_
  rintro e w3 ⟨rfl, hg3⟩
  obtain ⟨r3, hw3, hb3⟩ := Hw2.out.grown hg3
  have Hw3 := Lib.hid hw3; have Hb3 := Lib.hid (Hb2.out.trans hb3)
  clear hw3 hb3 hg3 a0 a1 a2
  obtain ⟨a0, a1, a2⟩ := Ce.out w3 Hb3.out
  go_wp2_with fail
  refine (WText_any g g r3 _ bs A m c w3 Hw3.out (by rw [List.length_append]; omega) Hm.out hl (fun w' ht => Hs.out.below (Up.out _ (Hb3.out.trans (ht.below (fun q e => by
    rcases e with rfl | e
    · exact Hw3.out.1
    · exact (Hw3.out.lt.2 q e).1) (by have := Hw3.out.lt.1; omega)))))).mono ?_
  rintro e w4 ⟨rfl, hg4⟩
  obtain ⟨r4, hw4, hb4⟩ := Hw3.out.grown hg4
  have Hw4 := Lib.hid hw4; have Hb4 := Lib.hid (Hb3.out.trans hb4)
  clear hw4 hb4 hg4 a0 a1 a2
  go_wp2_with fail
  refine (WBytes_any g g r4 _ w4 Hw4.out (by simp only [List.length_append]; have := Hm.out; omega)).mono ?_
  rintro e w5 ⟨A5, c5, rfl, hown5, hb5⟩
  have Hown5 := Lib.hid hown5; have Hb5 := Lib.hid hb5
  clear hown5 hb5
  go_wp2
  go_ret
  have e1 : entB (t, k, bs) = numB t.toNat ++ numB k.toNat ++ (numB m ++ bs) := by unfold entB txB; rw [Hm.out]
  rw [e1]
  have hu := Up.out _ Hb4.out
  exact ⟨A5, c5, by simp only [List.append_assoc]; rfl, own_base Hown5.out hu.size, hu.trans (Hb5.out.mono hu.size)⟩
theorem memB_len {us : List Int} (h : quo.RightQ us ∨ us = []) : (memB us).length ≤ 100 := by
  unfold memB
  split
  · simp
  · rename_i hne
    rcases h with h | h
    · have h1 := h.1
      have h2 := quo.fieldsQ_length (l := us) fun x hx => by have := (h.2.1 x hx); unfold quo.InQ at this; unfold In64; omega
      have h3 := numB_len9 (n := us.length) (by omega)
      unfold quo.bytesQ
      rw [List.length_append]
      omega
    · exact absurd h hne
set_option maxRecDepth 100000 in
theorem Ntext (si sn : Int) (um sb : Sl) (us : List Int) (ss : List UInt8) (w : World) (t1 : In64 si) (k1 : In64 sn) (hus : quo.RightQ us ∨ us = []) (hu : IntsAt w um us) (hm : ss.length = sb.n) (hl : sb.n ≤ 10000) (hs : Seen w sb.A (bytesV ss)) :
    Calls Tryz.prog 80 #[.agg #[.int .i64 si, .int .i64 sn, .slice um.A um.n um.c, .slice sb.A sb.n sb.c]] w (OwnRet 5 (bytesV (snapB si sn us ss)) w) := by
  obtain ⟨MA, mn, mc⟩ := um
  obtain ⟨A, m, c⟩ := sb
  simp only at hm hl hs ⊢
  obtain ⟨uln, ucap, usee, ublk⟩ := hu
  simp only at uln ucap usee
  clear ublk
  have Hs := Lib.hid hs
  have Hm := Lib.hid hm
  have Hus := Lib.hid hus; have Hul := Lib.hid uln; have Hsee := Lib.hid usee
  have hul7 : mn ≤ 7 := by
    rcases hus with h | h
    · have := h.1.2; omega
    · rw [h] at uln; simp at uln; omega
  have hin : ∀ x ∈ us, In64 x := fun x hx => by
    rcases hus with h | h
    · have := (h.2.1 x hx); unfold quo.InQ at this; unfold In64; omega
    · rw [h] at hx; cases hx
  have Hin := Lib.hid hin
  obtain ⟨w0, hw0⟩ : ∃ w0, w.alloc (.cells #[.int .i64 si, .int .i64 sn, .slice MA mn mc, .slice A m c] 95) = w0 := ⟨_, rfl⟩
  have hb0 : Below w.heap.size w w0 := by rw [← hw0]; exact box_below _ _
  have hh0 : w0.heap[w.heap.size]? = some (.cells #[.int .i64 si, .int .i64 sn, .slice MA mn mc, .slice A m c] 95 (0, 0)) := by rw [← hw0]; exact heap_alloc_new _ _
  obtain ⟨g, hg⟩ : ∃ g, w0.heap.size = g := ⟨_, rfl⟩
  have hlt : w.heap.size < g := by rw [← hg]; exact (Array.getElem?_eq_some_iff.1 hh0).1
  obtain ⟨W1, hW1⟩ : ∃ W1, w0.alloc (.cells #[.slice none 0 0] 175) = W1 := ⟨_, rfl⟩
  have hz : IsW W1 g g none [] := by rw [← hW1, ← hg]; exact IsW.zero w0 _ (Nat.le_refl _)
  have hb1 : Below g w0 W1 := by rw [← hW1, ← hg]; exact box_below _ _
  have Hz := Lib.hid hz; have Hb1 := Lib.hid hb1
  have Ce := Lib.hid (show ∀ w', Below g w0 w' → (w'.cell? ⟨w.heap.size, 0, none⟩ = some (.int .i64 si) ∧ w'.cell? ⟨w.heap.size, 1, none⟩ = some (.int .i64 sn) ∧ w'.cell? ⟨w.heap.size, 2, none⟩ = some (.slice MA mn mc) ∧ w'.cell? ⟨w.heap.size, 3, none⟩ = some (.slice A m c)) from fun w' h => by
    have hh : w'.heap[w.heap.size]? = some (.cells #[.int .i64 si, .int .i64 sn, .slice MA mn mc, .slice A m c] 95 (0, 0)) := by rw [h.block _ hlt]; exact hh0
    exact ⟨row_cell hh 0, row_cell hh 1, row_cell hh 2, row_cell hh 3⟩)
  have Up := Lib.hid (show ∀ w', Below g w0 w' → Below w.heap.size w w' from fun w' h => hb0.trans (h.mono (by omega)))
  have n1 := numB_len9 (n := si.toNat) (by have := t1.2; omega)
  have n2 := numB_len9 (n := sn.toNat) (by have := k1.2; omega)
  have hml := memB_len hus
  have n4 := txB_len (bs := memB us) (by omega)
  have n5 := txB_len (bs := ss) (by omega)
  have Hml := Lib.hid hml
  obtain ⟨a0, a1, a2, a3⟩ := Ce.out W1 Hb1.out
  clear hb0 hh0 hz hb1 hs hm hus uln usee hin hml
  go_enter Tryz.func80, Tryz.ntmps80
  go_wp2_with fail
  refine (WNum_any g g none [] si W1 Hz.out (by simp) t1.1 t1.2).mono ?_
  rintro e w2 ⟨rfl, hg2⟩
  obtain ⟨r2, hw2, hb2⟩ := Hz.out.grown hg2
  rw [List.nil_append] at hw2
  have Hw2 := Lib.hid hw2; have Hb2 := Lib.hid (Hb1.out.trans hb2)
  clear hw2 hb2 hg2 a0 a1 a2 a3 hW1 hw0
  obtain ⟨a0, a1, a2, a3⟩ := Ce.out w2 Hb2.out
  go_wp2_with fail
  refine (WNum_any g g r2 _ sn w2 Hw2.out (by omega) k1.1 k1.2).mono ?_
  rintro e w3 ⟨rfl, hg3⟩
  obtain ⟨r3, hw3, hb3⟩ := Hw2.out.grown hg3
  have Hw3 := Lib.hid hw3; have Hb3 := Lib.hid (Hb2.out.trans hb3)
  clear hw3 hb3 hg3 a0 a1 a2 a3
  obtain ⟨a0, a1, a2, a3⟩ := Ce.out w3 Hb3.out
  go_upto_if 14 with fail
  go_cut [4] (fun mv wx => ∃ PA pn pc, mv = .slice PA pn pc ∧ (memB us).length = pn ∧ Seen wx PA (bytesV (memB us)) ∧ Below g w3 wx ∧ ∃ r4, IsW wx g g r4 (numB si.toNat ++ numB sn.toNat) ∧ ∀ w', Turned (fun k => k = g ∨ r4 = some k) wx w' → Seen w' PA (bytesV (memB us)))
  case first =>
    by_cases hz : us = []
    · have hmz : ¬ (0 : Int) < (mn : Int) := by have := Hul.out; rw [hz] at this; simp at this; omega
      have he : memB us = [] := by unfold memB; rw [if_pos hz]
      have He := Lib.hid he
      clear he hz
      go_wp2
      go_meet
      rw [He.out]
      exact ⟨none, 0, 0, rfl, rfl, .inl rfl, Below.refl _ _, r3, Hw3.out, fun _ _ => .inl rfl⟩
    · have hmz : (0 : Int) < (mn : Int) := by
        have := Hul.out
        have := List.length_pos_iff.2 hz
        omega
      have he : memB us = quo.bytesQ us := by unfold memB; rw [if_neg hz]
      have He := Lib.hid he
      clear he hz
      go_wp2_with (go_at_call 88; refine (quo.QBytes_any MA mn mc us w3 Hul.out (by omega) (Hsee.out.below (Up.out _ Hb3.out)) Hin.out).mono ?_; rintro e w4 ⟨A4, c4, rfl, hown4, hb4⟩; have Hown4 := Lib.hid hown4; have Hb4 := Lib.hid hb4; clear hown4 hb4)
      go_meet
      have ho := Hown4.out
      rw [← He.out, bytes_length] at ho
      have hgs : g ≤ w3.heap.size := by have := Hw3.out.lt.1; omega
      refine ⟨A4, (bytesV (quo.bytesQ us)).length, c4, rfl, by rw [bytes_length, He.out], Seen.of_own ho, Hb4.out.mono hgs, r3, Hw3.out.turned (p := fun _ => False) (.of_below Hb4.out) id (fun _ _ => id), fun w' ht => Seen.of_own (ht.own ho fun k hk e => ?_)⟩
      have hlk := ho.lt k hk
      have hg3 := Hw3.out.lt.1
      rcases e with e | e
      · omega
      · have := (Hw3.out.lt.2 k e).2; omega
  case rest =>
    obtain ⟨PA, pn, pc, rfl, hpl, hps, hbx, r4, hw4, hkeep⟩ := hcut
    have Hpl := Lib.hid hpl; have Hw4 := Lib.hid hw4; have Hkeep := Lib.hid hkeep
    have Hbx := Lib.hid (Hb3.out.trans hbx)
    obtain ⟨a0, a1, a2, a3⟩ := Ce.out wc Hbx.out
    clear hpl hps hbx hw4 hkeep
    go_wp2_with fail
    refine (WText_any g g r4 _ (memB us) PA pn pc wc Hw4.out (by rw [List.length_append]; omega) Hpl.out (by have := Hpl.out; have := Hml.out; omega) Hkeep.out).mono ?_
    rintro e w5 ⟨rfl, hg5⟩
    obtain ⟨r5, hw5, hb5⟩ := Hw4.out.grown hg5
    have h5e : (numB si.toNat ++ numB sn.toNat ++ (numB pn ++ memB us)) = numB si.toNat ++ numB sn.toNat ++ txB (memB us) := by unfold txB; rw [Hpl.out]
    rw [h5e] at hw5
    have Hw5 := Lib.hid hw5; have Hb5 := Lib.hid (Hbx.out.trans hb5)
    clear hw5 hb5 hg5 h5e a0 a1 a2 a3
    obtain ⟨a0, a1, a2, a3⟩ := Ce.out w5 Hb5.out
    go_wp2_with fail
    refine (WText_any g g r5 _ ss A m c w5 Hw5.out (by simp only [List.length_append]; have := Hml.out; omega) Hm.out hl (fun w' ht => Hs.out.below (Up.out _ (Hb5.out.trans (ht.below (fun q e => by
      rcases e with rfl | e
      · exact Hw5.out.1
      · exact (Hw5.out.lt.2 q e).1) (by have := Hw5.out.lt.1; omega)))))).mono ?_
    rintro e w6 ⟨rfl, hg6⟩
    obtain ⟨r6, hw6, hb6⟩ := Hw5.out.grown hg6
    have h6e : (numB si.toNat ++ numB sn.toNat ++ txB (memB us) ++ (numB m ++ ss)) = snapB si sn us ss := by unfold snapB; rw [show txB ss = numB m ++ ss by unfold txB; rw [Hm.out]]
    rw [h6e] at hw6
    have Hw6 := Lib.hid hw6; have Hb6 := Lib.hid (Hb5.out.trans hb6)
    have hsl : (snapB si sn us ss).length ≤ 1000000 := by unfold snapB; simp only [List.length_append]; have := Hml.out; have := Hm.out; omega
    clear hw6 hb6 hg6 h6e a0 a1 a2 a3
    go_wp2_with fail
    refine (WBytes_any g g r6 _ w6 Hw6.out hsl).mono ?_
    rintro e w7 ⟨A7, c7, rfl, hown7, hb7⟩
    have Hown7 := Lib.hid hown7; have Hb7 := Lib.hid hb7
    clear hown7 hb7
    go_wp2
    go_ret
    have hu := Up.out _ Hb6.out
    exact ⟨A7, c7, rfl, own_base Hown7.out hu.size, hu.trans (Hb7.out.mono hu.size)⟩
end Go.Proofs.YtdlgihgdpdiglaaGreat
end

section
namespace Go.Proofs.YtdlgihgdpdiglaaGreat
open Go.ChangeShapes Go.WideShapes Go.ChangeAt Go.RowKit
set_option linter.unusedVariables false

/-- what a node says -/
structure Nd where
  id : Int
  rf : Int
  te : Int
  vo : Int
  si : Int
  sn : Int
  sm : List Int
  ss : List UInt8
  mem : List Int
  chg : Int
  role : Int
  lead : Int
  com : Int
  told : Int
  unt : Bool
  wait : Int
  votes : List Int
  ct : Int
  ci : Int
  clock : Int
  x : List rl.Dat
  st : Vt
/-- where it has it -/
structure Ad where
  v : Nat
  g : Nat
  s : Nat
  l : Nat
  q : Option Nat
  FV : Nat → Prop
  sm : Sl
  ss : Sl
  mem : Sl
  votes : Sl
  peers : Option Nat
  out : Sl
def Nd.c (N : Nd) (a : Ad) : Nc := ⟨N.id, a.v, N.rf, N.te, N.vo, .pointer (some ⟨a.l, 0, none⟩), N.si, N.sn, a.sm, a.ss, a.mem, N.chg, N.role, N.lead, N.com, N.told, N.unt, N.wait, a.votes, N.ct, N.ci, N.clock, a.peers, a.out⟩
/-- an empty map -/
def EmptyAt (w : World) (p : Nat) : Prop := w.ownsMap Tryz.prog 3 heldR p 0 (.map [])
theorem EmptyAt.map {w : World} {p : Nat} (h : EmptyAt w p) : ∃ es c, w.heap[p]? = some (.map es c) := map_lt h
/-- all that a node has but for its cells -/
structure Parts (w : World) (B : Nat) (a : Ad) (N : Nd) : Prop where
  vault : IsF w B a.v a.g a.s a.FV N.st
  log : rl.LogD w B a.l a.q N.si N.sn N.x
  sm : IntsAt w a.sm N.sm
  mem : IntsAt w a.mem N.mem
  votes : IntsAt w a.votes N.votes
  sslen : N.ss.length = a.ss.n
  ss : rl.SeenU w a.ss.A N.ss
  peers : ∀ p, a.peers = some p → B ≤ p ∧ ¬ a.FV p ∧ EmptyAt w p
/-- a node at n -/
structure IsA (w : World) (B n : Nat) (a : Ad) (N : Nd) : Prop where
  lo : B ≤ n
  row : NcAt w n (N.c a)
  parts : Parts w B a N
/-- the blocks that it writes, but for its cells -/
def FootP (a : Ad) (k : Nat) : Prop := a.FV k ∨ rl.FootL a.l a.q k ∨ a.peers = some k
def FootA (n : Nat) (a : Ad) (k : Nat) : Prop := k = n ∨ FootP a k
/-- the types of these blocks -/
theorem Parts.kinds {w : World} {B : Nat} {a : Ad} {N : Nd} (h : Parts w B a N) {k : Nat} (hk : FootP a k) : B ≤ k ∧ k < w.heap.size ∧ ((∃ cs T, w.heap[k]? = some (.cells cs T (0, 0)) ∧ (TouchT T ∨ T = 162 ∨ T = 73)) ∨ ∃ es c, w.heap[k]? = some (.map es c)) := by
  rcases hk with hk | hk | hk
  · obtain ⟨h1, h2, ⟨cs, T, h3, h4⟩ | h3⟩ := h.vault.kinds hk
    · exact ⟨h1, h2, .inl ⟨cs, T, h3, .inl h4⟩⟩
    · exact ⟨h1, h2, .inr h3⟩
  · obtain ⟨X, _, hl⟩ := h.log
    obtain ⟨h1, h2, cs, T, h3, h4⟩ := hl.block hk
    exact ⟨h1, h2, .inl ⟨cs, T, h3, .inr h4⟩⟩
  · obtain ⟨h1, h2, h3⟩ := h.peers k hk
    obtain ⟨es, c, hm⟩ := h3.map
    exact ⟨h1, (Array.getElem?_eq_some_iff.1 hm).1, .inr ⟨es, c, hm⟩⟩
theorem Parts.type {w : World} {B : Nat} {a : Ad} {N : Nd} (h : Parts w B a N) {k : Nat} {cs : Array Value} {T : TypeId} {fr : Nat × Nat} (hb : w.heap[k]? = some (.cells cs T fr)) (hT : ¬ (TouchT T ∨ T = 162 ∨ T = 73)) : ¬ FootP a k := fun hk => by
  obtain ⟨_, _, ⟨cs', T', h3, h4⟩ | ⟨es, c, h3⟩⟩ := h.kinds hk
  · rw [h3] at hb
    injection hb with hb
    injection hb with _ e _
    exact hT (e ▸ h4)
  · rw [h3] at hb; cases hb
theorem IsA.far {w : World} {B n : Nat} {a : Ad} {N : Nd} (h : IsA w B n a N) : ¬ FootP a n := h.parts.type h.row (by unfold TouchT; decide)
theorem IsA.noBytes {w : World} {B n : Nat} {a : Ad} {N : Nd} (h : IsA w B n a N) : rl.NoBytes w (FootA n a) := fun k cs fr hk e => by
  rcases hk with rfl | hk
  · have hr := h.row
    unfold NcAt at hr
    rw [hr] at e
    injection e with e
    injection e with _ e _
    exact absurd e (by decide)
  · exact h.parts.type e (by unfold TouchT; decide) hk
theorem IsA.noInts {w : World} {B n : Nat} {a : Ad} {N : Nd} (h : IsA w B n a N) : NoInts w (FootA n a) := fun k cs fr hk e => by
  rcases hk with rfl | hk
  · have hr := h.row
    unfold NcAt at hr
    rw [hr] at e
    injection e with e
    injection e with _ e _
    exact absurd e (by decide)
  · exact h.parts.type e (by unfold TouchT; decide) hk
theorem IsA.base {w : World} {B n : Nat} {a : Ad} {N : Nd} (h : IsA w B n a N) {k : Nat} (hk : FootA n a k) : B ≤ k ∧ k < w.heap.size := by
  rcases hk with rfl | hk
  · exact ⟨h.lo, h.row.lt⟩
  · exact ⟨(h.parts.kinds hk).1, (h.parts.kinds hk).2.1⟩
/-- what turns nothing of it -/
theorem Parts.turned {p : Nat → Prop} {w w' : World} {B : Nat} {a : Ad} {N : Nd} (h : Parts w B a N) (ht : Turned p w w') (hp : ∀ k, FootP a k → ¬ p k) (hb : rl.NoBytes w p) (hi : NoInts w p) : Parts w' B a N :=
  ⟨h.vault.turned ht (fun k hk => hp k (.inl hk)) hb, h.log.turned ht (fun k hk => hp k (.inr (.inl hk))) hb, h.sm.turned ht hi, h.mem.turned ht hi, h.votes.turned ht hi, h.sslen, h.ss.turned ht hb, fun q hq => by
    obtain ⟨h1, h2, h3⟩ := h.peers q hq
    exact ⟨h1, h2, map_turned h3 ht (hp q (.inr (.inr hq)))⟩⟩
theorem Parts.below {w w' : World} {B : Nat} {a : Ad} {N : Nd} (h : Parts w B a N) (hb : Below w.heap.size w w') : Parts w' B a N := h.turned (p := fun _ => False) (.of_below hb) (fun _ _ => id) (rl.NoBytes.no w) (NoInts.no w)
theorem IsA.below {w w' : World} {B n : Nat} {a : Ad} {N : Nd} (h : IsA w B n a N) (hb : Below w.heap.size w w') : IsA w' B n a N := ⟨h.lo, h.row.below hb, h.parts.below hb⟩
theorem IsA.turned {p : Nat → Prop} {w w' : World} {B n : Nat} {a : Ad} {N : Nd} (h : IsA w B n a N) (ht : Turned p w w') (hp : ∀ k, FootA n a k → ¬ p k) (hb : rl.NoBytes w p) (hi : NoInts w p) : IsA w' B n a N :=
  ⟨h.lo, h.row.turned ht (hp n (.inl rfl)), h.parts.turned ht (fun k hk => hp k (.inr hk)) hb hi⟩
/-- only its cells are written -/
theorem IsA.wrote {w w' : World} {B n : Nat} {a a' : Ad} {N N' : Nd} (h : IsA w B n a N) (k : WroteN n (N'.c a') w w') (hp : Parts w B a' N') : IsA w' B n a' N' := by
  refine ⟨h.lo, k.1, hp.turned k.2 (fun j hj e => ?_) (fun j cs fr e x => ?_) (fun j cs fr e x => ?_)⟩
  · subst e
    exact hp.type h.row (by unfold TouchT; decide) hj
  · subst e
    exact h.noBytes j cs fr (.inl rfl) x
  · subst e
    exact h.noInts j cs fr (.inl rfl) x

/-! ### a node that moved -/
/-- it stands, in blocks of its own that were there or are new, and only these have turned -/
def MovA (B n : Nat) (a : Ad) (N' : Nd) (w w' : World) : Prop :=
  ∃ a', IsA w' B n a' N' ∧ (∀ k, FootA n a' k → FootA n a k ∨ w.heap.size ≤ k) ∧ Turned (FootA n a) w w' ∧ a'.v = a.v ∧ a'.g = a.g ∧ a'.s = a.s
theorem MovA.of_below {B n : Nat} {a : Ad} {N : Nd} {w w' : World} (h : IsA w B n a N) (hb : Below w.heap.size w w') : MovA B n a N w w' := ⟨a, h.below hb, fun k hk => .inl hk, .of_below hb, rfl, rfl, rfl⟩
theorem MovA.of_wrote {B n : Nat} {a a' : Ad} {N N' : Nd} {w w' : World} (h : IsA w B n a N) (k : WroteN n (N'.c a') w w') (hp : Parts w B a' N') (hf : ∀ j, FootP a' j → FootP a j) (hv : a'.v = a.v) (hg : a'.g = a.g) (hs : a'.s = a.s) : MovA B n a N' w w' :=
  ⟨a', h.wrote k hp, fun j hj => .inl (hj.imp id (hf j)), k.2.mono fun j _ e => .inl e, hv, hg, hs⟩
theorem MovA.trans {B n : Nat} {a : Ad} {N1 N2 : Nd} {w w1 w2 : World} (h : MovA B n a N1 w w1) (k : ∀ a1, IsA w1 B n a1 N1 → a1.v = a.v → a1.g = a.g → a1.s = a.s → MovA B n a1 N2 w1 w2) : MovA B n a N2 w w2 := by
  obtain ⟨a1, h1, h2, h3, h4, h5, h6⟩ := h
  obtain ⟨a2, k1, k2, k3, k4, k5, k6⟩ := k a1 h1 h4 h5 h6
  refine ⟨a2, k1, fun j hj => ?_, turned_step h3 k3 fun j hj e => ?_, k4.trans h4, k5.trans h5, k6.trans h6⟩
  · rcases k2 j hj with e | e
    · exact h2 j e
    · exact .inr (Nat.le_trans h3.size e)
  · rcases h2 j e with e | e
    · exact e
    · omega
theorem MovA.below {B n : Nat} {a : Ad} {N N' : Nd} {w w' : World} (h : MovA B n a N' w w') (h0 : IsA w B n a N) : Below B w w' := by
  obtain ⟨a', h1, h2, h3, _⟩ := h
  exact h3.below (fun k hk => (h0.base hk).1) (by have := (h0.base (k := n) (.inl rfl)); omega)
theorem MovA.size {B n : Nat} {a : Ad} {N' : Nd} {w w' : World} (h : MovA B n a N' w w') : w.heap.size ≤ w'.heap.size := by
  obtain ⟨a', h1, h2, h3, _⟩ := h
  exact h3.size
theorem MovA.trans_below {B n : Nat} {a : Ad} {N1 : Nd} {w w1 w2 : World} (h : MovA B n a N1 w w1) (hb : Below w1.heap.size w1 w2) : MovA B n a N1 w w2 := h.trans fun _ h1 _ _ _ => .of_below h1 hb
theorem MovA.of_below_trans {B n : Nat} {a : Ad} {N N1 : Nd} {w w1 w2 : World} (h0 : IsA w B n a N) (hb : Below w.heap.size w w1) (h : MovA B n a N1 w1 w2) : MovA B n a N1 w w2 := by
  obtain ⟨a', h1, h2, h3, h4⟩ := h
  exact ⟨a', h1, fun k hk => (h2 k hk).imp id fun e => Nat.le_trans hb.size e, turned_step (Turned.of_below hb) h3 fun _ _ e => e, h4⟩
end Go.Proofs.YtdlgihgdpdiglaaGreat
end

section
namespace Go.Proofs.YtdlgihgdpdiglaaGreat
open Go.ChangeShapes Go.WideShapes Go.ChangeAt Go.RowKit Go.Sort
set_option linter.unusedVariables false

/-- a struct stored whole into a row of its own -/
theorem st_row {w : World} {g : Nat} {cs new : Array Value} {T T' : TypeId} (h : w.heap[g]? = some (.cells cs T' (0, 0))) (hs : cs.size = new.size) (hi : (Tryz.prog.info? T).map (·.size) = some new.size) (h1 : new.all (·.oneCell') = true) :
    ∃ w', (Instr.storeAt T (.pointer (some ⟨g, 0, none⟩)) (.agg new)).run Tryz.prog w = .ok () w' ∧ w'.heap[g]? = some (.cells new T' (0, 0)) ∧ Turned (fun k => k = g) w w' := by
  have hth : w.there g 0 new.size := fun i hi => ⟨by rw [row_cell h, Array.getElem?_eq_getElem (by omega)]; rfl, row_frozen h _⟩
  refine ⟨_, run_storeAt_mid w g 0 T new hth hi h1, ?_, quo.turned_cellsI (p := fun k => k = g) (fun _ => rfl) _ _ _ (Turned.refl _ _)⟩
  have := quo.set_row (b := g) (e := T') (Z := []) new.toList [] cs.toList w 0 (by simpa using h) (by simp [hs]) rfl
  simpa using this

theorem NContains (s : Sl) (us : List Int) (x : Int) (w : World) (h : IntsAt w s us) (hl : s.n ≤ 1000000) :
    Calls Tryz.prog 111 #[.slice s.A s.n s.c, .int .i64 x] w fun e w' => e = .returned (.bool (decide (x ∈ us))) ∧ w' = w := by
  obtain ⟨A, n, c⟩ := s
  obtain ⟨h1, h2, h3, _⟩ := h
  simp only at h1 h2 h3 hl ⊢
  have hc : us.contains x = decide (x ∈ us) := by rw [List.contains_eq_mem]
  rw [← hc]
  by_cases h0 : n = 0
  · subst h0
    obtain rfl := List.length_eq_zero_iff.1 h1
    exact Any.slices_Contains_int_empty Tryz.intsContains A c x w
  · obtain ⟨b, off, rfl, hcl⟩ := quo.seen_ints h3 (by omega)
    have := Any.slices_Contains_int Tryz.intsContains b off n c us x w (by omega) (by omega) hcl
    rwa [List.take_of_length_le (by omega)] at this

/-- a row of which what the predicate tells is struck -/
theorem IDeleteFunc (B g n c : Nat) (fn : Nat) (lb : Array Value) (p : Int → Bool) (xs : List Int) (w : World) (hB : B ≤ g) (h : w.ownsRow B 3 1 (.slice (some ⟨g, 0, none⟩) n c) n (numsV xs))
    (eg : ∀ args w, (callFunc fn args).run Tryz.prog w = .ok (.enter fn args) w) (hp : PredAt Tryz.prog fn lb (Value.int .i64) p w) (hpo : PredOver Tryz.prog fn lb (Value.int .i64) p g 0 n w) :
    Calls Tryz.prog 174 #[.slice (some ⟨g, 0, none⟩) n c, .func (.func fn) #[] lb] w fun e w' => e = .returned (.slice (some ⟨g, 0, none⟩) (xs.filter fun x => !p x).length c) ∧ w'.ownsRow B 3 1 (.slice (some ⟨g, 0, none⟩) (xs.filter fun x => !p x).length c) (xs.filter fun x => !p x).length (numsV (xs.filter fun x => !p x)) ∧ Below B w w' := by
  have hlen : xs.length = n := by have := h.1; rw [numsV_length] at this; omega
  obtain ⟨g', cap, e0, hb, hlt, hn, hm, _, hH⟩ := Lib.holds_of_ownsRow (enc := Value.int .i64) (zs := xs) h (by simp)
  injection e0 with e1 _ e3
  injection e1 with e1
  injection e1 with e1
  subst e1; subst e3
  have hsz : xs.toArray.size = n := by simpa using hlen
  have hC := AnyE.slices_DeleteFunc Tryz.deleteFuncA (Value.int .i64) (fun _ => rfl) p fn lb eg 0 Tryz.zeroValue3 g 0 c xs.toArray w hp (by rw [hsz]; exact hpo) hH (by rw [hsz]; unfold maxLen at hm; omega) (by rw [hsz]; omega)
  rw [hsz] at hC
  refine hC.mono ?_
  rintro e w' ⟨rfl, q, rfl⟩
  refine ⟨rfl, ?_, Lib.below_putRow (Below.refl _ _) hB⟩
  have hk := List.length_filter_le (fun x => !p x) xs
  have hy : ((xs.filter fun x => !p x) ++ List.replicate (n - (xs.filter fun x => !p x).length) 0).length = n := by
    simp only [List.length_append, List.length_replicate]; omega
  have := Lib.ownsRow_putRow (enc := Value.int .i64) (zs := xs) (ys := (xs.filter fun x => !p x) ++ List.replicate (n - (xs.filter fun x => !p x).length) 0) (q := q) (k := (xs.filter fun x => !p x).length) h hy (by omega)
  rw [List.take_left] at this
  exact this

theorem NisMember (n : Nat) (c : Nc) (us : List Int) (w : World) (h : NcAt w n c) (hu : IntsAt w c.mem us) (hl : c.mem.n ≤ 1000000) :
    Calls Tryz.prog 110 #[.pointer (some ⟨n, 0, none⟩)] w fun e w' => e = .returned (.bool (decide (c.id ∈ us))) ∧ Below w.heap.size w w' := by
  have K := Lib.hid (fun q => NContains c.mem us c.id (w.drewN q) (hu.below (below_drewN (Below.refl _ _) q)) hl)
  have c0 := h.c0; have c10 := h.c10
  clear h hu
  go_enter Tryz.func110, Tryz.ntmps110
  go_upto_region 1 with fail
  go_quiet (first | (go_at_call 111; refine Calls.quiet_of_same (K.out _)))
  go_wp2
  go_ret
  exact ⟨rfl, below_drewN (Below.refl _ _) _⟩

/-! ### others -/
/-- the closure of others: is x the node's number -/
theorem gives_mine (n g : Nat) (id x : Int) (W : World) (hg : W.cell? ⟨g, 0, none⟩ = some (.pointer (some ⟨n, 0, none⟩))) (hc : W.cell? ⟨n, 0, none⟩ = some (.int .i64 id)) :
    FnGives Tryz.prog 175 #[.pointer (some ⟨g, 0, none⟩)] #[.int .i64 x] (.bool (decide (x = id))) W := by
  show Calls Tryz.prog 175 #[.int .i64 x, .pointer (some ⟨g, 0, none⟩)] W _
  go_enter Tryz.func175, Tryz.ntmps175
  go_wp2
  all_goals (go_ret; exact ⟨by congr 2, 0, rfl⟩)
/-- all members but the node -/
def othersL (us : List Int) (id : Int) : List Int := us.filter fun x => !decide (x = id)
set_option maxRecDepth 100000 in
theorem Nothers (n : Nat) (c : Nc) (us : List Int) (w : World) (h : NcAt w n c) (hu : IntsAt w c.mem us) (h0 : 0 < us.length) (hl : c.mem.n ≤ 1000000) :
    Calls Tryz.prog 108 #[.pointer (some ⟨n, 0, none⟩)] w (OwnRet 3 (numsV (othersL us c.id)) w) := by
  have hmk : ∀ (fn : Fn) (first cap : Array Value) (w : World), (Instr.makeFunc fn first cap).run Tryz.prog w = .ok (.func fn first cap) w := fun _ _ _ _ => rfl
  obtain ⟨w1, hw1⟩ : ∃ w1, w.alloc (.cells #[.pointer (some ⟨n, 0, none⟩)] 30) = w1 := ⟨_, rfl⟩
  have hb1 : Below w.heap.size w w1 := by rw [← hw1]; exact box_below _ _
  have hg1 : w1.heap[w.heap.size]? = some (.cells #[.pointer (some ⟨n, 0, none⟩)] 30 (0, 0)) := by rw [← hw1]; exact heap_alloc_new _ _
  have hr1 := h.below hb1
  have hs1 : w.heap.size < w1.heap.size := (Array.getElem?_eq_some_iff.1 hg1).1
  have p0 : w1.cell? ⟨w.heap.size, 0, none⟩ = some (.pointer (some ⟨n, 0, none⟩)) := row_cell hg1 0
  have c10 := hr1.c10
  have c0 := hr1.c0
  have hnl := h.lt
  have Hu := Lib.hid (hu.below hb1)
  have Hb1 := Lib.hid hb1
  have hlen := hu.len
  have KC := Lib.hid (quo.IClone_any c.mem.A c.mem.n c.mem.c us w1 Hu.out.len (by omega) hl Hu.out.see)
  have P0 := Lib.hid p0; have C0 := Lib.hid c0
  clear hu hlen h hr1 hg1 hb1
  go_enter Tryz.func108, Tryz.ntmps108
  go_wp2_with fail
  refine KC.out.mono ?_
  rintro e w2 ⟨g, cap, rfl, hg, hown, hb2⟩
  have Hown := Lib.hid hown; have Hb2 := Lib.hid hb2
  have q0 : w2.cell? ⟨w.heap.size, 0, none⟩ = some (.pointer (some ⟨n, 0, none⟩)) := (hb2.cell (p := ⟨w.heap.size, 0, none⟩) hs1).trans P0.out
  have d0 : w2.cell? ⟨n, 0, none⟩ = some (.int .i64 c.id) := (hb2.cell (p := ⟨n, 0, none⟩) (by show n < _; omega)).trans C0.out
  have hs2 := hb2.size
  have eg : ∀ args w, (callFunc 175 args).run Tryz.prog w = .ok (.enter 175 args) w := enters_of Tryz.func175 (by kernel_rfl) rfl
  have hpa : PredAt Tryz.prog 175 #[.pointer (some ⟨w.heap.size, 0, none⟩)] (Value.int .i64) (fun x => decide (x = c.id)) w2 := fun W x hb => gives_mine n w.heap.size c.id x W ((hb.cell (p := ⟨w.heap.size, 0, none⟩) (by show w.heap.size < _; omega)).trans q0) ((hb.cell (p := ⟨n, 0, none⟩) (by show n < _; omega)).trans d0)
  have hpo : PredOver Tryz.prog 175 #[.pointer (some ⟨w.heap.size, 0, none⟩)] (Value.int .i64) (fun x => decide (x = c.id)) g 0 c.mem.n w2 := fun m os dk x _ => gives_mine n w.heap.size c.id x _ (by
      unfold sortWorld
      rw [cell?_grow _ _ _ (by show w.heap.size < (putRow _ _ _ _ _).heap.size; rw [size_putRow]; show w.heap.size < w2.heap.size; omega), cell?_putRow_other _ _ g 0 _ _ (Or.inl (by show w.heap.size ≠ g; omega))]
      exact q0) (by
      unfold sortWorld
      rw [cell?_grow _ _ _ (by show n < (putRow _ _ _ _ _).heap.size; rw [size_putRow]; show n < w2.heap.size; omega), cell?_putRow_other _ _ g 0 _ _ (Or.inl (by show n ≠ g; omega))]
      exact d0)
  have KD := Lib.hid (IDeleteFunc w1.heap.size g c.mem.n cap _ _ _ us w2 hg hown eg hpa hpo)
  clear hown hb2 eg hpa hpo q0 d0 p0 c0 hw1
  go_wp2_with fail
  refine KD.out.mono ?_
  rintro e w3 ⟨rfl, hown3, hb3⟩
  have Hown3 := Lib.hid hown3; have Hb3 := Lib.hid hb3
  clear hown3 hb3
  go_wp2
  go_ret
  have hu1 := Hb1.out.size
  refine ⟨some ⟨g, 0, none⟩, cap, by rw [numsV_length]; rfl, ?_, Hb1.out.trans ((Hb2.out.trans Hb3.out).mono hu1)⟩
  have := Hown3.out
  unfold othersL
  rw [numsV_length]
  exact own_base this hu1
end Go.Proofs.YtdlgihgdpdiglaaGreat
end

section
namespace Go.Proofs.YtdlgihgdpdiglaaGreat
open Go.ChangeShapes Go.WideShapes Go.ChangeAt Go.RowKit
set_option linter.unusedVariables false

/-- a slice reads as these ints -/
structure IntsR (w : World) (s : Sl) (us : List Int) : Prop where
  len : us.length = s.n
  cap : s.n ≤ s.c
  see : Seen w s.A (numsV us)
theorem IntsAt.reads {w : World} {s : Sl} {us : List Int} (h : IntsAt w s us) : IntsR w s us := ⟨h.len, h.cap, h.see⟩
theorem IntsR.below {w w' : World} {s : Sl} {us : List Int} (h : IntsR w s us) (hb : Below w.heap.size w w') : IntsR w' s us := ⟨h.len, h.cap, h.see.below hb⟩
/-- a slice of ints that the call laid itself -/
def CloneRet (us : List Int) (w : World) (e : Ending) (w' : World) : Prop :=
  ∃ s' : Sl, e = .returned s'.v ∧ w'.ownsRow w.heap.size 3 1 s'.v s'.n (numsV us) ∧ Below w.heap.size w w'
theorem NClone (s : Sl) (us : List Int) (w : World) (h : IntsR w s us) (hl : s.n ≤ 1000000) :
    Calls Tryz.prog 36 #[.slice s.A s.n s.c] w (CloneRet us w) := by
  obtain ⟨A, n, c⟩ := s
  obtain ⟨h1, h2, h3⟩ := h
  simp only at h1 h2 h3 hl ⊢
  by_cases h0 : n = 0
  · subst h0
    obtain rfl := List.length_eq_zero_iff.1 h1
    cases A with
    | none =>
      refine (Any.slices_Clone_int_nil Tryz.intsClone 0 c w).mono ?_
      rintro e w' ⟨rfl, rfl⟩
      exact ⟨Sl.nil, rfl, World.ownsRow_nil _ _ _ _, Below.refl _ _⟩
    | some a =>
      refine (Any.slices_Clone_int_zero Tryz.intsClone a c w).mono ?_
      rintro e w' ⟨v, rfl, hown, hne, hb⟩
      rcases hown.2 with ⟨hv, _⟩ | ⟨g, cap, cur, hv, _⟩
      · exact absurd hv hne
      · subst hv
        exact ⟨⟨some ⟨g, 0, none⟩, 0, cap⟩, rfl, hown, hb⟩
  · refine (quo.IClone_any A n c us w h1 (by omega) hl h3).mono ?_
    rintro e w' ⟨g, cap, rfl, hg, hown, hb⟩
    exact ⟨⟨some ⟨g, 0, none⟩, n, cap⟩, rfl, hown, hb⟩

/-- what Status tells -/
def StatusRet (N : Nd) (w : World) (e : Ending) (w' : World) : Prop :=
  ∃ s : Sl, e = .returned (.agg #[.int .i64 N.te, .int .i64 N.role, .int .i64 N.lead, .int .i64 N.com, .int .i64 (N.si + N.x.length), .slice s.A s.n s.c]) ∧ w'.ownsRow w.heap.size 3 1 s.v s.n (numsV N.mem) ∧ Below w.heap.size w w'
theorem status_info : (Tryz.prog.info? 35).map (·.size) = some 6 := by kernel_rfl
theorem status_zero (w : World) : (zeroValue 35).run Tryz.prog w = .ok (.agg #[.int .i64 0, .int .i64 0, .int .i64 0, .int .i64 0, .int .i64 0, .slice none 0 0]) w := by kernel_rfl
def stSta (p v : Value) : Sem Unit := Instr.storeAt 35 p v
theorem stSta_eq (p v : Value) : Instr.storeAt 35 p v = stSta p v := rfl
section
attribute [local go_sem ↓] stSta_eq
set_option maxRecDepth 100000 in
set_option maxHeartbeats 1000000 in
theorem NStatus (B n : Nat) (a : Ad) (N : Nd) (w : World) (h : IsA w B n a N) (h0 : 0 ≤ N.si) (h3 : N.si ≤ 1099511627776) (hx : N.x.length ≤ 1000000) (hm : N.mem.length ≤ 1000000) :
    Calls Tryz.prog 12 #[.pointer (some ⟨n, 0, none⟩)] w (StatusRet N w) := by
  obtain ⟨w1, hw1⟩ : ∃ w1, w.alloc (.cells #[.int .i64 0, .int .i64 0, .int .i64 0, .int .i64 0, .int .i64 0, .slice none 0 0] 35) = w1 := ⟨_, rfl⟩
  have hb1 : Below w.heap.size w w1 := by rw [← hw1]; exact box_below _ _
  have hg1 : w1.heap[w.heap.size]? = some (.cells #[.int .i64 0, .int .i64 0, .int .i64 0, .int .i64 0, .int .i64 0, .slice none 0 0] 35 (0, 0)) := by rw [← hw1]; exact heap_alloc_new _ _
  have h1 := h.below hb1
  have c5 := h1.row.c5
  have KL := Lib.hid (lastTerm_any B a.l N.x.length a.q N.si N.sn N.x w1 h1.parts.log rfl h0 (by omega) hx)
  have Hb1 := Lib.hid hb1; have Hg1 := Lib.hid hg1; have H1 := Lib.hid h1
  have hml := h.parts.mem.len
  have hne : ¬ n = w.heap.size := by have := h.row.lt; omega
  have HN := Lib.hid (show N.mem.length = a.mem.n from hml)
  clear h hb1 hg1 h1 hml
  obtain ⟨L, hL⟩ : ∃ L, N.x.length = L := ⟨_, rfl⟩
  unfold StatusRet
  rw [hL] at KL ⊢
  have hlast : N.si + (L : Int) = N.si + (L : Int) := rfl
  clear hL
  unfold Nd.c at c5
  go_enter Tryz.func12, Tryz.ntmps12
  go_wp2_with fail
  refine KL.out.mono ?_
  rintro e w2 ⟨t, rfl, hb2⟩
  have H2 := Lib.hid (H1.out.below hb2)
  have Hg2 := Lib.hid (row_below Hg1.out hb2)
  have Hb2 := Lib.hid (Hb1.out.trans (hb2.mono Hb1.out.size))
  clear hb2 c5 hw1
  have d3 := H2.out.row.c3; have d10 := H2.out.row.c10; have d12 := H2.out.row.c12; have d13 := H2.out.row.c13; have d14 := H2.out.row.c14
  unfold Nd.c at d3 d10 d12 d13 d14
  simp only at d3 d10 d12 d13 d14
  have KC := Lib.hid (NClone a.mem N.mem w2.drew (H2.out.parts.mem.below (Below.refl _ _).drew).reads (by have := HN.out; omega))
  go_upto_region 2 with fail
  have Cs := Lib.hid (show ∀ w', NcAt w' n (N.c a) → (w'.cell? ⟨n, 3, none⟩ = some (.int .i64 N.te) ∧ w'.cell? ⟨n, 10, none⟩ = some (.slice a.mem.A a.mem.n a.mem.c) ∧ w'.cell? ⟨n, 12, none⟩ = some (.int .i64 N.role) ∧ w'.cell? ⟨n, 13, none⟩ = some (.int .i64 N.lead) ∧ w'.cell? ⟨n, 14, none⟩ = some (.int .i64 N.com)) from fun w' r => ⟨r.c3, r.c10, r.c12, r.c13, r.c14⟩)
  go_region_held3 (fun w' => w'.cell? ⟨n, 3, none⟩ = some (.int .i64 N.te) ∧ w'.cell? ⟨n, 10, none⟩ = some (.slice a.mem.A a.mem.n a.mem.c) ∧ w'.cell? ⟨n, 12, none⟩ = some (.int .i64 N.role) ∧ w'.cell? ⟨n, 13, none⟩ = some (.int .i64 N.lead) ∧ w'.cell? ⟨n, 14, none⟩ = some (.int .i64 N.com))
    (first | exact ⟨d3, d10, d12, d13, d14⟩ | exact Cs.out _ Hr3.out | exact Cs.out _ Hr4.out)
    (first
      | (go_at_call 36; refine KC.out.mono ?_; rintro e w3 ⟨s', rfl, hown3, hb3⟩; have Hown3 := Lib.hid hown3; have Hb23 := Lib.hid ((Below.refl w2.heap.size w2).drew.trans hb3); have Hg3 := Lib.hid (row_below Hg2.out Hb23.out); obtain ⟨w4, hst, hg4, ht4⟩ := st_row (T := 35) (new := #[.int .i64 N.te, .int .i64 N.role, .int .i64 N.lead, .int .i64 N.com, .int .i64 (N.si + (L : Int)), .slice s'.A s'.n s'.c]) Hg3.out rfl status_info (by simp [Value.oneCell']); rw [stSta_eq] at hst; have Hr3 := Lib.hid (H2.out.below Hb23.out).row; have Hr4 := Lib.hid (Hr3.out.turned ht4 hne); have Hg4 := Lib.hid hg4; have Ht4 := Lib.hid ht4; clear hown3 hb3 hg4 ht4))
  go_wp2
  refine bodyPost_ret (results_cell_row rfl _ _ w.heap.size 35 #[.int .i64 N.te, .int .i64 N.role, .int .i64 N.lead, .int .i64 N.com, .int .i64 (N.si + (L : Int)), .slice s'.A s'.n s'.c] (0, 0) _ rfl Hg4.out Tryz.underlying35 rfl status_info) rfl ⟨s', rfl, ?_, ?_⟩
  · have hs2 := Hb2.out.size
    refine own_base (Ht4.out.own Hown3.out fun k hk e => ?_) (Nat.le_trans hs2 (Nat.le_refl _))
    have := (Hown3.out.lt k hk).1
    have hs : w.heap.size < w2.heap.size := (Array.getElem?_eq_some_iff.1 Hg2.out).1
    have : w2.heap.size ≤ k := this
    omega
  · exact (Hb2.out.trans (Hb23.out.mono Hb2.out.size)).trans (Ht4.out.below (fun k e => by omega) (Nat.le_trans Hb2.out.size Hb23.out.size))
end
end Go.Proofs.YtdlgihgdpdiglaaGreat
end

section
namespace Go.Proofs.YtdlgihgdpdiglaaGreat
open Go.ChangeShapes Go.WideShapes Go.ChangeAt Go.RowKit
set_option linter.unusedVariables false

theorem NRestored_no (n : Nat) (c : Nc) (w : World) (h : NcAt w n c) (hr : c.rf = 0) (hu : c.unt = false) : Calls Tryz.prog 14 #[.pointer (some ⟨n, 0, none⟩)] w fun e w' => e = .returned (.tuple #[.slice none 0 0, .int .i64 0, .bool false]) ∧ w = w' := by
  have KD := Lib.hid (NDead n c w h)
  have hd : decide (c.rf ≠ 0) = false := by simp [hr]
  rw [hd] at KD
  have c16 := h.c16
  rw [hu] at c16
  clear h hd
  go_enter Tryz.func14, Tryz.ntmps14
  go_wp2_with (go_at_call 39; refine KD.out.mono ?_; rintro e w1 ⟨rfl, rfl⟩)
  go_ret3
  exact ⟨rfl, rfl⟩
theorem NPropose_no (n : Nat) (c : Nc) (A : Option Addr) (m d : Nat) (w : World) (h : NcAt w n c) (hr : ¬ (c.role = 2 ∧ c.rf = 0)) : Calls Tryz.prog 13 #[.pointer (some ⟨n, 0, none⟩), .slice A m d] w fun e w' => e = .returned (.tuple #[.int .i64 0, .int .i64 0, .int .i64 11]) ∧ w = w' := by
  have KD := Lib.hid (Nleads n c w h)
  rw [decide_eq_false hr] at KD
  clear h
  go_enter Tryz.func13, Tryz.ntmps13
  go_wp2_with (go_at_call 37; refine KD.out.mono ?_; rintro e w1 ⟨rfl, rfl⟩)
  go_ret3
  exact ⟨rfl, rfl⟩
theorem NChange_no (n : Nat) (c : Nc) (b : Bool) (x : Int) (w : World) (h : NcAt w n c) (hr : ¬ (c.role = 2 ∧ c.rf = 0)) : Calls Tryz.prog 16 #[.pointer (some ⟨n, 0, none⟩), .bool b, .int .i64 x] w fun e w' => e = .returned (.int .i64 11) ∧ w = w' := by
  have KD := Lib.hid (Nleads n c w h)
  rw [decide_eq_false hr] at KD
  clear h
  go_enter Tryz.func16, Tryz.ntmps16
  go_wp2_with (go_at_call 37; refine KD.out.mono ?_; rintro e w1 ⟨rfl, rfl⟩)
  go_ret
  exact ⟨rfl, rfl⟩

/-! ### Applied -/
/-- an entry with its index, as cells -/
def appC (p : Int × rl.Ent) : List Value := [.int .i64 p.1, .int .i64 p.2.t, .int .i64 p.2.k, .slice p.2.A p.2.n p.2.c]
def appsV (X : List (Int × rl.Ent)) : List Value := X.flatMap appC
theorem appsV_snoc (X : List (Int × rl.Ent)) (p : Int × rl.Ent) : appsV (X ++ [p]) = appsV X ++ appC p := by simp [appsV]
theorem appsV_length (X : List (Int × rl.Ent)) : (appsV X).length = X.length * 4 := by
  induction X with
  | nil => rfl
  | cons p r ih =>
    have : (appsV (p :: r)).length = 4 + (appsV r).length := by simp [appsV, appC]; omega
    rw [this, ih, List.length_cons]; omega
/-- entries behind i, numbered -/
def numbered : Int → List rl.Ent → List (Int × rl.Ent)
  | _, [] => []
  | i, e :: r => (i + 1, e) :: numbered (i + 1) r
theorem numbered_snoc : ∀ (i : Int) (Z : List rl.Ent) (e : rl.Ent), numbered i (Z ++ [e]) = numbered i Z ++ [(i + Z.length + 1, e)]
  | i, [], e => by simp [numbered]
  | i, f :: r, e => by
    rw [List.cons_append]
    show (i + 1, f) :: numbered (i + 1) (r ++ [e]) = _
    rw [numbered_snoc (i + 1) r e]
    simp only [numbered, List.length_cons, List.cons_append]
    congr 4
    omega
theorem numbered_length : ∀ (i : Int) (Z : List rl.Ent), (numbered i Z).length = Z.length
  | _, [] => rfl
  | i, _ :: r => by simp [numbered, numbered_length (i + 1) r]
theorem app_info : (Tryz.prog.info? 75).map (fun i => (i.zero, i.size, i.bytes)) = some (some (.agg #[.int .i64 0, .int .i64 0, .int .i64 0, .slice none 0 0]), 4, 48) := by kernel_rfl
/-- what Applied hands back: the entries z, told as behind i -/
def AppliedRet (B n : Nat) (a : Ad) (N : Nd) (z : List rl.Dat) (w : World) (e : Ending) (w' : World) : Prop :=
  ∃ (s : Sl) (Z : List rl.Ent), e = .returned s.v ∧ s.n = Z.length ∧ Z.map rl.Ent.dat = z ∧ w'.ownsRow w.heap.size 75 4 s.v s.n (appsV (numbered N.told Z)) ∧ (∀ e ∈ Z, rl.EntOk w' e) ∧
    IsA w' B n a { N with told := N.told + Z.length } ∧ Turned (fun k => k = n) w w'
theorem app_box (w : World) (p : Int × rl.Ent) : ∃ W, w.alloc (.cells #[.int .i64 p.1, .int .i64 p.2.t, .int .i64 p.2.k, .slice p.2.A p.2.n p.2.c] 75) = W ∧ Below w.heap.size w W ∧ W.heap[w.heap.size]? = some (.cells #[.int .i64 p.1, .int .i64 p.2.t, .int .i64 p.2.k, .slice p.2.A p.2.n p.2.c] 75 (0, 0)) :=
  ⟨_, rfl, (Below.refl _ _).alloc (Nat.le_refl _) _, heap_alloc_new _ _⟩
theorem setN_told (N : Nd) (a : Ad) (x : Int) : (ncells (N.c a)).setIfInBounds 15 (.int .i64 x) = ncells (({ N with told := x } : Nd).c a) := rfl
section
attribute [local go_sem ↓] rl.ldEnt_eq
set_option maxRecDepth 100000 in
set_option maxHeartbeats 2000000 in
theorem NApplied_of (B n cnt : Nat) (a : Ad) (N : Nd) (z : List rl.Dat) (w : World) (h : IsA w B n a N) (hr : N.rf = 0) (h1 : 0 ≤ N.told) (h3 : N.told ≤ 1099511627776) (h4 : 0 ≤ N.com) (h5 : N.com ≤ 1099511627776) (hc : cnt ≤ 100000)
    (KF : Calls Tryz.prog 44 #[.pointer (some ⟨a.l, 0, none⟩), .int .i64 (N.told + 1), .int .i64 (N.com - N.told)] w.drew (rl.FromRet cnt z w.drew)) :
    Calls Tryz.prog 17 #[.pointer (some ⟨n, 0, none⟩)] w (AppliedRet B n a N z w) := by
  have KD := Lib.hid (NDead n (N.c a) w h.row)
  have hd : decide ((N.c a).rf ≠ 0) = false := by simp [Nd.c, hr]
  rw [hd] at KD
  have c5 := h.row.c5; have c15 := h.row.c15; have c14 := h.row.c14
  unfold Nd.c at c5 c15 c14
  simp only at c5 c15 c14
  have w1' : IntKind.i64.wrap (N.told + 1) = N.told + 1 := rl.i64_add (by omega) (by omega)
  have w2' : IntKind.i64.wrap (N.com - N.told) = N.com - N.told := rl.i64_sub (by omega) (by omega)
  have KF := Lib.hid KF
  have H := Lib.hid h
  have Hto := Lib.hid (show 0 ≤ N.told ∧ N.told ≤ 1099511627776 from ⟨h1, h3⟩)
  have Hr := Lib.hid hr
  clear h hd h1 h3 h4 h5 hr
  go_enter Tryz.func17, Tryz.ntmps17
  go_wp2_with (go_at_call 39; refine KD.out.mono ?_; rintro e w1 ⟨rfl, rfl⟩)
  go_upto_region 4 with fail
  have Cs := Lib.hid (show ∀ w', NcAt w' n (N.c a) → (w'.cell? ⟨n, 5, none⟩ = some (.pointer (some ⟨a.l, 0, none⟩)) ∧ w'.cell? ⟨n, 15, none⟩ = some (.int .i64 N.told) ∧ w'.cell? ⟨n, 14, none⟩ = some (.int .i64 N.com)) from fun w' r => ⟨r.c5, r.c15, r.c14⟩)
  go_region_held3 (fun w' => w'.cell? ⟨n, 5, none⟩ = some (.pointer (some ⟨a.l, 0, none⟩)) ∧ w'.cell? ⟨n, 15, none⟩ = some (.int .i64 N.told) ∧ w'.cell? ⟨n, 14, none⟩ = some (.int .i64 N.com))
    (first | exact ⟨c5, c15, c14⟩ | exact Cs.out _ Hr2.out)
    (first
      | (go_at_call 44; refine KF.out.mono ?_; rintro e w2 ⟨A, cc, Z, rfl, hown, hok, hz, hb⟩; have Hr2 := Lib.hid (H.out.below ((Below.refl w.heap.size w).drew.trans hb)).row))
  have hb2 : Below w.heap.size w w2 := (Below.refl w.heap.size w).drew.trans hb
  have Hown := Lib.hid (show w2.ownsRow w.heap.size 73 3 (.slice A cnt cc) cnt (rl.entsV Z) from hown)
  have Hok := Lib.hid hok; have Hz := Lib.hid hz; have Hb2 := Lib.hid hb2
  have hZl : Z.length = cnt := by have := hown.1; rw [rl.entsV_length] at this; omega
  have HZ := Lib.hid hZl
  clear hown hok hz hb hb2 hZl c5 c15 c14 w1' w2' Hr2
  go_wp2
  go_loopw [28, 3] (fun iv lv wr => ∃ (j : Nat) (LA : Option Addr) (lc : Nat), j ≤ cnt ∧ iv = .int .i64 (j : Int) ∧ lv = .slice LA j lc ∧ wr.ownsRow w.heap.size 75 4 (.slice LA j lc) j (appsV (numbered N.told (Z.take j))) ∧ IsA wr B n a { N with told := N.told + j } ∧ wr.ownsRow w.heap.size 73 3 (.slice A cnt cc) cnt (rl.entsV Z) ∧ (∀ e ∈ Z, rl.EntOk wr e) ∧ Turned (fun k => k = n) w wr) (fun iv _ _ => cnt - (intOf iv).toNat)
  case atStart =>
    have h2 := H.out.below Hb2.out
    refine ⟨0, none, 0, by omega, rfl, rfl, by rw [List.take_zero]; exact World.ownsRow_nil _ _ _ _, ?_, Hown.out, Hok.out, Turned.of_below Hb2.out⟩
    have e : N.told + ((0 : Nat) : Int) = N.told := by omega
    rw [e]
    exact h2
  case round =>
    obtain ⟨j, LA, lc, hj, rfl, rfl, hlist, hN, hent, hok, ht⟩ := hrel
    have Hlist := Lib.hid hlist; have HN := Lib.hid hN; have Hent := Lib.hid hent; have Hok := Lib.hid hok; have Ht := Lib.hid ht
    clear hlist hN hent hok ht
    obtain ⟨T, hT⟩ : ∃ T, N.told + (j : Int) = T := ⟨_, rfl⟩
    have HT := Lib.hid hT
    rw [hT] at HN
    have hTb : 0 ≤ T ∧ T ≤ 1099511727776 := by have := Hto.out; omega
    clear hT
    by_cases hlt : j < cnt
    · obtain ⟨e, he⟩ : ∃ e, Z[j]? = some e := ⟨_, List.getElem?_eq_getElem (by have := HZ.out; omega)⟩
      have hsee := rl.own_seen Hent.out
      obtain ⟨gx, ox, rfl, l0, l1, l2⟩ := hsee.ent he
      have hld0 := rl.ldEnt_run l0 l1 l2
      have hok := Hok.out e (List.mem_of_getElem? he)
      have hcap := rl.own_capM Hent.out
      have k0 : (0 : Int) ≤ (j : Int) := by omega
      have k1 : (j : Int) < (cnt : Int) := by omega
      obtain ⟨W, hW, hbW, hxW⟩ := rl.ent_box wr e
      have HNW := Lib.hid (HN.out.below hbW)
      have c15 := HNW.out.row.c15
      have z15 := HNW.out.row.fr 15
      unfold Nd.c at c15
      simp only at c15
      have hwt : IntKind.i64.wrap (T + 1) = T + 1 := rl.i64_add (by omega) (by omega)
      have He := Lib.hid he; have Hok1 := Lib.hid hok; have HxW := Lib.hid hxW; have HbW := Lib.hid hbW
      have Hwl := Lib.hid (show wr.heap.size < W.heap.size from (Array.getElem?_eq_some_iff.1 hxW).1)
      clear hsee l0 l1 l2 he hok hxW hbW
      go_upto_region 8 with fail
      change Code.wp _ _ _ _ (W.setCell ⟨n, 15, none⟩ (.int .i64 (T + 1)))
      have hw2 : WroteN n (({ N with told := T + 1 } : Nd).c a) W (W.setCell ⟨n, 15, none⟩ (.int .i64 (T + 1))) := (WroteN.refl HNW.out.row).set 15 _ rfl
      have hN2 : IsA (W.setCell ⟨n, 15, none⟩ (.int .i64 (T + 1))) B n a { N with told := T + 1 } := HNW.out.wrote hw2 ⟨HNW.out.parts.vault, HNW.out.parts.log, HNW.out.parts.sm, HNW.out.parts.mem, HNW.out.parts.votes, HNW.out.parts.sslen, HNW.out.parts.ss, HNW.out.parts.peers⟩
      obtain ⟨V, hV⟩ : ∃ V, W.setCell ⟨n, 15, none⟩ (.int .i64 (T + 1)) = V := ⟨_, rfl⟩
      rw [hV] at hw2 hN2 ⊢
      have hnwr : n < wr.heap.size := HN.out.row.lt
      have hxV : V.heap[wr.heap.size]? = some (.cells #[.int .i64 e.t, .int .i64 e.k, .slice e.A e.n e.c] 73 (0, 0)) := hw2.2.heap HxW.out (by omega)
      have hxd : V.drew.heap[wr.heap.size]? = some (.cells #[.int .i64 e.t, .int .i64 e.k, .slice e.A e.n e.c] 73 (0, 0)) := hxV
      have hld := rl.ldEnt_run (e := e) (row_cell hxd 0) (row_cell hxd 1) (row_cell hxd 2)
      have d15 : V.drew.cell? ⟨n, 15, none⟩ = some (.int .i64 (T + 1)) := hN2.row.c15
      have htV : Turned (fun k => k = n) wr V := turned_step (Turned.of_below HbW.out) hw2.2 fun _ _ e => e
      have hlist : V.drew.ownsRow w.heap.size 75 4 (.slice LA j lc) j (appsV (numbered N.told (Z.take j))) := rl.own_belowM (rl.own_turnedM htV Hlist.out (fun k hk e => by
        have h1 := (Hlist.out.lt k hk).1
        have h2 := H.out.row.lt
        omega)) (Below.refl _ _).drew
      obtain ⟨W6, hW6, hb6, hx6⟩ := app_box V.drew (T + 1, e)
      simp only at hW6 hx6
      have hlist6 := rl.own_belowM hlist hb6
      have Hlist6 := Lib.hid hlist6; have Hx6 := Lib.hid hx6; have Hb6 := Lib.hid hb6; have HtV := Lib.hid htV; have HN2 := Lib.hid hN2
      have Hsee6 := Lib.hid (show Seen W6 (some ⟨V.drew.heap.size, 0, none⟩) (appC (T + 1, e)) from Seen.of_cells hx6)
      have Hsz := Lib.hid (show w.heap.size ≤ W6.heap.size from Nat.le_trans (Nat.le_trans Ht.out.size htV.size) hb6.size)
      clear hw2 hN2 hV hxV hxd hlist hlist6 hx6 hb6 htV hld0 c15 z15 hW hwt
      go_region_law (first
        | (refine rl.step_app3 (by rfl) (.tmp 39) (.tmp 46) _ (by rfl) 75 _ 4 48 Tryz.underlying44 app_info rfl (by omega) w.heap.size LA j lc (appsV (numbered N.told (Z.take j))) (by rfl) Hlist6.out V.drew.heap.size 0 1 1 (appC (T + 1, e)) (by rfl) rfl Hsee6.out (by simp [appC, Value.oneCell']) (by unfold maxLen; omega) (by omega) Hsz.out ?_; intro A7 c7 w7 hown7 hg7 hk7; have Hown7 := Lib.hid hown7; have Hg7 := Lib.hid hg7; clear hown7 hg7 hk7))
      all_goals
        go_wp2
        go_roundw
        case rel =>
          have t7 := Turned.of_grown (p := fun k => (Value.slice LA j lc).ownBlock = some k) Hg7.out (fun k e => e)
          have hp7 : ∀ k, (Value.slice LA j lc).ownBlock = some k → w.heap.size ≤ k ∧ ∃ cs, W6.heap[k]? = some (.cells cs 75 (0, 0)) := fun k hk => ⟨(Hlist6.out.lt k hk).1, rl.row_blockM Hlist6.out hk⟩
          have hno : ∀ (T0 : TypeId), T0 ≠ 75 → ∀ k cs fr, (Value.slice LA j lc).ownBlock = some k → W6.heap[k]? ≠ some (.cells cs T0 fr) := fun T0 hT0 k cs fr hk e => by
            obtain ⟨_, cs', h2⟩ := hp7 k hk
            rw [h2] at e
            injection e with e
            injection e with _ e _
            exact hT0 e.symm
          have b26 : Below V.heap.size V W6 := (Below.refl V.heap.size V).drew.trans Hb6.out
          have b06 : Turned (fun k => k = n) wr W6 := turned_step HtV.out (Turned.of_below (p := fun _ => False) b26) fun _ _ e => e.elim
          have hN6 := HN2.out.below b26
          have hN7 : IsA w7 B n a { N with told := T + 1 } := hN6.turned t7 (fun k hk e => by
            obtain ⟨_, cs, h2⟩ := hp7 k e
            rcases hk with rfl | hk
            · have hr := hN6.row
              unfold NcAt at hr
              rw [hr] at h2
              injection h2 with h2
              injection h2 with _ h2 _
              exact absurd h2 (by decide)
            · exact hN6.parts.type h2 (by unfold TouchT; decide) hk) (hno _ (by decide)) (hno _ (by decide))
          have hent6 : W6.ownsRow w.heap.size 73 3 (.slice (some ⟨gx, ox, none⟩) cnt cc) cnt (rl.entsV Z) := rl.own_turnedM b06 Hent.out fun k hk e => by
            have h1 := (Hent.out.lt k hk).1
            have h2 := H.out.row.lt
            omega
          have hent7 := rl.own_turnedM t7 hent6 fun k hk e => by
            obtain ⟨cs, h1⟩ := rl.row_blockM hent6 hk
            exact hno _ (by decide) k cs _ e h1
          have hnr := HN.out.noBytes
          have hok7 : ∀ e ∈ Z, rl.EntOk w7 e := fun e he => (((Hok.out e he).turned b06 (fun k cs fr hk => hnr k cs fr (.inl hk))).turned t7 (hno _ (by decide)))
          have hsn : Z.take (j + 1) = Z.take j ++ [e] := by
            obtain ⟨hl, hv⟩ := List.getElem?_eq_some_iff.1 He.out
            rw [List.take_succ_eq_append_getElem hl, hv]
          have hlen : (Z.take j).length = j := by rw [List.length_take]; have := HZ.out; omega
          refine ⟨j + 1, A7, c7, by omega, by go_num, rfl, ?_, ?_, hent7, hok7, ?_⟩
          · rw [hsn, numbered_snoc, hlen, appsV_snoc, HT.out]
            exact Hown7.out
          · have e1 : N.told + ((j + 1 : Nat) : Int) = T + 1 := by have := HT.out; omega
            rw [e1]
            exact hN7
          · exact turned_step (turned_step Ht.out b06 fun _ _ e => e) t7 fun k hk e => by
              have := (hp7 k e).1
              omega
        case measure => simp [intOf]; omega
    · obtain rfl : j = cnt := by omega
      have k1 : ¬ (j : Int) < (j : Int) := by omega
      go_wp2
      go_ret
      have hall : Z.take j = Z := List.take_of_length_le (by have := HZ.out; omega)
      have hl := Hlist.out
      rw [hall] at hl
      refine ⟨⟨LA, j, lc⟩, Z, rfl, HZ.out.symm, Hz.out, hl, Hok.out, ?_, Ht.out⟩
      rw [HZ.out, HT.out]
      exact HN.out
end
end Go.Proofs.YtdlgihgdpdiglaaGreat
end
