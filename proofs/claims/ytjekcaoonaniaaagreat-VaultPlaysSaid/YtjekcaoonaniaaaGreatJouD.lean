/-
  A journal in memory (IsJ), which blocks its methods may turn (MovedJ), and contracts of Room and die.
-/
import Derived.Test.YtjekcaoonaniaaaGreatSecW
import Derived.Test.YtjekcaoonaniaaaGreatSecS
import Derived.Test.YtjekcaoonaniaaaGreatJouRun
import Derived.Deep.QuietTactic
import Derived.BigQuiet
namespace Go.Proofs.YtjekcaoonaniaaaGreat
open Go.ChangeShapes Go.WideShapes Go.ChangeAt Go.RowKit
set_option linter.unusedVariables false

/-- a journal at j over a device at g, what isn't whole as yet in a row q of its own -/
def IsJ (w : World) (B g s : Nat) (r : Option Nat) (j : Nat) (q : Option Nat) (J : Jn) : Prop :=
  J.Ok ∧ IsD w B g s r J.d ∧ B ≤ j ∧ j ≠ g ∧ j ≠ s ∧ r ≠ some j ∧ q ≠ some j ∧ q ≠ some g ∧ q ≠ some s ∧ (∀ k, q = some k → r ≠ some k) ∧
  ∃ A c, w.heap[j]? = some (.cells #[.pointer (some ⟨g, 0, none⟩), .int .i64 (J.gen : Int), .int .i64 (J.k : Int), .int .i64 (J.next : Int), .int .i64 (J.fin : Int), .slice A J.L.length c, .bool J.dead] 115 (0, 0)) ∧
    w.ownsRow B 117 65 (.slice A J.L.length c) J.L.length (wcells J.L) ∧ (Value.slice A J.L.length c).ownBlock = q
/-- the blocks of a journal and its device -/
def FootJ (g s : Nat) (r : Option Nat) (j : Nat) (q : Option Nat) (k : Nat) : Prop := k = g ∨ k = s ∨ k = j ∨ r = some k ∨ q = some k
/-- only these may have turned; the rows are the old ones, or new -/
def MovedJ (B g s : Nat) (r : Option Nat) (j : Nat) (q : Option Nat) (J : Jn) (w w' : World) : Prop :=
  ∃ r' q', IsJ w' B g s r' j q' J ∧ (∀ k, r' = some k → r = some k ∨ w.heap.size ≤ k) ∧ (∀ k, q' = some k → q = some k ∨ w.heap.size ≤ k) ∧ Turned (FootJ g s r j q) w w'

theorem IsJ.lt {w : World} {B g s : Nat} {r : Option Nat} {j : Nat} {q : Option Nat} {J : Jn} (h : IsJ w B g s r j q J) : ∀ k, FootJ g s r j q k → B ≤ k ∧ k < w.heap.size := by
  obtain ⟨_, hd, hB, _, _, _, _, _, _, _, A, c, hh, hown, hq⟩ := h
  have hl := hd.lt
  rintro k (rfl | rfl | rfl | e | e)
  · exact ⟨hl.2.2.1, hl.1⟩
  · exact ⟨hl.2.2.2.1, hl.2.1⟩
  · exact ⟨hB, (Array.getElem?_eq_some_iff.1 hh).1⟩
  · exact hl.2.2.2.2 k e
  · rw [← hq] at e
    exact hown.lt k e
theorem IsJ.dev {w : World} {B g s : Nat} {r : Option Nat} {j : Nat} {q : Option Nat} {J : Jn} (h : IsJ w B g s r j q J) : IsD w B g s r J.d := h.2.1
theorem IsJ.ok {w : World} {B g s : Nat} {r : Option Nat} {j : Nat} {q : Option Nat} {J : Jn} (h : IsJ w B g s r j q J) : J.Ok := h.1
theorem MovedJ.refl {w : World} {B g s : Nat} {r : Option Nat} {j : Nat} {q : Option Nat} {J : Jn} (h : IsJ w B g s r j q J) : MovedJ B g s r j q J w w := ⟨r, q, h, fun k e => .inl e, fun k e => .inl e, .refl _ _⟩
theorem MovedJ.step {w w1 w2 : World} {B g s : Nat} {r r1 : Option Nat} {j : Nat} {q q1 : Option Nat} {J : Jn} (h1 : ∀ k, r1 = some k → r = some k ∨ w.heap.size ≤ k) (h2 : ∀ k, q1 = some k → q = some k ∨ w.heap.size ≤ k) (h3 : Turned (FootJ g s r j q) w w1) (k : MovedJ B g s r1 j q1 J w1 w2) : MovedJ B g s r j q J w w2 := by
  obtain ⟨r2, q2, k1, k2, k3, k4⟩ := k
  refine ⟨r2, q2, k1, fun i hi => ?_, fun i hi => ?_, h3.trans k4 (fun _ e => e) fun i hi e => ?_⟩
  · rcases k2 i hi with e | e
    · exact h1 i e
    · exact .inr (Nat.le_trans h3.size e)
  · rcases k3 i hi with e | e
    · exact h2 i e
    · exact .inr (Nat.le_trans h3.size e)
  · rcases e with e | e | e | e | e
    · exact .inl e
    · exact .inr (.inl e)
    · exact .inr (.inr (.inl e))
    · rcases h1 i e with e | e
      · exact .inr (.inr (.inr (.inl e)))
      · omega
    · rcases h2 i e with e | e
      · exact .inr (.inr (.inr (.inr e)))
      · omega
theorem MovedJ.trans {w w1 w2 : World} {B g s : Nat} {r : Option Nat} {j : Nat} {q : Option Nat} {J J2 : Jn} (h : MovedJ B g s r j q J w w1) (k : ∀ r1 q1, IsJ w1 B g s r1 j q1 J → MovedJ B g s r1 j q1 J2 w1 w2) : MovedJ B g s r j q J2 w w2 := by
  obtain ⟨r1, q1, h1, h2, h3, h4⟩ := h
  exact MovedJ.step h2 h3 h4 (k r1 q1 h1)
theorem MovedJ.below {w w' : World} {B g s : Nat} {r : Option Nat} {j : Nat} {q : Option Nat} {J J2 : Jn} (h0 : IsJ w B g s r j q J) (h : MovedJ B g s r j q J2 w w') (hB : B ≤ w.heap.size) : Below B w w' := by
  obtain ⟨r1, q1, h1, h2, h3, h4⟩ := h
  exact h4.below (fun k hk => (h0.lt k hk).1) hB
/-- what turns none of its blocks leaves it -/
theorem IsJ.turned {p : Nat → Prop} {w w' : World} {B g s : Nat} {r : Option Nat} {j : Nat} {q : Option Nat} {J : Jn} (h : IsJ w B g s r j q J) (ht : Turned p w w') (hp : ∀ k, FootJ g s r j q k → ¬ p k) : IsJ w' B g s r j q J := by
  obtain ⟨h1, hd, hB, h2, h3, h4, h5, h6, h7, h8, A, c, hh, hown, hq⟩ := h
  obtain ⟨d1, d2, d3, d4, d5, d6, d7, A', c', d8, d9, d10⟩ := hd
  refine ⟨h1, ⟨d1, d2, d3, d4, d5, d6, ht.heap d7 (hp s (.inr (.inl rfl))), A', c', ht.heap d8 (hp g (.inl rfl)), own65_turned ht d9 (fun k hk => hp k (.inr (.inr (.inr (.inl (by rw [← d10]; exact hk)))))), d10⟩,
    hB, h2, h3, h4, h5, h6, h7, h8, A, c, ht.heap hh (hp j (.inr (.inr (.inl rfl)))), own65_turned ht hown (fun k hk => hp k (.inr (.inr (.inr (.inr (by rw [← hq]; exact hk)))))), hq⟩
theorem IsJ.below {w w' : World} {B g s : Nat} {r : Option Nat} {j : Nat} {q : Option Nat} {J : Jn} (h : IsJ w B g s r j q J) (hb : Below w.heap.size w w') : IsJ w' B g s r j q J := h.turned (p := fun _ => False) (.of_below hb) (fun _ _ e => e)
/-- the device has moved -/
theorem IsJ.moved {w w' : World} {B g s : Nat} {r : Option Nat} {j : Nat} {q : Option Nat} {J : Jn} {d2 : Dv} (h : IsJ w B g s r j q J) (hm : MovedD B g s r d2 w w') (hn : d2.n = J.d.n) : MovedJ B g s r j q { J with d := d2 } w w' := by
  have hlt := h.lt
  obtain ⟨h1, hd, hB, h2, h3, h4, h5, h6, h7, h8, A, c, hh, hown, hq⟩ := h
  obtain ⟨r', k1, k2, k3⟩ := hm
  have hj : ¬ (j = g ∨ j = s ∨ r = some j) := by
    rintro (e | e | e)
    · exact h2 e
    · exact h3 e
    · exact h4 e
  have hqn : ∀ k, (Value.slice A J.L.length c).ownBlock = some k → ¬ (k = g ∨ k = s ∨ r = some k) := fun k hk => by
    rw [hq] at hk
    rintro (e | e | e)
    · exact h6 (by rw [hk, e])
    · exact h7 (by rw [hk, e])
    · exact h8 k hk e
  refine ⟨r', q, ⟨⟨k1.1, h1.gen, h1.k, h1.next, by show J.fin ≤ d2.n; rw [hn]; exact h1.fin, fun p hp => by show p.1 < d2.n ∧ _; rw [hn]; exact h1.L p hp, h1.l⟩, k1, hB, h2, h3, fun e => ?_, h5, h6, h7, fun k hk e => ?_, A, c, k3.heap hh hj, own65_turned k3 hown hqn, hq⟩, k2, fun k e => .inl e, k3.mono fun k _ e => ?_⟩
  · rcases k2 j e with e | e
    · exact h4 e
    · have := (hlt j (.inr (.inr (.inl rfl)))).2; omega
  · rcases k2 k e with e | e
    · exact h8 k hk e
    · have := (hlt k (.inr (.inr (.inr (.inr hk))))).2; omega
  · rcases e with e | e | e
    · exact .inl e
    · exact .inr (.inl e)
    · exact .inr (.inr (.inr (.inl e)))

theorem Room_any (B g s : Nat) (r : Option Nat) (j : Nat) (q : Option Nat) (J : Jn) (w : World) (h : IsJ w B g s r j q J) :
    Calls Tryz.prog 65 #[.pointer (some ⟨j, 0, none⟩)] w fun e w' => e = .returned (.int .i64 ((J.fin - J.next : Nat) : Int)) ∧ Below w.heap.size w w' := by
  obtain ⟨h1, hd, _, _, _, _, _, _, _, _, A, c, hh, _, _⟩ := h
  have c4 : w.cell? ⟨j, 4, none⟩ = some (.int .i64 (J.fin : Int)) := row_cell hh 4
  have c3 : w.cell? ⟨j, 3, none⟩ = some (.int .i64 (J.next : Int)) := row_cell hh 3
  have b1 := h1.next
  have b2 := h1.fin
  have b3 := hd.1.n
  have e : ((J.fin - J.next : Nat) : Int) = (J.fin : Int) - (J.next : Int) := by omega
  rw [e]
  clear hd hh e h1
  go_enter Tryz.func65, Tryz.ntmps65
  go_wp2
  go_quiet (fail)
  go_wp2
  go_ret
  exact ⟨rfl, below_drewN (Below.refl _ _) _⟩

theorem die_any (B g s : Nat) (r : Option Nat) (j : Nat) (q : Option Nat) (J : Jn) (x : Nat) (w : World) (h : IsJ w B g s r j q J) (hx : x ≤ 1000) :
    Calls Tryz.prog 66 #[.pointer (some ⟨j, 0, none⟩), .int .i64 (x : Int)] w fun e w' => e = .returned (.int .i64 (x : Int)) ∧ MovedJ B g s r j q (J.died J.d) w w' := by
  have H := Lib.hid h
  obtain ⟨h1, hd, hB, h2, h3, h4, h5, h6, h7, h8, A, c, hh, hown, hq⟩ := h
  have c6 : w.cell? ⟨j, 6, none⟩ = some (.bool J.dead) := row_cell hh 6
  have c5 : w.cell? ⟨j, 5, none⟩ = some (.slice A J.L.length c) := row_cell hh 5
  have f6 := row_frozen hh 6
  have f5 := row_frozen hh 5
  have hf : ∀ u, (w.setCell ⟨j, 6, none⟩ u).frozen? ⟨j, 5, none⟩ = false := fun u => by rw [World.frozen?_setCell]; exact f5
  have hc : ∀ u, (w.setCell ⟨j, 6, none⟩ u).cell? ⟨j, 5, none⟩ = some (.slice A J.L.length c) := fun u => by rw [World.cell?_setCell_other _ _ _ _ (by simp)]; exact c5
  have Hh := Lib.hid hh; clear hh h1 hd hown hq h2 h3 h4 h5 h6 h7 h8
  go_enter Tryz.func66, Tryz.ntmps66
  go_wp2
  go_ret
  refine ⟨rfl, ?_⟩
  have ht : Turned (fun k => k = j) w ((w.setCell ⟨j, 6, none⟩ (.bool true)).setCell ⟨j, 5, none⟩ (.slice none 0 0)) := ((Turned.refl (fun k => k = j) w).setCell (b := ⟨j, 6, none⟩) (fun _ => rfl) _).setCell (b := ⟨j, 5, none⟩) (fun _ => rfl) _
  obtain ⟨h1, hd, hB, h2, h3, h4, h5, h6, h7, h8, A, c, hh, hown, hq⟩ := H.out
  have hd' : IsD ((w.setCell ⟨j, 6, none⟩ (.bool true)).setCell ⟨j, 5, none⟩ (.slice none 0 0)) B g s r J.d := by
    obtain ⟨d1, d2, d3, d4, d5, d6, d7, A', c', d8, d9, d10⟩ := hd
    exact ⟨d1, d2, d3, d4, d5, d6, ht.heap d7 (fun e => h3 e.symm), A', c', ht.heap d8 (fun e => h2 e.symm), own65_turned ht d9 (fun k hk e => h4 (by rw [← d10, hk, e])), d10⟩
  refine ⟨r, none, ⟨⟨h1.d, h1.gen, h1.k, h1.next, h1.fin, fun p hp => (by cases hp), Nat.zero_le _⟩, hd', hB, h2, h3, h4, by simp, by simp, by simp, fun k e => (by cases e), none, 0, ?_, World.ownsRow_nil _ _ _ _, rfl⟩, fun k e => .inl e, fun k e => (by cases e), ht.mono fun k _ e => .inr (.inr (.inl e))⟩
  rw [row_set (row_set Hh.out _ _)]
  rfl
end Go.Proofs.YtjekcaoonaniaaaGreat
