/-
  Contracts of (*rlog.Log).Match where it says no, and the term at an index. Conditions: a log in memory.
-/
import Derived.Test.YtigjkmlhpefafaaRlgAgr
import Derived.Test.YtigjkmlhpefafaaRlgDel
namespace Go.Proofs.Ytigjkmlhpefafaa
open Go.ChangeShapes Go.WideShapes Go.ChangeAt Go.RowKit
set_option linter.unusedVariables false

theorem GrewL.step {w w1 w2 : World} {B g : Nat} {q q1 : Option Nat} {base term : Int} {y : List Dat} (h2 : ∀ k, q1 = some k → q = some k ∨ w.heap.size ≤ k) (h3 : Turned (FootL g q) w w1) (k : GrewL B g q1 base term y w1 w2) : GrewL B g q base term y w w2 := by
  obtain ⟨q2, k1, k2, k3⟩ := k
  refine ⟨q2, k1, fun i hi => ?_, h3.trans k3 (fun _ e => e) fun i hi e => ?_⟩
  · rcases k2 i hi with e | e
    · exact h2 i e
    · exact .inr (Nat.le_trans h3.size e)
  · rcases e with e | e
    · exact .inl e
    · rcases h2 i e with e | e
      · exact .inr e
      · omega

/-- the term of the base (0), or of the entry that stands at place (from 1 on) -/
def termN (term : Int) (x : List Dat) : Nat → Int
  | 0 => term
  | j + 1 => match x[j]? with
    | none => 0
    | some d => d.1
theorem Term_at (B g p : Nat) (q : Option Nat) (base term prev : Int) (X : List Ent) (w : World) (h : LogAt w B g q base term X) (h0 : 0 ≤ base) (hp : p ≤ X.length) (hi : prev = base + p) (h3 : prev ≤ 9223372036854775807) (hl : X.length ≤ 1000000) :
    Calls Try.prog 17 #[.pointer (some ⟨g, 0, none⟩), .int .i64 prev] w fun e w' => e = .returned (.tuple #[.int .i64 (termN term (X.map Ent.dat) p), .bool true]) ∧ Below w.heap.size w w' := by
  match p, hp, hi with
  | 0, hp, hi =>
    have hi : prev = base := by omega
    subst hi
    exact Term_base B g q prev term X w h
  | j + 1, hp, hi =>
    have hx : X[j]? = some X[j] := List.getElem?_eq_getElem (by omega)
    have := Term_in B g j q base term prev X X[j] w h h0 hx (by omega) h3 hl
    simpa [termN, List.getElem?_map, hx, Ent.dat] using this
theorem lastT_eq (term : Int) (X : List Ent) : lastT term X = termN term (X.map Ent.dat) X.length := by
  unfold lastT
  rcases hl : X.length with _ | m
  · rw [List.length_eq_zero_iff.1 hl]
    rfl
  · have hx : X[m]? = some X[m] := List.getElem?_eq_getElem (by omega)
    rw [List.getLast?_eq_getElem?, hl, Nat.add_sub_cancel, hx]
    simp [termN, List.getElem?_map, hx, Ent.dat]

set_option maxRecDepth 100000 in
theorem Match_none (B g n m : Nat) (q : Option Nat) (base term prev t : Int) (X : List Ent) (C : Option Addr) (d : Nat) (w : World) (h : LogAt w B g q base term X) (hn : X.length = n) (h0 : 0 ≤ base) (hi : prev < base ∨ base + n < prev) (h3 : prev ≤ 9223372036854775807) :
    Calls Try.prog 14 #[.pointer (some ⟨g, 0, none⟩), .int .i64 prev, .int .i64 t, .slice C m d] w fun e w' => e = .returned (.tuple #[.int .i64 0, .bool false]) ∧ Below w.heap.size w w' := by
  have HT := Lib.hid (Term_no B g n q base term prev X w h hn h0 hi h3)
  clear h hn h0 hi h3
  go_enter Try.func14, Try.ntmps14
  go_wp2_with (go_at_call 17; refine HT.out.mono ?_; rintro e w1 ⟨rfl, hb1⟩; have Hb1 := Lib.hid hb1; clear hb1)
  go_ret2
  exact ⟨rfl, Hb1.out⟩
set_option maxRecDepth 100000 in
theorem Match_other (B g p m : Nat) (q : Option Nat) (base term prev t : Int) (X : List Ent) (C : Option Addr) (d : Nat) (w : World) (h : LogAt w B g q base term X) (h0 : 0 ≤ base) (hp : p ≤ X.length) (hi : prev = base + p) (h3 : prev ≤ 9223372036854775807) (hl : X.length ≤ 1000000) (ht : t ≠ termN term (X.map Ent.dat) p) :
    Calls Try.prog 14 #[.pointer (some ⟨g, 0, none⟩), .int .i64 prev, .int .i64 t, .slice C m d] w fun e w' => e = .returned (.tuple #[.int .i64 0, .bool false]) ∧ Below w.heap.size w w' := by
  have HT := Lib.hid (Term_at B g p q base term prev X w h h0 hp hi h3 hl)
  obtain ⟨t0, ht0⟩ : ∃ t0, termN term (X.map Ent.dat) p = t0 := ⟨_, rfl⟩
  rw [ht0] at HT ht
  have hne : (t0 != t) = true := by simp; omega
  clear h h0 hi h3 ht0 ht
  go_enter Try.func14, Try.ntmps14
  go_wp2_with (go_at_call 17; refine HT.out.mono ?_; rintro e w1 ⟨rfl, hb1⟩; have Hb1 := Lib.hid hb1; clear hb1)
  go_ret2
  exact ⟨rfl, Hb1.out⟩
end Go.Proofs.Ytigjkmlhpefafaa
