/-
  Contracts of rlog's Term, Last, next, clone. Conditions: a log in memory.
-/
import Derived.Test.YtigjkmlhpefafaaRlgFn
namespace Go.Proofs.Ytigjkmlhpefafaa
open Go.ChangeShapes Go.WideShapes Go.ChangeAt Go.RowKit
set_option linter.unusedVariables false

theorem i64_sub {a b : Int} (h1 : -9223372036854775808 ≤ a - b) (h2 : a - b ≤ 9223372036854775807) : IntKind.i64.wrap (a - b) = a - b := by unfold IntKind.wrap; simp [IntKind.signed, IntKind.bits]; omega
theorem i64_add {a b : Int} (h1 : -9223372036854775808 ≤ a + b) (h2 : a + b ≤ 9223372036854775807) : IntKind.i64.wrap (a + b) = a + b := by unfold IntKind.wrap; simp [IntKind.signed, IntKind.bits]; omega

set_option maxRecDepth 100000 in
theorem Term_base (B g : Nat) (q : Option Nat) (base term : Int) (X : List Ent) (w : World) (h : LogAt w B g q base term X) :
    Calls Try.prog 17 #[.pointer (some ⟨g, 0, none⟩), .int .i64 base] w fun e w' => e = .returned (.tuple #[.int .i64 term, .bool true]) ∧ Below w.heap.size w w' := by
  obtain ⟨A, c, a0, a1, a2, _⟩ := h.cells
  clear h
  go_enter Try.func17, Try.ntmps17
  go_wp2
  go_ret2
  exact ⟨rfl, Below.refl _ _⟩
set_option maxRecDepth 100000 in
theorem Term_in (B g k : Nat) (q : Option Nat) (base term i : Int) (X : List Ent) (p : Ent) (w : World) (h : LogAt w B g q base term X) (h0 : 0 ≤ base) (hk : X[k]? = some p) (hi : i = base + k + 1) (h3 : i ≤ 9223372036854775807) (hl : X.length ≤ 1000000) :
    Calls Try.prog 17 #[.pointer (some ⟨g, 0, none⟩), .int .i64 i] w fun e w' => e = .returned (.tuple #[.int .i64 p.t, .bool true]) ∧ Below w.heap.size w w' := by
  have hkl := (List.getElem?_eq_some_iff.1 hk).1
  obtain ⟨n, hn⟩ : ∃ n, X.length = n := ⟨_, rfl⟩
  have hH := has_yes B g n q base term i X w h hn h0 (by omega) (by omega) h3
  have HH := Lib.hid hH
  have H := Lib.hid h
  have Hk := Lib.hid hk
  have hne : (i == base) = false := by simp; omega
  rw [hn] at hkl
  have Hn := Lib.hid hn
  clear hH h hk hn hl
  have hsub : i - base = (k : Int) + 1 := by omega
  have hi2 : base ≤ i := by omega
  have hi4 : base + k + 1 ≤ 9223372036854775807 := by omega
  have Hsub := Lib.hid hsub
  clear hi hsub
  go_enter Try.func17, Try.ntmps17
  obtain ⟨A0, c0, b0, _⟩ := H.out.cells
  go_upto_region 4 with (go_at_call 18; refine HH.out.mono ?_; rintro e w1 ⟨rfl, hb1⟩; have Hb1 := Lib.hid hb1; clear hb1)
  obtain ⟨A, c, a0, a1, a2, hs⟩ := (H.out.below Hb1.out).cells
  obtain ⟨gA, o, rfl, c0', _, _⟩ := hs.ent Hk.out
  rw [Hn.out] at a2
  have w1' : IntKind.i64.wrap (i - base) = (k : Int) + 1 := by rw [i64_sub (by omega) (by omega)]; exact Hsub.out
  have w2' : IntKind.i64.wrap (k : Int) = (k : Int) := by have := i64_add (a := (k : Int)) (b := 0) (by omega) (by omega); simpa using this
  have k0 : (0 : Int) ≤ (k : Int) := by omega
  have k1 : (k : Int) < (n : Int) := by omega
  clear hs hne b0 hi2 hi4 h3 hkl h0
  go_quiet (fail)
  go_wp2
  go_ret2
  exact ⟨rfl, below_drewN Hb1.out _⟩
set_option maxRecDepth 100000 in
theorem Term_no (B g n : Nat) (q : Option Nat) (base term i : Int) (X : List Ent) (w : World) (h : LogAt w B g q base term X) (hn : X.length = n) (h0 : 0 ≤ base) (hi : i < base ∨ base + n < i) (h3 : i ≤ 9223372036854775807) :
    Calls Try.prog 17 #[.pointer (some ⟨g, 0, none⟩), .int .i64 i] w fun e w' => e = .returned (.tuple #[.int .i64 0, .bool false]) ∧ Below w.heap.size w w' := by
  have HH := Lib.hid (has_no B g n q base term i X w h hn h0 (by omega) h3)
  have hne : (i == base) = false := by simp; omega
  obtain ⟨A0, c0, b0, _⟩ := h.cells
  clear h hn hi h3 h0
  go_enter Try.func17, Try.ntmps17
  go_wp2_with (go_at_call 18; refine HH.out.mono ?_; rintro e w1 ⟨rfl, hb1⟩; have Hb1 := Lib.hid hb1; clear hb1)
  go_ret2
  exact ⟨rfl, Hb1.out⟩

/-! ### the term at an index -/
/-- the term of the last entry, or of the base -/
def lastT (term : Int) (X : List Ent) : Int := match X.getLast? with
  | none => term
  | some e => e.t
set_option maxRecDepth 100000 in
theorem Last_any (B g n : Nat) (q : Option Nat) (base term : Int) (X : List Ent) (w : World) (h : LogAt w B g q base term X) (hn : X.length = n) (h0 : 0 ≤ base) (h3 : base ≤ 4611686018427387904) (hl : n ≤ 1000000) :
    Calls Try.prog 9 #[.pointer (some ⟨g, 0, none⟩)] w fun e w' => e = .returned (.tuple #[.int .i64 (base + n), .int .i64 (lastT term X)]) ∧ Below w.heap.size w w' := by
  obtain ⟨A, c, a0, a1, a2, _⟩ := h.cells
  rw [hn] at a2
  have HT := Lib.hid (show ∀ w', Below w.heap.size w w' → Calls Try.prog 17 #[.pointer (some ⟨g, 0, none⟩), .int .i64 (base + n)] w' fun e w'' => e = .returned (.tuple #[.int .i64 (lastT term X), .bool true]) ∧ Below w'.heap.size w' w'' from fun w' hb => by
    have h' := h.below hb
    unfold lastT
    rcases hx : X.getLast? with _ | p
    · have : X = [] := by simpa using hx
      subst this
      simp at hn
      subst hn
      simpa using Term_base B g q base term [] w' h'
    · rw [List.getLast?_eq_getElem?] at hx
      have hp := (List.getElem?_eq_some_iff.1 hx).1
      exact Term_in B g (X.length - 1) q base term (base + n) X p w' h' h0 hx (by omega) (by omega) (by omega))
  obtain ⟨L, hL⟩ : ∃ L, base + (n : Int) = L := ⟨_, rfl⟩
  have hw : IntKind.i64.wrap (base + (n : Int)) = L := by rw [i64_add (by omega) (by omega)]; exact hL
  clear h hn
  rw [hL] at HT ⊢
  obtain ⟨T, hT⟩ : ∃ T, lastT term X = T := ⟨_, rfl⟩
  rw [hT] at HT ⊢
  have HL := Lib.hid hL
  clear hL hT h0 h3 hl
  go_enter Try.func9, Try.ntmps9
  go_wp2
  go_quiet (fail)
  go_wp2_with (go_at_call 17; refine (HT.out _ (below_drewN (Below.refl _ _) _)).mono ?_; rintro e w1 ⟨rfl, hb1⟩; have Hb1 := Lib.hid (show Below w.heap.size w w1 from (below_drewN (Below.refl w.heap.size w) _).trans hb1); clear hb1)
  go_ret2
  exact ⟨rfl, Hb1.out⟩
set_option maxRecDepth 100000 in
theorem next_any (B g n : Nat) (q : Option Nat) (base term : Int) (X : List Ent) (w : World) (h : LogAt w B g q base term X) (hn : X.length = n) (h0 : 0 ≤ base) (h3 : base ≤ 4611686018427387904) (hl : n ≤ 1000000) :
    Calls Try.prog 15 #[.pointer (some ⟨g, 0, none⟩)] w fun e w' => e = .returned (.int .i64 (base + n + 1)) ∧ Below w.heap.size w w' := by
  have HL := Lib.hid (Last_any B g n q base term X w h hn h0 h3 hl)
  obtain ⟨L, hL⟩ : ∃ L, base + (n : Int) = L := ⟨_, rfl⟩
  rw [hL] at HL ⊢
  have hne : (L == 9223372036854775807) = false := by simp; omega
  have l1 : L ≤ 4611686018428387904 := by omega
  have l0 : 0 ≤ L := by omega
  clear h hn hL
  go_enter Try.func15, Try.ntmps15
  go_wp2_with (go_at_call 9; refine HL.out.mono ?_; rintro e w1 ⟨rfl, hb1⟩; have Hb1 := Lib.hid hb1; clear hb1)
  go_ret
  exact ⟨rfl, Hb1.out⟩
end Go.Proofs.Ytigjkmlhpefafaa
