/-
  Contracts of rlog's New, has, Base, Term, Last, next, clone, and of bytes.Clone. Conditions: a log in memory.
-/
import Derived.Test.YtigjkmlhpefafaaRlgMem
namespace Go.Proofs.Ytigjkmlhpefafaa
open Go.ChangeShapes Go.WideShapes Go.ChangeAt Go.RowKit
set_option linter.unusedVariables false

theorem eql_nil (A : Option Addr) (n c : Nat) (w : World) : (binOp .eql 22 (.slice A n c) (.slice none 0 0)).run Try.prog w = .ok (.bool A.isNone) w := by
  simp only [binOp]
  simp [run_equal_slice_nil w 22 5 A n c Try.underlying22]

set_option maxRecDepth 100000 in
theorem BClone_any (A : Option Addr) (n c : Nat) (bs : List UInt8) (w : World) (hn : bs.length = n) (hl : n ≤ 10000) (h : Seen w A (bytesV bs)) :
    Calls Try.prog 23 #[.slice A n c] w fun e w' => ∃ A' c', e = .returned (.slice A' n c') ∧ w'.ownsRow w.heap.size 5 1 (.slice A' n c') n (bytesV bs) ∧ Below w.heap.size w w' := by
  have H := Lib.hid h; have Hn := Lib.hid hn
  cases A with
  | none =>
    obtain rfl : bs = [] := by
      rcases h with h | ⟨g, o, hA, _⟩
      · simpa [bytesV] using h
      · cases hA
    simp at hn
    subst hn
    clear h
    have he := eql_nil none 0 c
    simp only [Option.isNone_none] at he
    go_enter Try.func23, Try.ntmps23
    go_wp2
    go_ret
    exact ⟨none, 0, rfl, World.ownsRow_nil _ _ _ _, Below.refl _ _⟩
  | some ad =>
    clear h hn
    have he := eql_nil (some ad) n c
    simp only [Option.isNone_some] at he
    have hown0 : (w.alloc (.cells #[] 5)).ownsRow w.heap.size 5 1 (.slice (some ⟨w.heap.size, 0, none⟩) 0 0) 0 [] := World.ownsRow_lit w #[] 0 (Nat.le_refl _) (by unfold maxLen; omega) rfl
    have hb0 : Below w.heap.size w (w.alloc (.cells #[] 5)) := (Below.refl _ _).alloc (Nat.le_refl _) _
    have H0 := Lib.hid hown0; have Hb0 := Lib.hid hb0; clear hown0 hb0
    go_enter Try.func23, Try.ntmps23
    go_wp2_with (at_builtin; refine wpList_app rfl (.tmp 5) (.tmp 6) _ rfl 5 _ 1 Try.underlying22 u8_info rfl w.heap.size (some ⟨w.heap.size, 0, none⟩) 0 0 [] rfl H0.out (some ad) n c (bytesV bs) rfl (by rw [bytes_length]; exact Hn.out) (H.out.below Hb0.out) (bytes_one _) (by unfold maxLen; omega) (by omega) (by simp) ?_; intro A4 c4 w4 hown4 hb4; simp only [Nat.zero_add, List.nil_append] at hown4; have Hown4 := Lib.hid hown4; have Hb4 := Lib.hid (Hb0.out.trans hb4); clear hown4 hb4; simp only [Nat.zero_add])
    go_ret
    exact ⟨A4, c4, rfl, Hown4.out, Hb4.out⟩


/-! ### New -/
theorem New_no (a : Int) (w : World) (h : a < 0) : Calls Try.prog 6 #[.int .i64 a, .int .i64 0] w fun e w' => e = .returned (.pointer none) ∧ w = w' := by
  go_enter Try.func6, Try.ntmps6
  go_wp2
  go_ret
  exact ⟨rfl, rfl⟩
/-- what New hands back: a log without entries -/
def NewRet (a b : Int) (w : World) (e : Ending) (w' : World) : Prop := e = .returned (.pointer (some ⟨w.heap.size, 0, none⟩)) ∧ LogD w' w.heap.size w.heap.size none a b [] ∧ Below w.heap.size w w' ∧ w.heap.size < w'.heap.size
set_option maxRecDepth 100000 in
theorem New_yes (a b : Int) (w : World) (ha : 0 ≤ a) (hb : 0 ≤ b) : Calls Try.prog 6 #[.int .i64 a, .int .i64 b] w (NewRet a b w) := by
  have ha' : ¬ a < 0 := by omega
  have hb' : ¬ b < 0 := by omega
  go_enter Try.func6, Try.ntmps6
  go_wp2
  go_ret
  refine ⟨rfl, ⟨[], rfl, Nat.le_refl _, ⟨none, 0, heap_alloc_new w _, World.ownsRow_nil _ _ _ _, rfl⟩, fun e he => by cases he⟩, (Below.refl _ _).alloc (Nat.le_refl _) _, by simp⟩

/-! ### has -/
/-- the cells of a log's struct -/
theorem LogAt.cells {w : World} {B g : Nat} {q : Option Nat} {base term : Int} {X : List Ent} (h : LogAt w B g q base term X) :
    ∃ A c, w.cell? ⟨g, 0, none⟩ = some (.int .i64 base) ∧ w.cell? ⟨g, 1, none⟩ = some (.int .i64 term) ∧ w.cell? ⟨g, 2, none⟩ = some (.slice A X.length c) ∧ Seen w A (entsV X) := by
  obtain ⟨hB, ⟨A, c, h1, h2, h3⟩, h4⟩ := h
  exact ⟨A, c, row_cell h1 0, row_cell h1 1, row_cell h1 2, own_seen h2⟩
set_option maxRecDepth 100000 in
theorem has_yes (B g n : Nat) (q : Option Nat) (base term i : Int) (X : List Ent) (w : World) (h : LogAt w B g q base term X) (hn : X.length = n) (h0 : 0 ≤ base) (h1 : base < i) (h2 : i ≤ base + n) (h3 : i ≤ 9223372036854775807) :
    Calls Try.prog 18 #[.pointer (some ⟨g, 0, none⟩), .int .i64 i] w fun e w' => e = .returned (.bool true) ∧ Below w.heap.size w w' := by
  obtain ⟨A, c, a0, a1, a2, _⟩ := h.cells
  rw [hn] at a2
  have g1 : decide (base < i) = true := decide_eq_true h1
  have g2 : decide (i - base ≤ (n : Int)) = true := decide_eq_true (by omega)
  have hw : IntKind.i64.wrap (i - base) = i - base := by unfold IntKind.wrap; simp [IntKind.signed, IntKind.bits]; omega
  clear hn h
  go_enter Try.func18, Try.ntmps18
  go_wp2
  go_quiet (fail)
  go_wp2
  go_ret
  exact ⟨rfl, below_drewN (Below.refl _ _) _⟩
set_option maxRecDepth 100000 in
theorem has_no (B g n : Nat) (q : Option Nat) (base term i : Int) (X : List Ent) (w : World) (h : LogAt w B g q base term X) (hn : X.length = n) (h0 : 0 ≤ base) (h1 : i ≤ base ∨ base + n < i) (h3 : i ≤ 9223372036854775807) :
    Calls Try.prog 18 #[.pointer (some ⟨g, 0, none⟩), .int .i64 i] w fun e w' => e = .returned (.bool false) ∧ Below w.heap.size w w' := by
  obtain ⟨A, c, a0, a1, a2, _⟩ := h.cells
  rw [hn] at a2
  clear hn h
  by_cases hi : i ≤ base
  · have g1 : decide (base < i) = false := decide_eq_false (by omega)
    clear h1
    go_enter Try.func18, Try.ntmps18
    go_wp2
    go_quiet (fail)
    go_wp2
    go_ret
    exact ⟨rfl, below_drewN (Below.refl _ _) _⟩
  · have g1 : decide (base < i) = true := decide_eq_true (by omega)
    have g2 : decide (i - base ≤ (n : Int)) = false := decide_eq_false (by omega)
    have hw : IntKind.i64.wrap (i - base) = i - base := by unfold IntKind.wrap; simp [IntKind.signed, IntKind.bits]; omega
    clear h1
    go_enter Try.func18, Try.ntmps18
    go_wp2
    go_quiet (fail)
    go_wp2
    go_ret
    exact ⟨rfl, below_drewN (Below.refl _ _) _⟩
end Go.Proofs.Ytigjkmlhpefafaa
