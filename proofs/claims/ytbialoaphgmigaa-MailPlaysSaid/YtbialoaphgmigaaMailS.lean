/-
  Contract of dotterelref08's Same, of letters that are the same. Conditions: what it names.
-/
import Derived.Test.YtbialoaphgmigaaMailA
namespace Go.Proofs.Ytbialoaphgmigaa
open Go.ChangeShapes Go.WideShapes Go.ChangeAt Go.RowKit Go.Conc
set_option linter.unusedVariables false

/-- a letter's load, under a name: so that a walk takes it whole, behind a guard too ('attribute [local go_sem ↓] ldLet_eq') -/
def ldLet (p : Value) : Sem Value := Instr.loadAt 29 p
theorem ldLet_eq (p : Value) : Instr.loadAt 29 p = ldLet p := rfl
theorem ldLet_run {w : World} {g : Nat} {a b c : Value} (h : w.heap[g]? = some (.cells #[a, b, c] 29 (0, 0))) :
    (ldLet (.pointer (some ⟨g, 0, none⟩))).run Try.prog w = .ok (.agg #[a, b, c]) w := by
  unfold ldLet
  simp only [Instr.loadAt, Instr.sureAddr, Sem.run_bind, Sem.run_pure, Result.andThen_ok, run_loadVar_row w g 29 29 #[a, b, c] (0, 0) _ h Try.underlying29 rfl letter_size]

set_option maxRecDepth 100000 in
theorem LSame_yes (f t : Int) (A C : Option Addr) (n c d : Nat) (bs : List UInt8) (w : World) (hn : bs.length = n) (hl : n ≤ 10000) (h1 : Seen w A (bytesV bs)) (h2 : Seen w C (bytesV bs)) :
    Calls Try.prog 12 #[letV f t A n c, letV f t C n d] w fun e w' => e = .returned (.bool true) ∧ Below w.heap.size w w' := by
  obtain ⟨w1, hw1, hb1, hh1⟩ : ∃ w1, w.alloc (.cells #[.int .i64 f, .int .i64 t, .slice A n c] 29) = w1 ∧ Below w.heap.size w w1 ∧ w1.heap[w.heap.size]? = some (.cells #[.int .i64 f, .int .i64 t, .slice A n c] 29 (0, 0)) :=
    ⟨_, rfl, (Below.refl _ _).alloc (Nat.le_refl _) _, heap_alloc_new _ _⟩
  obtain ⟨w2, hw2, hb2, hh2⟩ : ∃ w2, w1.alloc (.cells #[.int .i64 f, .int .i64 t, .slice C n d] 29) = w2 ∧ Below w1.heap.size w1 w2 ∧ w2.heap[w1.heap.size]? = some (.cells #[.int .i64 f, .int .i64 t, .slice C n d] 29 (0, 0)) :=
    ⟨_, rfl, (Below.refl _ _).alloc (Nat.le_refl _) _, heap_alloc_new _ _⟩
  have hh1' := (hb2.block w.heap.size (Array.getElem?_eq_some_iff.1 hh1).1).trans hh1
  have a0 : w2.cell? ⟨w.heap.size, 0, none⟩ = some (.int .i64 f) := row_cell hh1' 0
  have a1 : w2.cell? ⟨w.heap.size, 1, none⟩ = some (.int .i64 t) := row_cell hh1' 1
  have a2 : w2.cell? ⟨w.heap.size, 2, none⟩ = some (.slice A n c) := row_cell hh1' 2
  have b0 : w2.cell? ⟨w1.heap.size, 0, none⟩ = some (.int .i64 f) := row_cell hh2 0
  have b1 : w2.cell? ⟨w1.heap.size, 1, none⟩ = some (.int .i64 t) := row_cell hh2 1
  have b2 : w2.cell? ⟨w1.heap.size, 2, none⟩ = some (.slice C n d) := row_cell hh2 2
  have hbb := hb1.trans (hb2.mono hb1.size)
  have hs := Same_any A C n n c d bs bs w2 hn hn (h1.below hbb) (h2.below hbb) (by omega)
  rw [decide_eq_true rfl] at hs
  have Hs := Lib.hid hs; have Hb := Lib.hid hbb
  clear hs h1 h2 hh1 hh2 hh1' hb1 hb2 hbb hn
  unfold letV
  go_enter Try.func12, Try.ntmps12
  go_wp2_with (go_at_call 18; refine Hs.out.mono ?_; rintro e w3 ⟨rfl, hb3⟩; have Hb3 := Lib.hid (Hb.out.trans (hb3.mono Hb.out.size)); clear hb3)
  go_ret
  exact ⟨rfl, Hb3.out⟩
end Go.Proofs.Ytbialoaphgmigaa
