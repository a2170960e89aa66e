/-
  A flow's state in memory: loads and stores of its policy and its clocks, under names. Conditions: what each names.
-/
import Derived.Test.YtbfjakchgmdldaaGreatSchHold
namespace Go.Proofs.YtbfjakchgmdldaaGreat
open Go.ChangeShapes Go.WideShapes Go.ChangeAt Go.RowKit Go.Maps
set_option linter.unusedVariables false

def IsSt (w : World) (g : Nat) (f : Fl) (v : Value) : Prop := w.heap[g]? = some (.cells (stRow f v) 69 (0, 0))
section
variable {w : World} {g : Nat} {f : Fl} {v : Value}
theorem IsSt.below {w' : World} (h : IsSt w g f v) (hb : Below w.heap.size w w') : IsSt w' g f v := by
  unfold IsSt at h ⊢
  rw [hb.block g (Array.getElem?_eq_some_iff.1 h).1]; exact h
theorem IsSt.drew (h : IsSt w g f v) : IsSt w.drew g f v := h
theorem IsSt.c0 (h : IsSt w g f v) : w.cell? ⟨g, 0, none⟩ = some (.int .i64 f.ver) := row_cell h 0
theorem IsSt.c1 (h : IsSt w g f v) : w.cell? ⟨g, 1, none⟩ = some (.int .i64 f.p.re) := row_cell h 1
theorem IsSt.c5 (h : IsSt w g f v) : w.cell? ⟨g, 5, none⟩ = some (.int .i64 f.c.r) := row_cell h 5
theorem IsSt.c6 (h : IsSt w g f v) : w.cell? ⟨g, 6, none⟩ = some (.int .i64 f.c.p) := row_cell h 6
theorem IsSt.c8 (h : IsSt w g f v) : w.cell? ⟨g, 8, none⟩ = some v := row_cell h 8
theorem IsSt.fz (h : IsSt w g f v) (j : Nat) : w.frozen? ⟨g, j, none⟩ = false := row_frozen h j
theorem IsSt.polAt (h : IsSt w g f v) (hp : InP f.p) : PolAt w g 1 f.p := ⟨row_cell h 1, row_cell h 2, row_cell h 3, row_cell h 4, hp⟩
theorem IsSt.s0 (h : IsSt w g f v) (n : Int) : IsSt (w.setCell ⟨g, 0, none⟩ (.int .i64 n)) g { f with ver := n } v := row_set h 0 _
theorem IsSt.s8 (h : IsSt w g f v) (u : Value) (l : List Itm) : IsSt (w.setCell ⟨g, 8, none⟩ u) g { f with q := l } u := row_set h 8 _
theorem IsSt.there (h : IsSt w g f v) {o n : Nat} (hn : o + n ≤ 9) : w.there g o n := fun j hj => by
  refine ⟨?_, h.fz _⟩
  rw [row_cell h (o + j), Array.getElem?_eq_getElem (by show o + j < 9; omega)]
  rfl
def polCells (p : Pol) : List Value := [.int .i64 p.re, .int .i64 p.we, .int .i64 p.li, .int .i64 p.bu]
def clkCells (c : Clk) : List Value := [.int .i64 c.r, .int .i64 c.p, .int .i64 c.l]
theorem IsSt.sp (h : IsSt w g f v) (p : Pol) : IsSt (w.setCells g 1 (polCells p)) g { f with p := p } v :=
  row_set (row_set (row_set (row_set h 1 (.int .i64 p.re)) 2 (.int .i64 p.we)) 3 (.int .i64 p.li)) 4 (.int .i64 p.bu)
theorem IsSt.sc (h : IsSt w g f v) (c : Clk) : IsSt (w.setCells g 5 (clkCells c)) g { f with c := c } v :=
  row_set (row_set (row_set h 5 (.int .i64 c.r)) 6 (.int .i64 c.p)) 7 (.int .i64 c.l)
theorem Turned.drew {p : Nat → Prop} {a w : World} (h : Turned p a w) : Turned p a w.drew := ⟨h.os, h.tape, h.output, h.size, h.block⟩
theorem set_wo {w : World} {g : Nat} (j : Nat) (v : Value) : Turned (fun k => k = g) w (w.setCell ⟨g, j, none⟩ v) := (Turned.refl (fun k => k = g) w).setCell (b := ⟨g, j, none⟩) (fun _ => rfl) v
theorem turned_cells {p : Nat → Prop} {a : World} {g : Nat} (hg : g < a.heap.size → p g) : ∀ (vs : List Value) (o : Nat) (w : World), Turned p a w → Turned p a (w.setCells g o vs)
  | [], _, _, h => h
  | u :: r, o, w, h => turned_cells hg r (o + 1) _ (h.setCell (b := ⟨g, o, none⟩) hg u)
end

/-! ### under names -/
def stPol (p v : Value) : Sem Unit := Instr.storeAt 28 p v
theorem stPol_eq (p v : Value) : Instr.storeAt 28 p v = stPol p v := rfl
theorem stPol_run {w : World} {g : Nat} {f : Fl} {v : Value} (h : IsSt w g f v) (p : Pol) :
    (stPol (.pointer (some ⟨g, 1, none⟩)) (.agg #[.int .i64 p.re, .int .i64 p.we, .int .i64 p.li, .int .i64 p.bu])).run Tryz.prog w = .ok () (w.setCells g 1 (polCells p)) :=
  run_storeAt_mid w g 1 28 #[.int .i64 p.re, .int .i64 p.we, .int .i64 p.li, .int .i64 p.bu] (h.there (by show 1 + 4 ≤ 9; omega)) pol_info (by simp [Value.oneCell'])
def stClk (p v : Value) : Sem Unit := Instr.storeAt 46 p v
theorem stClk_eq (p v : Value) : Instr.storeAt 46 p v = stClk p v := rfl
theorem stClk_run {w : World} {g : Nat} {f : Fl} {v : Value} (h : IsSt w g f v) (c : Clk) :
    (stClk (.pointer (some ⟨g, 5, none⟩)) (.agg #[.int .i64 c.r, .int .i64 c.p, .int .i64 c.l])).run Tryz.prog w = .ok () (w.setCells g 5 (clkCells c)) :=
  run_storeAt_mid w g 5 46 #[.int .i64 c.r, .int .i64 c.p, .int .i64 c.l] (h.there (by show 5 + 3 ≤ 9; omega)) clk_info (by simp [Value.oneCell'])
theorem ldClk_at {w : World} {g : Nat} {f : Fl} {v : Value} (h : IsSt w g f v) :
    (ldClk (.pointer (some ⟨g, 5, none⟩))).run Tryz.prog w = .ok (.agg #[.int .i64 f.c.r, .int .i64 f.c.p, .int .i64 f.c.l]) w := by
  have hr : w.rangeAt g 5 [.int .i64 f.c.r, .int .i64 f.c.p, .int .i64 f.c.l] := fun j v hv => by
    match j, hv with
    | 0, hv => simp at hv; subst hv; exact row_cell h 5
    | 1, hv => simp at hv; subst hv; exact row_cell h 6
    | 2, hv => simp at hv; subst hv; exact row_cell h 7
  exact run_loadAt_mid w g 5 46 [.int .i64 f.c.r, .int .i64 f.c.p, .int .i64 f.c.l] _ hr Tryz.underlying46 rfl clk_info
end Go.Proofs.YtbfjakchgmdldaaGreat
