/-
  Words for a region that draws its order, lays rows of clocks and stores into them: whichever order it draws, a store finds its row. Of the program: nothing but the type of clocks. No condition but what each lemma names.
-/
import Derived.Test.YtmihaigleembhaaClkW
namespace Go.Proofs.Ytmihaigleembhaa
open Go.ChangeShapes Go.WideShapes Go.ChangeAt Go.RowKit
set_option linter.unusedVariables false

/-- g is a row of clocks -/
def RowC (W : World) (g : Nat) : Prop := ∃ c, ClkAt W g c
theorem RowC.lt {W : World} {g : Nat} (h : RowC W g) : g < W.heap.size := by obtain ⟨c, hc⟩ := h; exact (Array.getElem?_eq_some_iff.1 hc).1
theorem RowC.below {W W' : World} {g : Nat} (h : RowC W g) (hb : Below W.heap.size W W') : RowC W' g := by obtain ⟨c, hc⟩ := h; exact ⟨c, hc.below hb⟩
theorem rowC_new (W : World) (a b c : Int) : RowC (W.alloc (.cells #[.int .i64 a, .int .i64 b, .int .i64 c] 25)) W.heap.size := ⟨⟨a, b, c⟩, heap_alloc_new W _⟩
theorem rowC_new1 (W : World) (o : Obj) (a b c : Int) : RowC ((W.alloc o).alloc (.cells #[.int .i64 a, .int .i64 b, .int .i64 c] 25)) (W.heap.size + 1) := ⟨⟨a, b, c⟩, heap_two W _ _⟩
theorem rowC_alloc {W : World} {g : Nat} (o : Obj) (h : RowC W g) : RowC (W.alloc o) g := h.below (below_box W o)
theorem rowC_drew {W : World} {g : Nat} (h : RowC W g) : RowC W.drew g := h
theorem setRow_clk {W : World} {g : Nat} (h : RowC W g) (a b c : Int) : ClkAt (W.setRow g #[.int .i64 a, .int .i64 b, .int .i64 c]) g ⟨a, b, c⟩ := by
  obtain ⟨x, hx⟩ := h
  exact setRow_heap W g _ _ _ (0, 0) hx
theorem setRow_clk_else {W : World} {g k : Nat} {c : Clk} (h : ClkAt W g c) (hk : ¬ k = g) (cs : Array Value) : ClkAt (W.setRow k cs) g c := by
  unfold ClkAt at h ⊢
  rw [setRow_other W k g _ (by omega)]
  exact h
theorem rowC_set {W : World} {g k : Nat} (a b c : Int) (h : RowC W g) : RowC (W.setRow k #[.int .i64 a, .int .i64 b, .int .i64 c]) g := by
  by_cases hk : k = g
  · subst hk; exact ⟨_, setRow_clk h a b c⟩
  · obtain ⟨x, hx⟩ := h; exact ⟨x, setRow_clk_else hx hk _⟩
theorem rowC_iff (W : World) (a b c : Int) (g : Nat) : RowC (W.alloc (.cells #[.int .i64 a, .int .i64 b, .int .i64 c] 25)) g ↔ RowC W g ∨ g = W.heap.size := by
  constructor
  · intro h
    by_cases hg : g = W.heap.size
    · exact .inr hg
    · have hl := h.lt
      rw [size_box] at hl
      obtain ⟨x, hx⟩ := h
      refine .inl ⟨x, ?_⟩
      unfold ClkAt at hx ⊢
      rwa [Below.heap_alloc _ _ _ (by omega)] at hx
  · rintro (h | rfl)
    · exact rowC_alloc _ h
    · exact rowC_new W a b c
theorem rowC_drew_iff (W : World) (g : Nat) : RowC W.drew g ↔ RowC W g := Iff.rfl
/-- a store of clocks, under a name -/
def stClk (p v : Value) : Sem Unit := Instr.storeAt 25 p v
theorem stClk_eq (p v : Value) : Instr.storeAt 25 p v = stClk p v := rfl
theorem stClk_run {W : World} {g : Nat} (a b c : Int) (h : RowC W g) :
    (stClk (.pointer (some ⟨g, 0, none⟩)) (.agg #[.int .i64 a, .int .i64 b, .int .i64 c])).run Try.prog W = .ok () (W.setRow g #[.int .i64 a, .int .i64 b, .int .i64 c]) := by
  obtain ⟨x, hx⟩ := h
  unfold stClk
  simp only [Instr.storeAt, Instr.sureAddr, Sem.run_bind, Sem.run_pure, Result.andThen_ok]
  exact run_storeVar_row (P := Try.prog) W g _ _ _ _ hx clk_info rfl (by simp [Value.oneCell'])
theorem stClk_run2 {W : World} {g k : Nat} (a b c x y z : Int) (h : RowC W g) :
    (stClk (.pointer (some ⟨g, 0, none⟩)) (.agg #[.int .i64 a, .int .i64 b, .int .i64 c])).run Try.prog (W.setRow k #[.int .i64 x, .int .i64 y, .int .i64 z]) = .ok () ((W.setRow k #[.int .i64 x, .int .i64 y, .int .i64 z]).setRow g #[.int .i64 a, .int .i64 b, .int .i64 c]) :=
  stClk_run a b c (rowC_set x y z h)
theorem more_alloc {a w : World} (h : Below a.heap.size a w) (o : Obj) : Below a.heap.size a (w.alloc o) := h.alloc h.size o
theorem more {a w w3 : World} (h : Below a.heap.size a w) (k : Below w.heap.size w w3) : Below a.heap.size a w3 := h.trans (k.mono h.size)
theorem more_set {a w : World} (h : Below a.heap.size a w) {g : Nat} (hg : a.heap.size ≤ g) (cs : Array Value) : Below a.heap.size a (w.setRow g cs) :=
  h.trans ⟨rfl, rfl, rfl, by simp, fun k hk => setRow_other w g k _ (by omega)⟩
theorem drew_size (w : World) : w.drew.heap.size = w.heap.size := rfl
/-- both rows, stored -/
theorem two_set {a W : World} {g1 g2 : Nat} (x y z x' y' z' : Int) (hb : Below a.heap.size a W) (h1 : RowC W g1) (h2 : RowC W g2) (n1 : a.heap.size ≤ g1) (n2 : a.heap.size ≤ g2) (hne : ¬ g2 = g1) :
    ClkAt ((W.setRow g1 #[.int .i64 x, .int .i64 y, .int .i64 z]).setRow g2 #[.int .i64 x', .int .i64 y', .int .i64 z']) g1 ⟨x, y, z⟩ ∧
    ClkAt ((W.setRow g1 #[.int .i64 x, .int .i64 y, .int .i64 z]).setRow g2 #[.int .i64 x', .int .i64 y', .int .i64 z']) g2 ⟨x', y', z'⟩ ∧
    Below a.heap.size a ((W.setRow g1 #[.int .i64 x, .int .i64 y, .int .i64 z]).setRow g2 #[.int .i64 x', .int .i64 y', .int .i64 z']) :=
  ⟨setRow_clk_else (setRow_clk h1 x y z) hne _, setRow_clk (rowC_set x y z h2) x' y' z', more_set (more_set hb n1 _) n2 _⟩
theorem Calls.asBelow {P : Program} {f : FuncId} {args : Array Value} {w : World} {v : Value} (h : Calls P f args w fun e w' => e = .returned v ∧ w = w') : Calls P f args w fun e w' => e = .returned v ∧ Below w.heap.size w w' :=
  h.mono fun _ _ ⟨a, b⟩ => ⟨a, by rw [← b]; exact Below.refl _ _⟩
theorem pol_setRow {W : World} {g k : Nat} {q : Pol} (h : PolAt W g 0 q) (hk : ¬ k = g) (cs : Array Value) : PolAt (W.setRow k cs) g 0 q := by
  obtain ⟨h1, h2, h3, h4, h5⟩ := h
  have e : (W.setRow k cs).heap[g]? = W.heap[g]? := setRow_other W k g _ (by omega)
  have hc : ∀ i, (W.setRow k cs).cell? ⟨g, i, none⟩ = W.cell? ⟨g, i, none⟩ := fun i => World.cell?_of_block (w := W) e
  exact ⟨by rw [hc]; exact h1, by rw [hc]; exact h2, by rw [hc]; exact h3, by rw [hc]; exact h4, h5⟩
end Go.Proofs.Ytmihaigleembhaa
