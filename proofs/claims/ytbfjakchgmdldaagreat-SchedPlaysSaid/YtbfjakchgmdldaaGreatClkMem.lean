/-
  Clocks by definition (Clk, tagsC, wakeF, byLimitF, byReserveF, chargeF), clocks in memory, and an argument that is a struct of clocks, opened. Of the program: nothing but the type of clocks. No condition but what each lemma names.
-/
import Derived.Test.YtbfjakchgmdldaaGreatPolOpen
namespace Go.Proofs.YtbfjakchgmdldaaGreat
open Go.ChangeShapes Go.WideShapes Go.ChangeAt Go.RowKit
set_option linter.unusedVariables false

theorem wrap_in (n : Int) (h1 : -9223372036854775808 ≤ n) (h2 : n ≤ 9223372036854775807) : IntKind.i64.wrap n = n := by
  rw [IntKind.wrap_i64]; omega
structure Clk where
  r : Int
  p : Int
  l : Int
  deriving DecidableEq
def InC (c : Clk) : Prop := In64 c.r ∧ In64 c.p ∧ In64 c.l
def isTag (x : Int) : Prop := 0 ≤ x ∧ x ≤ 2305843009213693952
def tagsC (c : Clk) : Prop := isTag c.r ∧ isTag c.p ∧ isTag c.l
def tagsB (c : Clk) : Bool := decide ((0 ≤ c.r ∧ c.r ≤ 2305843009213693952) ∧ (0 ≤ c.p ∧ c.p ≤ 2305843009213693952) ∧ (0 ≤ c.l ∧ c.l ≤ 2305843009213693952))
theorem tagsB_iff (c : Clk) : tagsB c = true ↔ tagsC c := by unfold tagsB tagsC isTag; simp
theorem tagsC_in {c : Clk} (h : tagsC c) : InC c := by
  obtain ⟨⟨a1, a2⟩, ⟨b1, b2⟩, ⟨c1, c2⟩⟩ := h
  exact ⟨⟨by omega, by omega⟩, ⟨by omega, by omega⟩, ⟨by omega, by omega⟩⟩
def wakeF (c : Clk) (now least : Int) : Clk := ⟨max c.r now, max c.p least, c.l⟩
def byLimitF (q : Pol) (c : Clk) (now : Int) : Bool := rightP q && (decide (q.li = 0) || decide (c.l ≤ now))
def byReserveF (q : Pol) (c : Clk) (now : Int) : Bool := byLimitF q c now && (decide (¬ q.re = 0) && decide (c.r ≤ now))
def elseF (n : Int) : Int := if n < 0 then 0 else if 1048576 < n then 1048576 else n
theorem elseF_bd (n : Int) : 0 ≤ elseF n ∧ elseF n ≤ 1048576 := by unfold elseF; omega
def growF (t s n : Int) : Int := addF t (timesF s n)
def aheadF (now span : Int) : Int := if now < span then 0 else now - span
def resF (ph rh : Int) : Int := if ph = 1 then elseF rh + 1 else elseF rh
def goesF (q : Pol) (ph : Int) : Bool := rightP q && (decide (ph = 1) || decide (ph = 2))
def chargedF (q : Pol) (c : Clk) (now ph de rh : Int) : Clk :=
  ⟨growF c.r (spaceF q.re) (resF ph rh), growF c.p (67108864 / q.we) (1 + elseF de),
    if q.li = 0 then c.l else growF (max c.l (aheadF now (timesF (wideF q.li) q.bu))) (wideF q.li) (1 + elseF de)⟩
def chargeF (q : Pol) (c : Clk) (now ph de rh : Int) : Clk := if goesF q ph = true then chargedF q c now ph de rh else c

theorem addF_bd (a b : Int) : isTag (addF a b) := by
  have h1 := holdF_bd a
  have h2 := holdF_bd b
  unfold addF isTag
  omega
theorem timesF_bd (a n : Int) : isTag (timesF a n) := by
  have h1 := holdF_bd a
  have h2 := holdF_bd n
  have h3 : 0 ≤ holdF a * holdF n := Int.mul_nonneg h1.1 h2.1
  unfold timesF isTag
  omega
theorem growF_bd (t s n : Int) : isTag (growF t s n) := addF_bd _ _
theorem tag_in {x : Int} (h : isTag x) : inI x := by unfold isTag at h; unfold inI; omega
theorem wideF_in (a : Int) : inI (wideF a) := by
  unfold wideF inI
  split
  · have q0 : 0 ≤ 65535999 / a := Int.ediv_nonneg (by omega) (by omega)
    have q1 : 65535999 / a ≤ 65535999 := Int.ediv_le_self _ (by omega)
    omega
  · omega
theorem weigh_bd {a : Int} (h : 1 ≤ a) : 0 ≤ 67108864 / a ∧ 67108864 / a ≤ 67108864 := ⟨Int.ediv_nonneg (by omega) (by omega), Int.ediv_le_self _ (by omega)⟩
theorem aheadF_bd {now span : Int} (h1 : 0 ≤ now) (h2 : inI now) (h3 : isTag span) : 0 ≤ aheadF now span ∧ aheadF now span ≤ now := by
  unfold isTag at h3
  unfold aheadF
  omega

/-! ### In memory -/
/-- the row of a struct of clocks -/
def clkRow (c : Clk) : Array Value := #[.int .i64 c.r, .int .i64 c.p, .int .i64 c.l]
/-- the clocks c at ⟨g, 0⟩, a row of their own -/
def ClkAt (w : World) (g : Nat) (c : Clk) : Prop := w.heap[g]? = some (.cells #[.int .i64 c.r, .int .i64 c.p, .int .i64 c.l] 46 (0, 0))
theorem ClkAt.below {w w' : World} {g : Nat} {c : Clk} (h : ClkAt w g c) (hb : Below w.heap.size w w') : ClkAt w' g c := by
  unfold ClkAt at h ⊢
  rw [hb.block g (Array.getElem?_eq_some_iff.1 h).1]; exact h
theorem ClkAt.c0 {w : World} {g : Nat} {c : Clk} (h : ClkAt w g c) : w.cell? ⟨g, 0, none⟩ = some (.int .i64 c.r) := row_cell h 0
theorem ClkAt.c1 {w : World} {g : Nat} {c : Clk} (h : ClkAt w g c) : w.cell? ⟨g, 1, none⟩ = some (.int .i64 c.p) := row_cell h 1
theorem ClkAt.c2 {w : World} {g : Nat} {c : Clk} (h : ClkAt w g c) : w.cell? ⟨g, 2, none⟩ = some (.int .i64 c.l) := row_cell h 2
theorem ClkAt.s0 {w : World} {g : Nat} {c : Clk} (h : ClkAt w g c) (x : Int) : ClkAt (w.setCell ⟨g, 0, none⟩ (.int .i64 x)) g ⟨x, c.p, c.l⟩ := row_set h 0 _
theorem ClkAt.s1 {w : World} {g : Nat} {c : Clk} (h : ClkAt w g c) (x : Int) : ClkAt (w.setCell ⟨g, 1, none⟩ (.int .i64 x)) g ⟨c.r, x, c.l⟩ := row_set h 1 _
theorem ClkAt.s2 {w : World} {g : Nat} {c : Clk} (h : ClkAt w g c) (x : Int) : ClkAt (w.setCell ⟨g, 2, none⟩ (.int .i64 x)) g ⟨c.r, c.p, x⟩ := row_set h 2 _
theorem ClkAt.drew {w : World} {g : Nat} {c : Clk} (h : ClkAt w g c) : ClkAt w.drew g c := h
theorem below_set {B : Nat} {a w : World} (h : Below B a w) {g : Nat} (hg : B ≤ g) (j : Nat) (v : Value) : Below B a (w.setCell ⟨g, j, none⟩ v) := h.setCell (p := (⟨g, j, none⟩ : Addr)) hg v
theorem ClkAt.set_else {w : World} {g k : Nat} {c : Clk} (h : ClkAt w g c) (hk : ¬ k = g) (j : Nat) (v : Value) : ClkAt (w.setCell ⟨k, j, none⟩ v) g c := by
  unfold ClkAt at h ⊢
  simp [World.setCell, Array.getElem?_modify, hk, h]
theorem PolAt.set_else {w : World} {g k : Nat} {q : Pol} (h : PolAt w g 0 q) (hk : ¬ k = g) (j : Nat) (v : Value) : PolAt (w.setCell ⟨k, j, none⟩ v) g 0 q := by
  obtain ⟨h1, h2, h3, h4, h5⟩ := h
  have e : (w.setCell ⟨k, j, none⟩ v).heap[g]? = w.heap[g]? := by simp [World.setCell, Array.getElem?_modify, hk]
  have hc : ∀ i, (w.setCell ⟨k, j, none⟩ v).cell? ⟨g, i, none⟩ = w.cell? ⟨g, i, none⟩ := fun i => World.cell?_of_block (w := w) e
  exact ⟨by rw [hc]; exact h1, by rw [hc]; exact h2, by rw [hc]; exact h3, by rw [hc]; exact h4, h5⟩

/-! ### A load of clocks, under a name -/
theorem clk_info : (Tryz.prog.info? 46).map (·.size) = some 3 := by kernel_rfl
/-- so that a walk takes it whole, behind a guard too ('attribute [local go_sem ↓] ldClk_eq') -/
def ldClk (p : Value) : Sem Value := Instr.loadAt 46 p
theorem ldClk_eq (p : Value) : Instr.loadAt 46 p = ldClk p := rfl
theorem ldClk_run {w : World} {g : Nat} {c : Clk} (h : ClkAt w g c) :
    (ldClk (.pointer (some ⟨g, 0, none⟩))).run Tryz.prog w = .ok (.agg #[.int .i64 c.r, .int .i64 c.p, .int .i64 c.l]) w := by
  have hr : w.rangeAt g 0 [.int .i64 c.r, .int .i64 c.p, .int .i64 c.l] := fun j v hv => by
    match j, hv with
    | 0, hv => simp at hv; subst hv; exact h.c0
    | 1, hv => simp at hv; subst hv; exact h.c1
    | 2, hv => simp at hv; subst hv; exact h.c2
  exact run_loadAt_mid w g 0 46 [.int .i64 c.r, .int .i64 c.p, .int .i64 c.l] _ hr Tryz.underlying46 rfl clk_info

/-! ### An argument, opened -/
section
variable {H : Type} {enc : TypeId × Value → H} {P : Program}
theorem open_clk {W : World} {base : Nat} {v : Value} {d : DataW H} {p : List MemPlace} {te : TypeId} {fs : Array Field} {f0 f1 f2 : Field} (he : P.underlying te = some (.struct fs)) (h0 : fs[0]? = some f0) (h1 : fs[1]? = some f1) (h2 : fs[2]? = some f2)
    (o0 : f0.offset = 0) (o1 : f1.offset = 1) (o2 : f2.offset = 2) (i0 : P.underlying f0.type = some (.int .i64)) (i1 : P.underlying f1.type = some (.int .i64)) (i2 : P.underlying f2.type = some (.int .i64))
    (c0 : P.cellsOf f0.type = 1) (c1 : P.cellsOf f1.type = 1) (c2 : P.cellsOf f2.type = 1) (ce : P.cellsOf te = 3) (hval : Value.okWide P W .any base te v) (h : DataW.Trod enc P W 0 (fun _ => true) true te v d p) :
    ∃ q : Clk, v = .agg #[.int .i64 q.r, .int .i64 q.p, .int .i64 q.l] ∧ InC q := by
  obtain ⟨cs, rfl, hsz⟩ := okWide_struct he hval
  obtain ⟨l⟩ := cs
  match l, hsz.trans ce with
  | [x0, x1, x2], _ =>
    obtain ⟨fuel, hf⟩ := h
    obtain ⟨xs, n', _, _, _, hxl, hg⟩ := DataW.trod_struct he hf
    have e0 := hg 0 f0 h0
    have e1 := hg 1 f1 h1
    have e2 := hg 2 f2 h2
    rw [o0, c0] at e0
    rw [o1, c1] at e1
    rw [o2, c2] at e2
    simp only [Value.cells, List.drop_zero, List.take_succ_cons, List.take_zero, List.drop_succ_cons] at e0 e1 e2
    have hs : ∀ j f, fs[j]? = some f → j < xs.length := fun j f hj => by rw [hxl]; exact (Array.getElem?_eq_some_iff.1 hj).1
    rw [List.getElem?_eq_getElem (hs 0 _ h0)] at e0
    rw [List.getElem?_eq_getElem (hs 1 _ h1)] at e1
    rw [List.getElem?_eq_getElem (hs 2 _ h2)] at e2
    obtain ⟨v0, b0, _, w0⟩ := DataW.trod_int i0 e0
    obtain ⟨v1, b1, _, w1⟩ := DataW.trod_int i1 e1
    obtain ⟨v2, b2, _, w2⟩ := DataW.trod_int i2 e2
    simp only [List.cons.injEq, and_true] at b0 b1 b2
    subst b0; subst b1; subst b2
    have k0 := bounds_i64 w0; have k1 := bounds_i64 w1; have k2 := bounds_i64 w2
    exact ⟨⟨v0, v1, v2⟩, rfl, ⟨k0.1, k0.2⟩, ⟨k1.1, k1.2⟩, ⟨k2.1, k2.2⟩⟩
end
end Go.Proofs.YtbfjakchgmdldaaGreat
