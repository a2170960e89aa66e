/-
  Ballots by definition: rightB, seeB, grantB, standB, newB; an argument that is a ballot, or two numbers, opened. Of the program: nothing but a ballot's type. No condition but what each lemma names.
-/
import Derived.Test.YtdlgihgdpdiglaaGreatJWords
import Derived.Test.YtdlgihgdpdiglaaGreatProg
import Derived.Deep.MidRow
import Derived.Deep.WholeRow
import Derived.Laws.ResultCell
namespace Go.Proofs.YtdlgihgdpdiglaaGreat.bal
open Go.ChangeShapes Go.WideShapes Go.ChangeAt Go.RowKit
set_option linter.unusedVariables false

theorem bool_eq {a b : Bool} (h : a = b) : Ending.returned (.bool a) = .returned (.bool b) := by rw [h]
theorem below_box (w : World) (o : Obj) : Below w.heap.size w (w.alloc o) := (Below.refl _ _).alloc (Nat.le_refl _) o

structure Bal where
  te : Int
  vo : Int
  deriving DecidableEq
def RightB (b : Bal) : Prop := 0 ≤ b.te ∧ b.te ≤ 1099511627776 ∧ -1 ≤ b.vo ∧ b.vo ≤ 15
instance (b : Bal) : Decidable (RightB b) := by unfold RightB; infer_instance
def seeB (b : Bal) (t : Int) : Bal := if b.te < t then ⟨t, -1⟩ else b
def GivenB (b : Bal) (t who : Int) (n : Bool) : Prop := (seeB b t).te = t ∧ n = true ∧ 0 ≤ who ∧ who ≤ 15 ∧ ((seeB b t).vo = -1 ∨ (seeB b t).vo = who)
instance (b : Bal) (t who : Int) (n : Bool) : Decidable (GivenB b t who n) := by unfold GivenB; infer_instance
def grantB (b : Bal) (t who : Int) (n : Bool) : Bal := if GivenB b t who n then ⟨t, who⟩ else seeB b t
/-- as new as -/
def NewB (t i u j : Int) : Prop := u < t ∨ t = u ∧ j ≤ i
instance (t i u j : Int) : Decidable (NewB t i u j) := by unfold NewB; infer_instance
def balV (b : Bal) : Value := .agg #[.int .i64 b.te, .int .i64 b.vo]

theorem right_see {b : Bal} {t : Int} (h : RightB b) (h0 : t ≤ 1099511627776) : RightB (seeB b t) := by
  unfold RightB seeB at *
  split
  · simp only; omega
  · exact h
theorem right_grant {b : Bal} {t who : Int} {n : Bool} (h : RightB b) (h0 : t ≤ 1099511627776) : RightB (grantB b t who n) := by
  unfold grantB
  split
  · rename_i hg
    obtain ⟨h1, _, h3, h4, _⟩ := hg
    have := right_see h h0
    unfold RightB at this ⊢
    simp only
    omega
  · exact right_see h h0
theorem see_te (b : Bal) (t : Int) : b.te ≤ (seeB b t).te := by
  unfold seeB
  split
  · simp only; omega
  · omega
theorem see_le (b : Bal) (t : Int) : t ≤ (seeB b t).te := by
  unfold seeB
  split
  · simp only; omega
  · omega
theorem grant_te (b : Bal) (t who : Int) (n : Bool) : (grantB b t who n).te = (seeB b t).te := by
  unfold grantB
  split
  · rename_i hg; exact hg.1.symm
  · rfl

def InB (b : Bal) : Prop := In64 b.te ∧ In64 b.vo
theorem in_see {b : Bal} {t : Int} (h : InB b) (ht : In64 t) : InB (seeB b t) := by
  unfold seeB
  split
  · exact ⟨ht, by unfold In64; simp⟩
  · exact h
theorem in_grant {b : Bal} {t who : Int} {n : Bool} (h : InB b) (ht : In64 t) (hw : In64 who) : InB (grantB b t who n) := by
  unfold grantB
  split
  · exact ⟨ht, hw⟩
  · exact in_see h ht
theorem in_right {b : Bal} (h : RightB b) : InB b := by
  unfold RightB at h
  unfold InB In64
  omega

/-! ### In memory -/
theorem size_box (w : World) (o : Obj) : (w.alloc o).heap.size = w.heap.size + 1 := Array.size_push _
theorem heap_two (w : World) (X Y : Obj) : ((w.alloc X).alloc Y).heap[w.heap.size + 1]? = some Y := by
  have h := heap_alloc_new (w.alloc X) Y
  rwa [size_box] at h
theorem below_two (w : World) (X Y : Obj) : Below w.heap.size w ((w.alloc X).alloc Y) := (below_box w X).alloc (below_box w X).size Y
theorem row_below {w w' : World} {g : Nat} {o : Obj} (h : w.heap[g]? = some o) (hb : Below w.heap.size w w') : w'.heap[g]? = some o := by
  rw [hb.block g (Array.getElem?_eq_some_iff.1 h).1]; exact h
/-- the ballot b at ⟨g, 0⟩, a row of its own -/
def BalAt (w : World) (g : Nat) (b : Bal) : Prop := w.heap[g]? = some (.cells #[.int .i64 b.te, .int .i64 b.vo] 92 (0, 0))
theorem BalAt.below {w w' : World} {g : Nat} {b : Bal} (h : BalAt w g b) (hb : Below w.heap.size w w') : BalAt w' g b := row_below h hb
theorem BalAt.keep {w w' : World} {g B : Nat} {b : Bal} (h : BalAt w g b) (hb : Below B w w') (hg : g < B) : BalAt w' g b := by
  unfold BalAt at h ⊢
  rw [hb.block g hg]; exact h
theorem BalAt.c0 {w : World} {g : Nat} {b : Bal} (h : BalAt w g b) : w.cell? ⟨g, 0, none⟩ = some (.int .i64 b.te) := row_cell h 0
theorem BalAt.c1 {w : World} {g : Nat} {b : Bal} (h : BalAt w g b) : w.cell? ⟨g, 1, none⟩ = some (.int .i64 b.vo) := row_cell h 1
theorem BalAt.s0 {w : World} {g : Nat} {b : Bal} (h : BalAt w g b) (x : Int) : BalAt (w.setCell ⟨g, 0, none⟩ (.int .i64 x)) g ⟨x, b.vo⟩ := row_set h 0 _
theorem BalAt.s1 {w : World} {g : Nat} {b : Bal} (h : BalAt w g b) (x : Int) : BalAt (w.setCell ⟨g, 1, none⟩ (.int .i64 x)) g ⟨b.te, x⟩ := row_set h 1 _
theorem BalAt.put {w : World} {g : Nat} {b : Bal} (h : BalAt w g b) (c : Bal) : BalAt (w.setRow g #[.int .i64 c.te, .int .i64 c.vo]) g c := setRow_heap w g _ _ _ (0, 0) h
theorem BalAt.put_else {w : World} {g k : Nat} {b : Bal} (h : BalAt w g b) (hk : ¬ k = g) (cs : Array Value) : BalAt (w.setRow k cs) g b := by
  unfold BalAt at h ⊢
  rw [setRow_other w k g _ (fun e => hk e.symm)]; exact h
theorem BalAt.set_else {w : World} {g k : Nat} {b : Bal} (h : BalAt w g b) (hk : ¬ k = g) (j : Nat) (v : Value) : BalAt (w.setCell ⟨k, j, none⟩ v) g b := by
  unfold BalAt at h ⊢
  simp [World.setCell, Array.getElem?_modify, hk, h]
theorem below_set {B : Nat} {a w : World} (h : Below B a w) {g : Nat} (hg : B ≤ g) (j : Nat) (v : Value) : Below B a (w.setCell ⟨g, j, none⟩ v) := h.setCell (p := (⟨g, j, none⟩ : Addr)) hg v
theorem below_row {B : Nat} {a w : World} (h : Below B a w) {g : Nat} (hg : B ≤ g) (cs : Array Value) (hB : B ≤ w.heap.size) : Below B a (w.setRow g cs) := h.trans ⟨rfl, rfl, rfl, by simp, fun q hq => setRow_other w g q _ (by omega)⟩
theorem BalAt.new (w : World) (b : Bal) : BalAt (w.alloc (.cells #[.int .i64 b.te, .int .i64 b.vo] 92)) w.heap.size b := heap_alloc_new _ _
theorem bal_info : (Tryz.prog.info? 92).map (·.size) = some 2 := by kernel_rfl
/-- so that a walk takes it whole, behind a guard too ('attribute [local go_sem ↓] ldBal_eq') -/
def ldBal (p : Value) : Sem Value := Instr.loadAt 92 p
theorem ldBal_eq (p : Value) : Instr.loadAt 92 p = ldBal p := rfl
theorem ldBal_run {w : World} {g : Nat} {b : Bal} (h : BalAt w g b) :
    (ldBal (.pointer (some ⟨g, 0, none⟩))).run Tryz.prog w = .ok (.agg #[.int .i64 b.te, .int .i64 b.vo]) w := by
  have hr : w.rangeAt g 0 [.int .i64 b.te, .int .i64 b.vo] := fun j v hv => by
    match j, hv with
    | 0, hv => simp at hv; subst hv; exact h.c0
    | 1, hv => simp at hv; subst hv; exact h.c1
  exact run_loadAt_mid w g 0 92 [.int .i64 b.te, .int .i64 b.vo] _ hr Tryz.underlying92 rfl bal_info
theorem results_cell_2 {P : Program} {fn : Func} {p u : Tmp} {ty : TypeId} (h : fn.results = #[.cell p ty, .tmp u]) (tmps : Array Value) (w : World) (g : Nat) (t : TypeId) (cs : Array Value) (fr : Nat × Nat) (d : TypeDesc) (b : Value)
    (hp : tmps.getD p undef = .pointer (some ⟨g, 0, none⟩)) (hb : tmps.getD u undef = b) (hg : w.heap[g]? = some (.cells cs t fr))
    (hu : P.underlying ty = some d) (hd : (match d with | .struct _ | .array _ _ => true | _ => false) = true) (hi : (P.info? ty).map (·.size) = some cs.size) :
    (results fn tmps).run P w = .ok (.tuple #[.agg cs, b]) w := by
  rw [results_cell_tmp h, hp, hb]
  simp [asAddr, run_loadVar_row w g t ty cs fr d hg hu hd hi, Result.andThen]

section
variable {H : Type} {enc : TypeId × Value → H} {P : Program}
theorem open_bal {W : World} {base : Nat} {v : Value} {d : DataW H} {p : List MemPlace} {te : TypeId} {fs : Array Field} {f0 f1 : Field} (he : P.underlying te = some (.struct fs)) (h0 : fs[0]? = some f0) (h1 : fs[1]? = some f1)
    (o0 : f0.offset = 0) (o1 : f1.offset = 1) (i0 : P.underlying f0.type = some (.int .i64)) (i1 : P.underlying f1.type = some (.int .i64))
    (c0 : P.cellsOf f0.type = 1) (c1 : P.cellsOf f1.type = 1) (ce : P.cellsOf te = 2) (hval : Value.okWide P W .any base te v) (h : DataW.Trod enc P W 0 (fun _ => true) true te v d p) :
    ∃ q : Bal, v = .agg #[.int .i64 q.te, .int .i64 q.vo] ∧ InB q := by
  obtain ⟨cs, rfl, hsz⟩ := okWide_struct he hval
  obtain ⟨l⟩ := cs
  match l, hsz.trans ce with
  | [x0, x1], _ =>
    obtain ⟨fuel, hf⟩ := h
    obtain ⟨xs, n', _, _, _, hxl, hg⟩ := DataW.trod_struct he hf
    have e0 := hg 0 f0 h0
    have e1 := hg 1 f1 h1
    rw [o0, c0] at e0
    rw [o1, c1] at e1
    simp only [Value.cells, List.drop_zero, List.take_succ_cons, List.take_zero, List.drop_succ_cons] at e0 e1
    have hs : ∀ j f, fs[j]? = some f → j < xs.length := fun j f hj => by rw [hxl]; exact (Array.getElem?_eq_some_iff.1 hj).1
    rw [List.getElem?_eq_getElem (hs 0 _ h0)] at e0
    rw [List.getElem?_eq_getElem (hs 1 _ h1)] at e1
    obtain ⟨v0, b0, _, w0⟩ := DataW.trod_int i0 e0
    obtain ⟨v1, b1, _, w1⟩ := DataW.trod_int i1 e1
    simp only [List.cons.injEq, and_true] at b0 b1
    subst b0; subst b1
    have k0 := bounds_i64 w0; have k1 := bounds_i64 w1
    exact ⟨⟨v0, v1⟩, rfl, ⟨k0.1, k0.2⟩, ⟨k1.1, k1.2⟩⟩
theorem okWide_array {t : TypeId} {n : Nat} {e : TypeId} {r : Reach} {base : Nat} {w : World} {v : Value} (ht : P.underlying t = some (.array n e)) (h : Value.okWide P w r base t v) : ∃ cs, v = .agg cs ∧ cs.size = P.cellsOf t := by
  simp only [Value.okWide, ht] at h
  obtain ⟨cs, h1, h2, _⟩ := h
  exact ⟨cs, h1, h2⟩
/-- an argument of type [2]int -/
theorem open_pair {W : World} {base : Nat} {v : Value} {d : DataW H} {p : List MemPlace} {te ti : TypeId} (he : P.underlying te = some (.array 2 ti)) (hi : P.underlying ti = some (.int .i64)) (ci : P.cellsOf ti = 1) (ce : P.cellsOf te = 2)
    (hval : Value.okWide P W .any base te v) (h : DataW.Trod enc P W 0 (fun _ => true) true te v d p) :
    ∃ a b : Int, v = .agg #[.int .i64 a, .int .i64 b] ∧ In64 a ∧ In64 b := by
  obtain ⟨cs, rfl, hsz⟩ := okWide_array he hval
  obtain ⟨l⟩ := cs
  match l, hsz.trans ce with
  | [x0, x1], _ =>
    obtain ⟨fuel, hf⟩ := h
    obtain ⟨xs, n', _, _, _, hxl, hg⟩ := DataW.trod_array he hf
    have e0 := hg 0 (by omega)
    have e1 := hg 1 (by omega)
    rw [ci] at e0 e1
    simp only [Value.cells, Nat.zero_mul, Nat.one_mul, List.drop_zero, List.take_succ_cons, List.take_zero, List.drop_succ_cons] at e0 e1
    rw [List.getElem?_eq_getElem (by omega)] at e0 e1
    obtain ⟨v0, b0, _, w0⟩ := DataW.trod_int hi e0
    obtain ⟨v1, b1, _, w1⟩ := DataW.trod_int hi e1
    simp only [List.cons.injEq, and_true] at b0 b1
    subst b0; subst b1
    have k0 := bounds_i64 w0; have k1 := bounds_i64 w1
    exact ⟨v0, v1, rfl, ⟨k0.1, k0.2⟩, ⟨k1.1, k1.2⟩⟩
end
end Go.Proofs.YtdlgihgdpdiglaaGreat.bal
