/-
  Policies by definition: rightP, loadP, admitsP; a policy and a slice of policies in memory. Of the program: nothing but a policy's type. No condition but what each lemma names.
-/
import Derived.Test.YtcaaakoahaoooaaFields
import Derived.Test.YtcaaakoahaoooaaNums
import Derived.Test.YtcaaakoahaoooaaKept
import Derived.Test.YtcaaakoahaoooaaFix
import Derived.Deep.MidRow
import Derived.Deep.WholeRow
namespace Go.Proofs.Ytcaaakoahaoooaa
open Go.ChangeShapes Go.WideShapes Go.ChangeAt Go.RowKit
set_option linter.unusedVariables false

structure Pol where
  re : Int
  we : Int
  li : Int
  bu : Int
  deriving DecidableEq
def rightP (p : Pol) : Bool := decide (0 ≤ p.re ∧ p.re ≤ 1048576) && decide (1 ≤ p.we ∧ p.we ≤ 1024) && decide (0 ≤ p.li ∧ p.li ≤ 1048576) && decide (0 ≤ p.bu ∧ p.bu ≤ 1024) && decide (p.li = 0 ∨ p.re ≤ p.li)
theorem rightP_iff (p : Pol) : rightP p = true ↔ (0 ≤ p.re ∧ p.re ≤ 1048576) ∧ (1 ≤ p.we ∧ p.we ≤ 1024) ∧ (0 ≤ p.li ∧ p.li ≤ 1048576) ∧ (0 ≤ p.bu ∧ p.bu ≤ 1024) ∧ (p.li = 0 ∨ p.re ≤ p.li) := by
  simp only [rightP, Bool.and_eq_true, decide_eq_true_eq, and_assoc]
def shP (p : Pol) : Int := shareF (spaceF p.re)
theorem shareF_bd (a : Int) : 0 ≤ shareF a ∧ shareF a ≤ 1099511627776 := by
  unfold shareF
  split
  · have q0 : 0 ≤ 1099511627775 / a := Int.ediv_nonneg (by omega) (by omega)
    have q1 : 1099511627775 / a ≤ 1099511627775 := Int.ediv_le_self _ (by omega)
    omega
  · omega
theorem shP_bd (p : Pol) : 0 ≤ shP p ∧ shP p ≤ 1099511627776 := shareF_bd _
theorem spaceF_in (a : Int) : inI (spaceF a) := by
  unfold spaceF inI
  split
  · have q0 : 0 ≤ 65536000 / a := Int.ediv_nonneg (by omega) (by omega)
    have q1 : 65536000 / a ≤ 65536000 := Int.ediv_le_self _ (by omega)
    omega
  · omega
def loadP : List Pol → Int
  | [] => 0
  | p :: l => shP p + loadP l
theorem loadP_append (a b : List Pol) : loadP (a ++ b) = loadP a + loadP b := by
  induction a with
  | nil => simp [loadP]
  | cons p a ih => simp only [List.cons_append, loadP, ih]; omega
theorem loadP_bd : ∀ l : List Pol, 0 ≤ loadP l ∧ loadP l ≤ (l.length : Int) * 1099511627776
  | [] => ⟨Int.le_refl _, Int.le_refl _⟩
  | p :: l => by
    have h := loadP_bd l
    have k := shP_bd p
    simp only [loadP, List.length_cons]
    omega
theorem loadP_more {l : List Pol} {k : Nat} {p : Pol} (h : l[k]? = some p) : loadP (l.take (k + 1)) = loadP (l.take k) + shP p := by
  obtain ⟨hk, rfl⟩ := List.getElem?_eq_some_iff.1 h
  rw [List.take_succ_eq_append_getElem hk, loadP_append]
  simp [loadP]
theorem loadP_split (l : List Pol) (k : Nat) : loadP (l.take k) + loadP (l.drop k) = loadP l := by rw [← loadP_append, List.take_append_drop]
theorem loadP_part_bd {l : List Pol} (h : l.length ≤ 4096) (k : Nat) : 0 ≤ loadP (l.take k) ∧ loadP (l.take k) ≤ 4503599627370496 := by
  have h1 := loadP_bd (l.take k)
  have h2 : (l.take k).length ≤ 4096 := by rw [List.length_take]; omega
  omega
def allP (l : List Pol) : Bool := l.all rightP
theorem allP_more {l : List Pol} {k : Nat} {p : Pol} (h : l[k]? = some p) (ht : allP (l.take k) = true) (hp : rightP p = true) : allP (l.take (k + 1)) = true := by
  obtain ⟨hk, rfl⟩ := List.getElem?_eq_some_iff.1 h
  rw [List.take_succ_eq_append_getElem hk]
  unfold allP at ht ⊢
  rw [List.all_append, ht]
  simp [hp]
theorem allP_no {l : List Pol} {k : Nat} {p : Pol} (h : l[k]? = some p) (hp : rightP p = false) : allP l = false := by
  unfold allP
  rw [List.all_eq_false]
  exact ⟨p, List.mem_of_getElem? h, by simp [hp]⟩
def admitsP (picks : Int) (l : List Pol) : Bool := decide (1 ≤ picks ∧ picks ≤ 64) && decide (l.length ≤ 4096) && allP l && decide (loadP l ≤ picks * 16777216)

/-! ### In memory -/
def InP (p : Pol) : Prop := In64 p.re ∧ In64 p.we ∧ In64 p.li ∧ In64 p.bu
/-- the policy p at ⟨g, q⟩ -/
def PolAt (w : World) (g q : Nat) (p : Pol) : Prop :=
  w.cell? ⟨g, q, none⟩ = some (.int .i64 p.re) ∧ w.cell? ⟨g, q + 1, none⟩ = some (.int .i64 p.we) ∧ w.cell? ⟨g, q + 2, none⟩ = some (.int .i64 p.li) ∧ w.cell? ⟨g, q + 3, none⟩ = some (.int .i64 p.bu) ∧ InP p
/-- the slice that begins at A reads as l -/
def PolsAt (w : World) (A : Option Addr) (l : List Pol) : Prop :=
  l = [] ∨ ∃ g o, A = some ⟨g, o, none⟩ ∧ ∀ i p, l[i]? = some p → PolAt w g (o + i * 4) p
theorem PolAt.below {w w' : World} {g q : Nat} {p : Pol} (h : PolAt w g q p) (hb : Below w.heap.size w w') : PolAt w' g q p := by
  obtain ⟨h1, h2, h3, h4, h5⟩ := h
  exact ⟨by rw [hb.cell (block_lt_of_cell h1)]; exact h1, by rw [hb.cell (block_lt_of_cell h2)]; exact h2, by rw [hb.cell (block_lt_of_cell h3)]; exact h3, by rw [hb.cell (block_lt_of_cell h4)]; exact h4, h5⟩
theorem PolsAt.below {w w' : World} {A : Option Addr} {l : List Pol} (h : PolsAt w A l) (hb : Below w.heap.size w w') : PolsAt w' A l := by
  rcases h with rfl | ⟨g, o, hA, hc⟩
  · exact .inl rfl
  · exact .inr ⟨g, o, hA, fun i p hp => (hc i p hp).below hb⟩
theorem PolsAt.nil (w : World) (A : Option Addr) : PolsAt w A [] := .inl rfl
theorem PolsAt.get {w : World} {A : Option Addr} {l : List Pol} (h : PolsAt w A l) {k : Nat} (hk : k < l.length) : ∃ g o p, A = some ⟨g, o, none⟩ ∧ l[k]? = some p ∧ PolAt w g (o + k * 4) p := by
  rcases h with rfl | ⟨g, o, hA, hc⟩
  · simp at hk
  · exact ⟨g, o, l[k], hA, List.getElem?_eq_getElem hk, hc k _ (List.getElem?_eq_getElem hk)⟩
theorem PolsAt.take {w : World} {A : Option Addr} {l : List Pol} (h : PolsAt w A l) (k : Nat) : PolsAt w A (l.take k) := by
  rcases h with rfl | ⟨g, o, hA, hc⟩
  · exact .inl (by simp)
  · refine .inr ⟨g, o, hA, fun i p hp => hc i p ?_⟩
    rw [List.getElem?_take] at hp
    split at hp
    · exact hp
    · cases hp
/-- a cut from k on: the model lets the address stand where k is the capacity -/
theorem PolsAt.drop {w : World} {A : Option Addr} {l : List Pol} (h : PolsAt w A l) {k cap : Nat} (hc : l.length ≤ cap) :
    PolsAt w (if cap = k then A else A.map (·.add (k * 4))) (l.drop k) := by
  by_cases hk : l.length ≤ k
  · rw [List.drop_eq_nil_of_le hk]; exact .inl rfl
  · rw [if_neg (by omega)]
    rcases h with rfl | ⟨g, o, rfl, hc⟩
    · simp at hk
    · refine .inr ⟨g, o + k * 4, by simp [Addr.add_lit], fun i p hp => ?_⟩
      rw [List.getElem?_drop] at hp
      have := hc (k + i) p hp
      rwa [show o + k * 4 + i * 4 = o + (k + i) * 4 by omega]
/-- a block that holds one policy -/
theorem pol_of_row {w : World} {g : Nat} {p : Pol} {t : TypeId} (h : w.heap[g]? = some (.cells #[.int .i64 p.re, .int .i64 p.we, .int .i64 p.li, .int .i64 p.bu] t (0, 0))) (hp : InP p) : PolAt w g 0 p :=
  ⟨row_cell h 0, row_cell h 1, row_cell h 2, row_cell h 3, hp⟩
theorem pols_one {w : World} {g : Nat} {p : Pol} {t : TypeId} (h : w.heap[g]? = some (.cells #[.int .i64 p.re, .int .i64 p.we, .int .i64 p.li, .int .i64 p.bu] t (0, 0))) (hp : InP p) : PolsAt w (some ⟨g, 0, none⟩) [p] :=
  .inr ⟨g, 0, rfl, fun i q hq => by
    match i, hq with
    | 0, hq =>
      simp at hq
      subst hq
      exact pol_of_row h hp⟩
theorem pols_two {w : World} {g : Nat} {p q : Pol} {t : TypeId} (h : w.heap[g]? = some (.cells #[.int .i64 p.re, .int .i64 p.we, .int .i64 p.li, .int .i64 p.bu, .int .i64 q.re, .int .i64 q.we, .int .i64 q.li, .int .i64 q.bu] t (0, 0))) (hp : InP p) (hq : InP q) : PolsAt w (some ⟨g, 0, none⟩) [p, q] :=
  .inr ⟨g, 0, rfl, fun i r hr => by
    match i, hr with
    | 0, hr =>
      simp at hr
      subst hr
      exact ⟨row_cell h 0, row_cell h 1, row_cell h 2, row_cell h 3, hp⟩
    | 1, hr =>
      simp at hr
      subst hr
      exact ⟨row_cell h 4, row_cell h 5, row_cell h 6, row_cell h 7, hq⟩⟩

/-! ### A policy's load, under a name -/
theorem pol_info : (Try.prog.info? 29).map (·.size) = some 4 := by kernel_rfl
/-- so that a walk takes it whole, behind a guard too ('attribute [local go_sem ↓] ldPol_eq') -/
def ldPol (p : Value) : Sem Value := Instr.loadAt 29 p
theorem ldPol_eq (p : Value) : Instr.loadAt 29 p = ldPol p := rfl
theorem ldPol_run {w : World} {g o : Nat} {p : Pol} (h : PolAt w g o p) :
    (ldPol (.pointer (some ⟨g, o, none⟩))).run Try.prog w = .ok (.agg #[.int .i64 p.re, .int .i64 p.we, .int .i64 p.li, .int .i64 p.bu]) w := by
  obtain ⟨h0, h1, h2, h3, _⟩ := h
  have hr : w.rangeAt g o [.int .i64 p.re, .int .i64 p.we, .int .i64 p.li, .int .i64 p.bu] := fun j v hv => by
    match j, hv with
    | 0, hv => simp at hv; subst hv; exact h0
    | 1, hv => simp at hv; subst hv; exact h1
    | 2, hv => simp at hv; subst hv; exact h2
    | 3, hv => simp at hv; subst hv; exact h3
  exact run_loadAt_mid w g o 29 [.int .i64 p.re, .int .i64 p.we, .int .i64 p.li, .int .i64 p.bu] _ hr Try.underlying29 rfl pol_info
end Go.Proofs.Ytcaaakoahaoooaa
