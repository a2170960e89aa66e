/-
  A table in memory (TabAt): its struct, its map of clients; lookups, a store into a map, and what keeps a map. Of the program: nothing but the types. Conditions: what each names.
-/
import Derived.Test.YtkjfaijdmpnjkaaDupMath
import Derived.Test.YtkjfaijdmpnjkaaOwnM
import Derived.Test.YtkjfaijdmpnjkaaProg
import Derived.Maps.RangeWalk
import Derived.Maps.OwnSet
import Derived.Maps.Ext
import Derived.Laws.OwnMore
namespace Go.Proofs.Ytkjfaijdmpnjkaa
open Go.ChangeShapes Go.WideShapes Go.ChangeAt Go.RowKit Go.Maps
set_option linter.unusedVariables false

def lsV (c : Int × Int) : Value := .agg #[.int .i64 c.1, .int .i64 c.2]
def lsR (v : Value) : Option (DataW Value × List MemPlace) :=
  match v with
  | .agg ⟨[.int .i64 a, .int .i64 b]⟩ => some (.held v, [])
  | _ => none
theorem lsR_inv {v : Value} {y : DataW Value × List MemPlace} (h : lsR v = some y) : ∃ c, v = lsV c := by
  unfold lsR at h
  split at h
  · exact ⟨(_, _), rfl⟩
  · cases h
theorem lsR_lsV (c : Int × Int) : lsR (lsV c) = some (.held (lsV c), []) := rfl
theorem keyed : Keyed Try.prog 3 := int_keyed Try.underlying3
theorem zero_ls (w : World) : (zeroValue 54).run Try.prog w = .ok (lsV (0, 0)) w := by kernel_rfl
theorem key_of {k : Int} (h1 : -9223372036854775808 ≤ k) (h2 : k ≤ 9223372036854775807) : keyOf Try.prog 3 (.int .i64 k) = some (.int .i64 k) :=
  keyOf_int_mk Try.underlying3 (WalkArith.wf_i64 (by omega))
def encT (l : Lst) : Lit × DataW Value := (.int .i64 l.1, .held (lsV l.2))
def tabD (x : List Lst) : DataW Value := .map (x.map encT)
theorem encT_filter (x : List Lst) (k : Int) : (x.map encT).filter (fun p => !p.1.sameKey (.int .i64 k)) = (x.filter (fun l => l.1 != k)).map encT := by
  rw [List.filter_map]
  congr 1
  apply List.filter_congr
  intro p _
  simp [encT, Lit.sameKey, Bool.not_eq_eq_eq_not]
  by_cases e : p.1 = k <;> simp [e]
def insL (p : Lst) : List Lst → List Lst
  | [] => [p]
  | y :: r => if p.1 < y.1 then p :: y :: r else y :: insL p r
theorem insert_encT (p : Lst) : ∀ x : List Lst, DataW.insert (encT p) (x.map encT) = (insL p x).map encT
  | [] => rfl
  | y :: r => by
    simp only [List.map_cons, DataW.insert, insL]
    by_cases hlt : p.1 < y.1
    · have e : (encT p).1.before (encT y).1 = true := by simp [encT, Lit.before, hlt]
      rw [if_pos e, if_pos hlt]; rfl
    · have e : ¬ (encT p).1.before (encT y).1 = true := by simp [encT, Lit.before, hlt]
      rw [if_neg e, if_neg hlt, insert_encT p r]; rfl
theorem insL_all {p : Lst} : ∀ {x : List Lst}, (∀ l ∈ x, p.1 < l.1) → insL p x = p :: x
  | [], _ => rfl
  | y :: r, h => by
    unfold insL
    rw [if_pos (h y List.mem_cons_self)]
theorem insL_put {c n e : Int} : ∀ {x : List Lst}, Rise x → insL (c, n, e) (x.filter (fun l => l.1 != c)) = putL x c n e
  | [], _ => rfl
  | y :: r, h => by
    obtain ⟨hy, hr⟩ := List.pairwise_cons.1 h
    by_cases h1 : y.1 < c
    · have q1 : (y.1 != c) = true := by simp; omega
      have q2 : ¬ c < y.1 := by omega
      have ih := insL_put (c := c) (n := n) (e := e) hr
      unfold putL at ih ⊢
      simp only [List.filter_cons, q1, h1, q2, decide_true, decide_false, if_true, Bool.false_eq_true, if_false, List.cons_append]
      unfold insL
      rw [if_neg (by simp only; omega), ih]
    · have hall : ∀ l ∈ r, c < l.1 := fun l hl => by have := hy l hl; omega
      have f1 : r.filter (fun l => l.1 != c) = r := List.filter_eq_self.2 fun l hl => by have := hall l hl; simp; omega
      have f2 : r.filter (fun l => decide (l.1 < c)) = [] := List.filter_eq_nil_iff.2 fun l hl => by have := hall l hl; simp; omega
      have f3 : r.filter (fun l => decide (c < l.1)) = r := List.filter_eq_self.2 fun l hl => by simpa using hall l hl
      unfold putL
      by_cases h2 : c < y.1
      · have q1 : (y.1 != c) = true := by simp; omega
        simp only [List.filter_cons, q1, h1, h2, decide_true, decide_false, if_true, Bool.false_eq_true, if_false, f1, f2, f3, List.nil_append]
        exact insL_all fun l hl => by
          rcases List.mem_cons.1 hl with rfl | hl
          · exact h2
          · exact hall l hl
      · have q1 : (y.1 != c) = false := by simp; omega
        simp only [List.filter_cons, q1, h1, h2, decide_false, Bool.false_eq_true, if_false, f1, f2, f3, List.nil_append]
        exact insL_all hall
theorem tabD_put {x : List Lst} (h : Rise x) (c n e : Int) : (tabD x).put (.int .i64 c) (.held (lsV (n, e))) = tabD (putL x c n e) := by
  unfold tabD DataW.put
  simp only
  rw [encT_filter, ← insL_put h, ← insert_encT]
  rfl
theorem tabD_has (x : List Lst) (k : Int) : has (tabD x) (.int .i64 k) = (atL x k).isSome := by
  unfold tabD atL
  rw [has_eq, List.any_map, Bool.eq_iff_iff, List.find?_isSome]
  simp [encT, Lit.sameKey]
theorem tabD_size (x : List Lst) : Maps.size (tabD x) = x.length := by simp [tabD, Maps.size]
theorem tabD_find (x : List Lst) (k : Int) : (x.map encT).find? (fun q => q.1.sameKey (.int .i64 k)) = (atL x k).map encT := by
  unfold atL
  rw [List.find?_map]
  congr 2
  funext l
  simp [encT, Lit.sameKey, Function.comp]
  by_cases e : l.1 = k <;> simp [e]
theorem tabD_at {x : List Lst} {k : Int} {l : Lst} {z : DataW Value} (hk : atL x k = some l) : (tabD x).atKey (.int .i64 k) z = .held (lsV l.2) := by
  unfold tabD DataW.atKey
  simp only
  rw [tabD_find, hk]
  rfl
theorem tabD_none {x : List Lst} {k : Int} {z : DataW Value} (hk : atL x k = none) : (tabD x).atKey (.int .i64 k) z = z := by
  unfold tabD DataW.atKey
  simp only
  rw [tabD_find, hk]
  rfl
/-- a map at b that has the clients x -/
def TabM (w : World) (b : Nat) (x : List Lst) : Prop := w.ownsMap Try.prog 3 lsR b x.length (tabD x)
theorem map_turned {p : Nat → Prop} {w w' : World} {m n : Nat} {D : DataW Value} (h : w.ownsMap Try.prog 3 lsR m n D) (ht : Turned p w w') (hp : ¬ p m) : w'.ownsMap Try.prog 3 lsR m n D := by
  obtain ⟨es, clock, hb, F, hs, hD⟩ := h
  exact ⟨es, clock, ht.heap hb hp, F, hs, hD⟩
theorem map_size {w : World} {m n : Nat} {D : DataW Value} (h : w.ownsMap Try.prog 3 lsR m n D) : w.ownsMap Try.prog 3 lsR m (Maps.size D) D := by
  obtain ⟨es, clock, hb, F, hs, rfl⟩ := h
  exact ⟨es, clock, hb, F, by simp [Maps.size, length_sorted], rfl⟩
theorem TabM.turned {p : Nat → Prop} {w w' : World} {b : Nat} {x : List Lst} (h : TabM w b x) (ht : Turned p w w') (hp : ¬ p b) : TabM w' b x := map_turned h ht hp
theorem TabM.below {w w' : World} {b : Nat} {x : List Lst} (h : TabM w b x) (hb : Below w.heap.size w w') : TabM w' b x := h.turned (p := fun _ => False) (.of_below hb) id
theorem TabM.made (w : World) : TabM (w.alloc (.map #[] 0)) w.heap.size [] := World.ownsMap_made w _ _ _
theorem TabM.lt {w : World} {b : Nat} {x : List Lst} (h : TabM w b x) : b < w.heap.size := by
  obtain ⟨es, clock, hb, _⟩ := h
  exact (Array.getElem?_eq_some_iff.1 hb).1
theorem turned_of_map {w w' : World} {b : Nat} (h : w.mapTurned w' b) : Turned (fun k => k = b) w w' := Turned.of_grown h.grown (p := fun k => k = b) fun k e => by injection e with e; exact e.symm
/-- m[k] = c: it runs, and this is what stands then -/
theorem put_run {w : World} {b : Nat} {x : List Lst} {k : Int} (n e : Int) (h : TabM w b x) (hr : Rise x) (h1 : -9223372036854775808 ≤ k) (h2 : k ≤ 9223372036854775807) (hl : x.length ≤ 1000000) :
    ∃ w', (Instr.mapUpdate 24 (.map (some b)) (.int .i64 k) (.agg #[.int .i64 n, .int .i64 e])).run Try.prog w = .ok () w' ∧ TabM w' b (putL x k n e) ∧ Turned (fun k => k = b) w w' := by
  obtain ⟨w', hrun, hown, ht⟩ := World.ownsMap.store h keyed Try.underlying24 (by unfold maxLen; omega) (key_of h1 h2) (val := lsV (n, e)) (d := .held (lsV (n, e))) (ps := []) rfl
  rw [tabD_put hr] at hown
  have hsz := map_size hown
  rw [tabD_size] at hsz
  exact ⟨w', hrun, hsz, turned_of_map ht⟩
/-- what stands at a client -/
def lastOf (x : List Lst) (k : Int) : Int × Int := match atL x k with | some l => l.2 | none => (0, 0)
/-- a map or nil -/
def MapT (w : World) (m : Option Nat) (x : List Lst) : Prop := (m = none ∧ x = []) ∨ ∃ b, m = some b ∧ TabM w b x
theorem MapT.turned {p : Nat → Prop} {w w' : World} {m : Option Nat} {x : List Lst} (h : MapT w m x) (ht : Turned p w w') (hp : ∀ k, m = some k → ¬ p k) : MapT w' m x := by
  rcases h with h | ⟨b, rfl, hm⟩
  · exact .inl h
  · exact .inr ⟨b, rfl, hm.turned ht (hp b rfl)⟩
theorem MapT.below {w w' : World} {m : Option Nat} {x : List Lst} (h : MapT w m x) (hb : Below w.heap.size w w') : MapT w' m x := h.turned (p := fun _ => False) (.of_below hb) fun _ _ e => e
theorem MapT.lt {w : World} {m : Option Nat} {x : List Lst} (h : MapT w m x) : ∀ k, m = some k → k < w.heap.size := by
  rcases h with ⟨rfl, rfl⟩ | ⟨b, rfl, hm⟩
  · intro k e; cases e
  · intro k e; injection e with e; subst e; exact hm.lt
set_option maxRecDepth 100000 in
theorem get_run {w : World} {m : Option Nat} {x : List Lst} {k : Int} (h : MapT w m x) (h1 : -9223372036854775808 ≤ k) (h2 : k ≤ 9223372036854775807) :
    (Instr.lookup 24 (.map m) (.int .i64 k) false).run Try.prog w = .ok (.agg #[.int .i64 (lastOf x k).1, .int .i64 (lastOf x k).2]) w := by
  rcases h with ⟨rfl, rfl⟩ | ⟨b, rfl, hm⟩
  · have hrun := Maps.look_nil (P := Try.prog) (w := w) false keyed Try.underlying24 (zero_ls w) (key_of h1 h2)
    rw [hrun]; rfl
  · obtain ⟨v, ps, hrun, hv⟩ := World.ownsMap.lookup hm keyed Try.underlying24 (zero_ls w) (zd := .held (lsV (0, 0))) (zp := []) rfl (key_of h1 h2)
    obtain ⟨c, rfl⟩ := lsR_inv hv
    rw [lsR_lsV] at hv
    simp only [Option.some.injEq, Prod.mk.injEq] at hv
    unfold lastOf
    cases hk : atL x k with
    | none =>
      rw [tabD_none hk] at hv
      injection hv.1 with e
      rw [hrun, e]; rfl
    | some l =>
      rw [tabD_at hk] at hv
      injection hv.1 with e
      rw [hrun, e]; rfl
set_option maxRecDepth 100000 in
theorem has_run {w : World} {m : Option Nat} {x : List Lst} {k : Int} (h : MapT w m x) (h1 : -9223372036854775808 ≤ k) (h2 : k ≤ 9223372036854775807) :
    (Instr.lookup 24 (.map m) (.int .i64 k) true).run Try.prog w = .ok (.tuple #[.agg #[.int .i64 (lastOf x k).1, .int .i64 (lastOf x k).2], .bool (atL x k).isSome]) w := by
  rcases h with ⟨rfl, rfl⟩ | ⟨b, rfl, hm⟩
  · have hrun := Maps.look_nil (P := Try.prog) (w := w) true keyed Try.underlying24 (zero_ls w) (key_of h1 h2)
    rw [hrun]; rfl
  · obtain ⟨v, ps, hrun, hv⟩ := World.ownsMap.look_ok hm keyed Try.underlying24 (zero_ls w) (zd := .held (lsV (0, 0))) (zp := []) rfl (key_of h1 h2)
    rw [tabD_has] at hrun
    obtain ⟨c, rfl⟩ := lsR_inv hv
    rw [lsR_lsV] at hv
    simp only [Option.some.injEq, Prod.mk.injEq] at hv
    unfold lastOf
    cases hk : atL x k with
    | none =>
      rw [tabD_none hk] at hv
      injection hv.1 with e
      rw [hrun, e, hk]; rfl
    | some l =>
      rw [tabD_at hk] at hv
      injection hv.1 with e
      rw [hrun, e, hk]; rfl
theorem len_run {w : World} {m : Option Nat} {x : List Lst} (h : MapT w m x) (ty : TypeId) : (Builtin.len_ #[24] ty #[.map m]).run Try.prog w = .ok (.int .i64 (x.length : Int)) w := by
  rcases h with ⟨rfl, rfl⟩ | ⟨b, rfl, hm⟩
  · exact Maps.len_nil Try.underlying24 ty
  · rw [World.ownsMap.len hm Try.underlying24 ty, tabD_size]

/-! ### a table in memory -/
/-- a table at g, whose map is m, with the clients x -/
def TabAt (w : World) (g : Nat) (m : Option Nat) (x : List Lst) : Prop := w.heap[g]? = some (.cells #[.map m] 26 (0, 0)) ∧ MapT w m x
theorem TabAt.lt {w : World} {g : Nat} {m : Option Nat} {x : List Lst} (h : TabAt w g m x) : g < w.heap.size := (Array.getElem?_eq_some_iff.1 h.1).1
theorem TabAt.apart {w : World} {g : Nat} {m : Option Nat} {x : List Lst} (h : TabAt w g m x) : m ≠ some g := fun e => by
  rcases h.2 with ⟨rfl, _⟩ | ⟨b, rfl, es, clock, hb, _⟩
  · cases e
  · injection e with e
    subst e
    have := h.1.symm.trans hb
    cases this
theorem TabAt.turned {p : Nat → Prop} {w w' : World} {g : Nat} {m : Option Nat} {x : List Lst} (h : TabAt w g m x) (ht : Turned p w w') (hg : ¬ p g) (hm : ∀ k, m = some k → ¬ p k) : TabAt w' g m x := ⟨ht.heap h.1 hg, h.2.turned ht hm⟩
theorem TabAt.below {w w' : World} {g : Nat} {m : Option Nat} {x : List Lst} (h : TabAt w g m x) (hb : Below w.heap.size w w') : TabAt w' g m x := h.turned (p := fun _ => False) (.of_below hb) id fun _ _ e => e
theorem new_tab (w : World) : TabAt (w.alloc (.cells #[.map none] 26)) w.heap.size none [] := ⟨heap_alloc_new _ _, .inl ⟨rfl, rfl⟩⟩
/-- a table whose map is set anew -/
theorem TabAt.set {w : World} {g : Nat} {m m' : Option Nat} {x x' : List Lst} (h : TabAt w g m x) (hm : MapT w m' x') (hne : m' ≠ some g) : TabAt (w.setCell ⟨g, 0, none⟩ (.map m')) g m' x' ∧ Turned (fun k => k = g) w (w.setCell ⟨g, 0, none⟩ (.map m')) := by
  have t := Turned.setCell (Turned.refl (fun k => k = g) w) (b := ⟨g, 0, none⟩) (fun _ => rfl) (.map m')
  refine ⟨⟨?_, hm.turned t fun k e e2 => hne (by rw [e, e2])⟩, t⟩
  rw [row_set h.1]; rfl
end Go.Proofs.Ytkjfaijdmpnjkaa
