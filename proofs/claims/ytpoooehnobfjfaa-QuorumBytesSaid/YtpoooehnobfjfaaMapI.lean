/-
  A map of ints in memory (MapF: told by the function that it is, and by how many keys it has at most); what keeps it, and the operations on it. They speak of no function of the program. Conditions: what each names.
-/
import Derived.Test.YtpoooehnobfjfaaHeapMath
import Derived.Test.YtpoooehnobfjfaaKept
import Derived.Test.YtpoooehnobfjfaaProg
import Derived.Maps.RangeWalk
import Derived.Maps.OwnSet
import Derived.Laws.OwnMore
namespace Go.Proofs.Ytpoooehnobfjfaa
open Go.ChangeShapes Go.WideShapes Go.ChangeAt Go.RowKit Go.Maps
set_option linter.unusedVariables false

/-! ### a map of ints -/
theorem keyed : Keyed Try.prog 3 := int_keyed Try.underlying3
theorem zero_int (w : World) : (zeroValue 3).run Try.prog w = .ok (.int .i64 0) w := by kernel_rfl
theorem key_of {k : Int} (h1 : -9223372036854775808 ≤ k) (h2 : k ≤ 9223372036854775807) : keyOf Try.prog 3 (.int .i64 k) = some (.int .i64 k) :=
  keyOf_int_mk Try.underlying3 (WalkArith.wf_i64 (by omega))
def heldR (v : Value) : Option (DataW Value × List MemPlace) := some (.held v, [])
def encK (f : Int → Int) (k : Int) : Lit × DataW Value := (.int .i64 k, .held (.int .i64 (f k)))
def intsD (ks : List Int) (f : Int → Int) : DataW Value := .map (ks.map (encK f))
theorem encK_filter (x : List Int) (f : Int → Int) (k : Int) : (x.map (encK f)).filter (fun p => !p.1.sameKey (.int .i64 k)) = (outK x k).map (encK f) := by
  rw [List.filter_map]
  congr 1
  apply List.filter_congr
  intro p _
  simp [encK, Lit.sameKey, Bool.not_eq_eq_eq_not]
  by_cases e : p = k <;> simp [e]
theorem insert_encK (f : Int → Int) (p : Int) : ∀ x : List Int, DataW.insert (encK f p) (x.map (encK f)) = (insK p x).map (encK f)
  | [] => rfl
  | y :: r => by
    simp only [List.map_cons, DataW.insert, insK]
    by_cases hlt : p < y
    · have e : (encK f p).1.before (encK f y).1 = true := by simp [encK, Lit.before, hlt]
      rw [if_pos e, if_pos hlt]; rfl
    · have e : ¬ (encK f p).1.before (encK f y).1 = true := by simp [encK, Lit.before, hlt]
      rw [if_neg e, if_neg hlt, insert_encK f p r]; rfl
theorem intsD_put (x : List Int) (f : Int → Int) (k v : Int) : (intsD x f).put (.int .i64 k) (.held (.int .i64 v)) = intsD (putK x k) (upd f k v) := by
  unfold intsD DataW.put putK
  simp only
  rw [encK_filter]
  congr 1
  have e : (outK x k).map (encK f) = (outK x k).map (encK (upd f k v)) := by
    apply List.map_congr_left
    intro p hp
    simp only [encK, upd_other (mem_outK.1 hp).2]
  rw [e, ← insert_encK]
  congr 1
  simp only [encK, upd_same]
theorem intsD_del (x : List Int) (f : Int → Int) (k : Int) : (intsD x f).del (.int .i64 k) = intsD (outK x k) f := by
  unfold intsD DataW.del
  simp only
  rw [encK_filter]
theorem intsD_has (x : List Int) (f : Int → Int) (k : Int) : has (intsD x f) (.int .i64 k) = decide (k ∈ x) := by
  unfold intsD
  rw [has_eq, List.any_map, Bool.eq_iff_iff]
  simp [encK, Lit.sameKey]
theorem intsD_size (x : List Int) (f : Int → Int) : Maps.size (intsD x f) = x.length := by simp [intsD, Maps.size]
theorem intsD_at {x : List Int} {f : Int → Int} {k : Int} {z : DataW Value} (hk : k ∈ x) : (intsD x f).atKey (.int .i64 k) z = .held (.int .i64 (f k)) := by
  unfold intsD DataW.atKey
  simp only
  have : ∃ q ∈ x, q = k ∧ (x.map (encK f)).find? (fun q => q.1.sameKey (.int .i64 k)) = some (encK f q) := by
    cases hf : (x.map (encK f)).find? (fun q => q.1.sameKey (.int .i64 k)) with
    | none =>
      have := List.find?_eq_none.1 hf (encK f k) (List.mem_map.2 ⟨k, hk, rfl⟩)
      simp [encK, Lit.sameKey] at this
    | some y =>
      have h1 := List.find?_some hf
      obtain ⟨q, hq, rfl⟩ := List.mem_map.1 (List.mem_of_find?_eq_some hf)
      refine ⟨q, hq, ?_, rfl⟩
      simpa [encK, Lit.sameKey] using h1
  obtain ⟨q, hq, rfl, e⟩ := this
  rw [e]
  rfl
theorem intsD_none {x : List Int} {f : Int → Int} {k : Int} {z : DataW Value} (hk : ¬ k ∈ x) : (intsD x f).atKey (.int .i64 k) z = z := by
  unfold intsD DataW.atKey
  simp only
  have : (x.map (encK f)).find? (fun q => q.1.sameKey (.int .i64 k)) = none := by
    rw [List.find?_eq_none]
    intro y hy
    obtain ⟨q, hq, rfl⟩ := List.mem_map.1 hy
    intro hs
    have e : q = k := by simpa [encK, Lit.sameKey] using hs
    exact hk (e ▸ hq)
  rw [this]
/-- a map at b that has the names ks, each at its place -/
def PlacesAt (w : World) (b : Nat) (ks : List Int) (f : Int → Int) : Prop := w.ownsMap Try.prog 3 heldR b ks.length (intsD ks f)
theorem map_turned {p : Nat → Prop} {w w' : World} {m n : Nat} {D : DataW Value} (h : w.ownsMap Try.prog 3 heldR m n D) (ht : Turned p w w') (hp : ¬ p m) : w'.ownsMap Try.prog 3 heldR m n D := by
  obtain ⟨es, clock, hb, F, hs, hD⟩ := h
  exact ⟨es, clock, ht.heap hb hp, F, hs, hD⟩
theorem map_lt {w : World} {m n : Nat} {D : DataW Value} (h : w.ownsMap Try.prog 3 heldR m n D) : ∃ es clock, w.heap[m]? = some (.map es clock) := by
  obtain ⟨es, clock, hb, _⟩ := h
  exact ⟨es, clock, hb⟩
theorem map_size {w : World} {m n : Nat} {D : DataW Value} (h : w.ownsMap Try.prog 3 heldR m n D) : w.ownsMap Try.prog 3 heldR m (Maps.size D) D := by
  obtain ⟨es, clock, hb, F, hs, rfl⟩ := h
  exact ⟨es, clock, hb, F, by simp [Maps.size, length_sorted], rfl⟩
theorem PlacesAt.turned {p : Nat → Prop} {w w' : World} {b : Nat} {ks : List Int} {f : Int → Int} (h : PlacesAt w b ks f) (ht : Turned p w w') (hp : ¬ p b) : PlacesAt w' b ks f := map_turned h ht hp
theorem PlacesAt.made (w : World) (f : Int → Int) : PlacesAt (w.alloc (.map #[] 0)) w.heap.size [] f := World.ownsMap_made w _ _ _

section
variable {w : World} {ops : Array Oper} {rest : List Oper} {o : Oper} {a : Act} {Q : Exit → Act → World → Prop}
theorem turned_of_map {w w' : World} {b : Nat} (h : w.mapTurned w' b) : Turned (fun k => k = b) w w' := Turned.of_grown h.grown (p := fun k => k = b) fun k e => by injection e with e; exact e.symm
/-- m[k] = v -/
theorem wpList_putI (hg : o.guard = none) (m x v : Operand) (hop : o.op = Op.mapUpdate 24 m x v) (b : Nat) (ks : List Int) (f : Int → Int) (k val : Int) (hm : a.eval m = .map (some b)) (hx : a.eval x = .int .i64 k) (hv : a.eval v = .int .i64 val)
    (h : PlacesAt w b ks f) (h1 : -9223372036854775808 ≤ k) (h2 : k ≤ 9223372036854775807) (hl : ks.length ≤ 1000000)
    (hK : ∀ w', PlacesAt w' b (putK ks k) (upd f k val) → Turned (fun k => k = b) w w' → wpList Try.prog ops Q rest (a.put o.dst undef) w') : wpList Try.prog ops Q (o :: rest) a w := by
  refine wpList_mapUpdate_in w hg m x v _ hop 3 3 keyed Try.underlying24 heldR b _ _ hm h (by unfold maxLen; omega) _ _ (.int .i64 k) hx hv (key_of h1 h2) (.held (.int .i64 val)) [] rfl ?_
  intro w' hown' hturn
  rw [intsD_put] at hown'
  have hsz := map_size hown'
  rw [intsD_size] at hsz
  exact hK w' hsz (turned_of_map hturn)
/-- m[k] = v in a literal -/
theorem wpList_insI (hg : o.guard = none) (m x v : Operand) (hop : o.op = Op.insert 24 m x v) (b : Nat) (ks : List Int) (f : Int → Int) (k val : Int) (hm : a.eval m = .map (some b)) (hx : a.eval x = .int .i64 k) (hv : a.eval v = .int .i64 val)
    (h : PlacesAt w b ks f) (h1 : -9223372036854775808 ≤ k) (h2 : k ≤ 9223372036854775807) (hl : ks.length ≤ 1000000)
    (hK : ∀ w', PlacesAt w' b (putK ks k) (upd f k val) → Turned (fun k => k = b) w w' → wpList Try.prog ops Q rest (a.put o.dst undef) w') : wpList Try.prog ops Q (o :: rest) a w := by
  refine wpList_plain hg fun K' hK' => ?_
  obtain ⟨w', hrun, hown', hturn⟩ := World.ownsMap.store h keyed Try.underlying24 (show ks.length < maxLen by unfold maxLen; omega) (key_of h1 h2) (val := .int .i64 val) (d := .held (.int .i64 val)) (ps := []) rfl
  unfold Oper.wp
  simp [execOp, hop, hm, hx, hv, hrun, Result.andThen]
  rw [intsD_put] at hown'
  have hsz := map_size hown'
  rw [intsD_size] at hsz
  exact hK' _ _ (hK w' hsz (turned_of_map hturn))
end

/-! ### a map as a function -/
def MapF (w : World) (b n : Nat) (f : Int → Int) : Prop := ∃ ks F, PlacesAt w b ks F ∧ ks.length ≤ n ∧ ∀ k, f k = if k ∈ ks then F k else 0
theorem MapF.turned {p : Nat → Prop} {w w' : World} {b n : Nat} {f : Int → Int} (h : MapF w b n f) (ht : Turned p w w') (hp : ¬ p b) : MapF w' b n f := by
  obtain ⟨ks, F, h1, h2, h3⟩ := h
  exact ⟨ks, F, h1.turned ht hp, h2, h3⟩
theorem MapF.below {w w' : World} {b n : Nat} {f : Int → Int} (h : MapF w b n f) (hb : Below w.heap.size w w') : MapF w' b n f := h.turned (p := fun _ => False) (.of_below hb) id
theorem MapF.mono {w : World} {b n m : Nat} {f : Int → Int} (h : MapF w b n f) (hm : n ≤ m) : MapF w b m f := by
  obtain ⟨ks, F, h1, h2, h3⟩ := h
  exact ⟨ks, F, h1, by omega, h3⟩
theorem MapF.of_eq {w : World} {b n : Nat} {f g : Int → Int} (h : MapF w b n f) (e : ∀ k, g k = f k) : MapF w b n g := by
  obtain ⟨ks, F, h1, h2, h3⟩ := h
  exact ⟨ks, F, h1, h2, fun k => (e k).trans (h3 k)⟩
theorem MapF.made (w : World) : MapF (w.alloc (.map #[] 0)) w.heap.size 0 (fun _ => 0) := ⟨[], fun _ => 0, PlacesAt.made w _, Nat.le_refl _, fun k => by simp⟩
theorem MapF.lt {w : World} {b n : Nat} {f : Int → Int} (h : MapF w b n f) : b < w.heap.size := by
  obtain ⟨ks, F, h1, h2, h3⟩ := h
  obtain ⟨es, cl, hc⟩ := map_lt h1
  exact (Array.getElem?_eq_some_iff.1 hc).1
theorem mapF_put {w : World} {b n : Nat} {f F : Int → Int} {ks : List Int} {k v : Int} (h1 : PlacesAt w b (putK ks k) (upd F k v)) (h2 : ks.length ≤ n) (h3 : ∀ k, f k = if k ∈ ks then F k else 0) : MapF w b (n + 1) (upd f k v) := by
  refine ⟨_, _, h1, Nat.le_trans (putK_length ks k) (by omega), fun j => ?_⟩
  by_cases e : j = k
  · subst e
    rw [upd_same, if_pos (mem_putK.2 (.inl rfl)), upd_same]
  · rw [upd_other e, upd_other e, h3 j]
    by_cases hj : j ∈ ks
    · rw [if_pos hj, if_pos (mem_putK.2 (.inr hj))]
    · rw [if_neg hj, if_neg fun hh => (mem_putK.1 hh).elim e hj]

section
variable {w : World} {ops : Array Oper} {rest : List Oper} {o : Oper} {a : Act} {Q : Exit → Act → World → Prop}
theorem wpList_putF (hg : o.guard = none) (m x v : Operand) (hop : o.op = Op.mapUpdate 24 m x v) (b n : Nat) (f : Int → Int) (k val : Int) (hm : a.eval m = .map (some b)) (hx : a.eval x = .int .i64 k) (hv : a.eval v = .int .i64 val)
    (h : MapF w b n f) (h1 : -9223372036854775808 ≤ k) (h2 : k ≤ 9223372036854775807) (hl : n ≤ 1000000)
    (hK : ∀ w', MapF w' b (n + 1) (upd f k val) → Turned (fun k => k = b) w w' → wpList Try.prog ops Q rest (a.put o.dst undef) w') : wpList Try.prog ops Q (o :: rest) a w := by
  obtain ⟨ks, F, p1, p2, p3⟩ := h
  exact wpList_putI hg m x v hop b ks F k val hm hx hv p1 h1 h2 (by omega) fun w' q ht => hK w' (mapF_put q p2 p3) ht
theorem wpList_insF (hg : o.guard = none) (m x v : Operand) (hop : o.op = Op.insert 24 m x v) (b n : Nat) (f : Int → Int) (k val : Int) (hm : a.eval m = .map (some b)) (hx : a.eval x = .int .i64 k) (hv : a.eval v = .int .i64 val)
    (h : MapF w b n f) (h1 : -9223372036854775808 ≤ k) (h2 : k ≤ 9223372036854775807) (hl : n ≤ 1000000)
    (hK : ∀ w', MapF w' b (n + 1) (upd f k val) → Turned (fun k => k = b) w w' → wpList Try.prog ops Q rest (a.put o.dst undef) w') : wpList Try.prog ops Q (o :: rest) a w := by
  obtain ⟨ks, F, p1, p2, p3⟩ := h
  exact wpList_insI hg m x v hop b ks F k val hm hx hv p1 h1 h2 (by omega) fun w' q ht => hK w' (mapF_put q p2 p3) ht
/-- m[k] -/
theorem wpList_getF (hg : o.guard = none) (m x : Operand) (hop : o.op = Op.lookup 24 m x false) (b n : Nat) (f : Int → Int) (k : Int) (hm : a.eval m = .map (some b)) (hx : a.eval x = .int .i64 k)
    (h : MapF w b n f) (h1 : -9223372036854775808 ≤ k) (h2 : k ≤ 9223372036854775807)
    (hK : wpList Try.prog ops Q rest (a.put o.dst (.int .i64 (f k))) w) : wpList Try.prog ops Q (o :: rest) a w := by
  obtain ⟨ks, F, hmap, p2, p3⟩ := h
  refine wpList_plain hg fun K' hK' => ?_
  obtain ⟨v, ps, hrun, hv⟩ := World.ownsMap.lookup hmap keyed Try.underlying24 (zero_int w) (zd := .held (.int .i64 0)) (zp := []) rfl (key_of h1 h2)
  have ev : v = .int .i64 (f k) := by
    simp only [heldR, Option.some.injEq, Prod.mk.injEq] at hv
    rw [p3 k]
    by_cases hk : k ∈ ks
    · rw [intsD_at hk] at hv
      injection hv.1 with e
      rw [e, if_pos hk]
    · rw [intsD_none hk] at hv
      injection hv.1 with e
      rw [e, if_neg hk]
  subst ev
  unfold Oper.wp
  simp [execOp, hop, hm, hx, hrun, Result.andThen]
  exact hK' _ _ hK
end
end Go.Proofs.Ytpoooehnobfjfaa
