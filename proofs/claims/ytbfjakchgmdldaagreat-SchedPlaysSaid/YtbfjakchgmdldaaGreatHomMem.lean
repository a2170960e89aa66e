/-
  A heap in memory (IsH): its struct, its tree in a row of its own, its map of places; what keeps it; operations on a map of ints. Conditions: what each names.
-/
import Derived.Test.YtbfjakchgmdldaaGreatHeapMath
import Derived.Test.YtbfjakchgmdldaaGreatKept
import Derived.Test.YtbfjakchgmdldaaGreatProg
import Derived.Maps.RangeWalk
import Derived.Maps.OwnSet
import Derived.Laws.OwnMore
namespace Go.Proofs.YtbfjakchgmdldaaGreat
open Go.ChangeShapes Go.WideShapes Go.ChangeAt Go.RowKit Go.Maps
set_option linter.unusedVariables false

/-! ### rows of elements of several cells -/
theorem own_formM {w : World} {base : Nat} {e : TypeId} {z : Nat} {v : Value} {n : Nat} {xs : List Value} (h : w.ownsRow base e z v n xs) : ∃ A c, v = .slice A n c := by
  rcases h.2 with ⟨rfl, rfl⟩ | ⟨g, cap, cur, rfl, _⟩
  · exact ⟨_, _, rfl⟩
  · exact ⟨_, _, rfl⟩
theorem own_turnedM {p : Nat → Prop} {w w' : World} {base z : Nat} {e : TypeId} {v : Value} {n : Nat} {xs : List Value} (h : Turned p w w') (ho : w.ownsRow base e z v n xs) (hn : ∀ k, v.ownBlock = some k → ¬ p k) : w'.ownsRow base e z v n xs := by
  refine ⟨ho.1, ?_⟩
  rcases ho.2 with h2 | ⟨g, cap, cur, rfl, hg, hh, r⟩
  · exact .inl h2
  · exact .inr ⟨g, cap, cur, rfl, hg, h.heap hh (hn g rfl), r⟩
theorem own_belowM {w w' : World} {b : Nat} {e : TypeId} {z : Nat} {v : Value} {n : Nat} {xs : List Value} (h : w.ownsRow b e z v n xs) (hb : Below w.heap.size w w') : w'.ownsRow b e z v n xs := own_turnedM (Turned.of_below (p := fun _ => False) hb) h fun _ _ e => e
theorem row_blockM {w : World} {base z n : Nat} {e : TypeId} {v : Value} {xs : List Value} (h : w.ownsRow base e z v n xs) {k : Nat} (hk : v.ownBlock = some k) : ∃ cs, w.heap[k]? = some (.cells cs e (0, 0)) := by
  rcases h.2 with ⟨rfl, _⟩ | ⟨g, cap, cur, rfl, _, hh, _⟩
  · cases hk
  · injection hk with hk
    subst hk
    exact ⟨cur, hh⟩
theorem own_baseM {w : World} {b b' : Nat} {e : TypeId} {z : Nat} {v : Value} {n : Nat} {xs : List Value} (h : w.ownsRow b e z v n xs) (hb : b' ≤ b) : w.ownsRow b' e z v n xs := by
  refine ⟨h.1, ?_⟩
  rcases h.2 with h2 | ⟨g, cap, cur, rfl, hg, r⟩
  · exact .inl h2
  · exact .inr ⟨g, cap, cur, rfl, Nat.le_trans hb hg, r⟩

/-! ### entries as cells -/
def entV (e : Ent) : List Value := [.int .i64 e.1, .int .i64 e.2]
def entsV (t : List Ent) : List Value := t.flatMap entV
theorem entsV_append (x y : List Ent) : entsV (x ++ y) = entsV x ++ entsV y := by simp [entsV]
theorem entsV_length (x : List Ent) : (entsV x).length = x.length * 2 := by
  induction x with
  | nil => rfl
  | cons p r ih =>
    have : (entsV (p :: r)).length = 2 + (entsV r).length := by simp [entsV, entV]; omega
    rw [this, ih, List.length_cons]; omega
theorem entsV_get : ∀ {x : List Ent} {i : Nat} {p : Ent}, x[i]? = some p → (entsV x)[i * 2]? = some (.int .i64 p.1) ∧ (entsV x)[i * 2 + 1]? = some (.int .i64 p.2)
  | [], _, _, h => by simp at h
  | q :: r, 0, p, h => by
    simp at h
    subst h
    exact ⟨rfl, rfl⟩
  | q :: r, i + 1, p, h => by
    have := entsV_get (x := r) (i := i) (p := p) (by simpa using h)
    have e1 : (i + 1) * 2 = (i * 2) + 1 + 1 := by omega
    rw [e1]
    exact this
theorem entsV_one (x : List Ent) : ∀ u ∈ entsV x, u.oneCell' = true := by
  intro u hu
  simp only [entsV, List.mem_flatMap, entV, List.mem_cons, List.not_mem_nil, or_false] at hu
  obtain ⟨p, _, rfl | rfl⟩ := hu <;> rfl
theorem entsV_take (x : List Ent) (i : Nat) : (entsV x).take (i * 2) = entsV (x.take i) := by
  by_cases h : i ≤ x.length
  · have e : entsV x = entsV (x.take i) ++ entsV (x.drop i) := by rw [← entsV_append, List.take_append_drop]
    rw [e, List.take_append_of_le_length (by rw [entsV_length, List.length_take]; omega), List.take_of_length_le (by rw [entsV_length, List.length_take]; omega)]
  · rw [List.take_of_length_le (by rw [entsV_length]; omega), List.take_of_length_le (by omega)]
theorem entsV_drop (x : List Ent) (i : Nat) : (entsV x).drop (i * 2) = entsV (x.drop i) := by
  by_cases h : i ≤ x.length
  · have e : entsV x = entsV (x.take i) ++ entsV (x.drop i) := by rw [← entsV_append, List.take_append_drop]
    have hl : (entsV (x.take i)).length = i * 2 := by rw [entsV_length, List.length_take]; omega
    rw [e, ← hl, List.drop_left]
  · rw [List.drop_eq_nil_of_le (by rw [entsV_length]; omega), List.drop_eq_nil_of_le (by omega)]; rfl
theorem entsV_set : ∀ (x : List Ent) (i : Nat) (p : Ent), ((entsV x).set (i * 2) (.int .i64 p.1)).set (i * 2 + 1) (.int .i64 p.2) = entsV (x.set i p)
  | [], i, p => by simp [entsV]
  | q :: r, 0, p => rfl
  | q :: r, i + 1, p => by
    have e1 : (i + 1) * 2 = (i * 2) + 1 + 1 := by omega
    rw [e1]
    show _ :: _ :: ((entsV r).set (i * 2) _).set (i * 2 + 1) _ = _
    rw [entsV_set r i p]
    rfl
theorem entsV_inj : ∀ {x y : List Ent}, entsV x = entsV y → x = y
  | [], [], _ => rfl
  | [], q :: r, h => by simp [entsV, entV] at h
  | q :: r, [], h => by simp [entsV, entV] at h
  | p :: r, q :: s, h => by
    have h' : Value.int .i64 p.1 :: Value.int .i64 p.2 :: entsV r = Value.int .i64 q.1 :: Value.int .i64 q.2 :: entsV s := h
    injection h' with h1 h2
    injection h2 with h2 h3
    injection h1 with _ h1
    injection h2 with _ h2
    rw [entsV_inj h3]
    congr 1
    exact Prod.ext h1 h2

/-! ### a map of ints -/
theorem keyed : Keyed Tryz.prog 3 := int_keyed Tryz.underlying3
theorem zero_int (w : World) : (zeroValue 3).run Tryz.prog w = .ok (.int .i64 0) w := by kernel_rfl
theorem key_of {k : Int} (h1 : -9223372036854775808 ≤ k) (h2 : k ≤ 9223372036854775807) : keyOf Tryz.prog 3 (.int .i64 k) = some (.int .i64 k) :=
  keyOf_int_mk Tryz.underlying3 (WalkArith.wf_i64 (by omega))
def heldR (v : Value) : Option (DataW Value × List MemPlace) := some (.held v, [])
def encK (f : Int → Int) (k : Int) : Lit × DataW Value := (.int .i64 k, .held (.int .i64 (f k)))
def intsD (ks : List Int) (f : Int → Int) : DataW Value := .map (ks.map (encK f))
theorem encK_filter (x : List Int) (f : Int → Int) (k : Int) : (x.map (encK f)).filter (fun p => !p.1.sameKey (.int .i64 k)) = (outK x k).map (encK f) := by
  rw [List.filter_map]
  congr 1
  apply List.filter_congr
  intro p _
  simp [encK, Lit.sameKey, Bool.not_eq_eq_eq_not]
  by_cases e : p = k <;> simp [e]
theorem insert_encK (f : Int → Int) (p : Int) : ∀ x : List Int, DataW.insert (encK f p) (x.map (encK f)) = (insK p x).map (encK f)
  | [] => rfl
  | y :: r => by
    simp only [List.map_cons, DataW.insert, insK]
    by_cases hlt : p < y
    · have e : (encK f p).1.before (encK f y).1 = true := by simp [encK, Lit.before, hlt]
      rw [if_pos e, if_pos hlt]; rfl
    · have e : ¬ (encK f p).1.before (encK f y).1 = true := by simp [encK, Lit.before, hlt]
      rw [if_neg e, if_neg hlt, insert_encK f p r]; rfl
theorem intsD_put (x : List Int) (f : Int → Int) (k v : Int) : (intsD x f).put (.int .i64 k) (.held (.int .i64 v)) = intsD (putK x k) (upd f k v) := by
  unfold intsD DataW.put putK
  simp only
  rw [encK_filter]
  congr 1
  have e : (outK x k).map (encK f) = (outK x k).map (encK (upd f k v)) := by
    apply List.map_congr_left
    intro p hp
    simp only [encK, upd_other (mem_outK.1 hp).2]
  rw [e, ← insert_encK]
  congr 1
  simp only [encK, upd_same]
theorem intsD_del (x : List Int) (f : Int → Int) (k : Int) : (intsD x f).del (.int .i64 k) = intsD (outK x k) f := by
  unfold intsD DataW.del
  simp only
  rw [encK_filter]
theorem intsD_has (x : List Int) (f : Int → Int) (k : Int) : has (intsD x f) (.int .i64 k) = decide (k ∈ x) := by
  unfold intsD
  rw [has_eq, List.any_map, Bool.eq_iff_iff]
  simp [encK, Lit.sameKey]
theorem intsD_size (x : List Int) (f : Int → Int) : Maps.size (intsD x f) = x.length := by simp [intsD, Maps.size]
theorem intsD_at {x : List Int} {f : Int → Int} {k : Int} {z : DataW Value} (hk : k ∈ x) : (intsD x f).atKey (.int .i64 k) z = .held (.int .i64 (f k)) := by
  unfold intsD DataW.atKey
  simp only
  have : ∃ q ∈ x, q = k ∧ (x.map (encK f)).find? (fun q => q.1.sameKey (.int .i64 k)) = some (encK f q) := by
    cases hf : (x.map (encK f)).find? (fun q => q.1.sameKey (.int .i64 k)) with
    | none =>
      have := List.find?_eq_none.1 hf (encK f k) (List.mem_map.2 ⟨k, hk, rfl⟩)
      simp [encK, Lit.sameKey] at this
    | some y =>
      have h1 := List.find?_some hf
      obtain ⟨q, hq, rfl⟩ := List.mem_map.1 (List.mem_of_find?_eq_some hf)
      refine ⟨q, hq, ?_, rfl⟩
      simpa [encK, Lit.sameKey] using h1
  obtain ⟨q, hq, rfl, e⟩ := this
  rw [e]
  rfl
theorem intsD_none {x : List Int} {f : Int → Int} {k : Int} {z : DataW Value} (hk : ¬ k ∈ x) : (intsD x f).atKey (.int .i64 k) z = z := by
  unfold intsD DataW.atKey
  simp only
  have : (x.map (encK f)).find? (fun q => q.1.sameKey (.int .i64 k)) = none := by
    rw [List.find?_eq_none]
    intro y hy
    obtain ⟨q, hq, rfl⟩ := List.mem_map.1 hy
    intro hs
    have e : q = k := by simpa [encK, Lit.sameKey] using hs
    exact hk (e ▸ hq)
  rw [this]
/-- a map at b that has the names ks, each at its place -/
def PlacesAt (w : World) (b : Nat) (ks : List Int) (f : Int → Int) : Prop := w.ownsMap Tryz.prog 3 heldR b ks.length (intsD ks f)
theorem map_turned {p : Nat → Prop} {w w' : World} {m n : Nat} {D : DataW Value} (h : w.ownsMap Tryz.prog 3 heldR m n D) (ht : Turned p w w') (hp : ¬ p m) : w'.ownsMap Tryz.prog 3 heldR m n D := by
  obtain ⟨es, clock, hb, F, hs, hD⟩ := h
  exact ⟨es, clock, ht.heap hb hp, F, hs, hD⟩
theorem map_lt {w : World} {m n : Nat} {D : DataW Value} (h : w.ownsMap Tryz.prog 3 heldR m n D) : ∃ es clock, w.heap[m]? = some (.map es clock) := by
  obtain ⟨es, clock, hb, _⟩ := h
  exact ⟨es, clock, hb⟩
theorem map_size {w : World} {m n : Nat} {D : DataW Value} (h : w.ownsMap Tryz.prog 3 heldR m n D) : w.ownsMap Tryz.prog 3 heldR m (Maps.size D) D := by
  obtain ⟨es, clock, hb, F, hs, rfl⟩ := h
  exact ⟨es, clock, hb, F, by simp [Maps.size, length_sorted], rfl⟩
theorem PlacesAt.turned {p : Nat → Prop} {w w' : World} {b : Nat} {ks : List Int} {f : Int → Int} (h : PlacesAt w b ks f) (ht : Turned p w w') (hp : ¬ p b) : PlacesAt w' b ks f := map_turned h ht hp
theorem PlacesAt.made (w : World) (f : Int → Int) : PlacesAt (w.alloc (.map #[] 0)) w.heap.size [] f := World.ownsMap_made w _ _ _

section
variable {w : World} {ops : Array Oper} {rest : List Oper} {o : Oper} {a : Act} {Q : Exit → Act → World → Prop}
theorem turned_of_map {w w' : World} {b : Nat} (h : w.mapTurned w' b) : Turned (fun k => k = b) w w' := Turned.of_grown h.grown (p := fun k => k = b) fun k e => by injection e with e; exact e.symm
/-- m[k] = v -/
theorem wpList_putI (hg : o.guard = none) (m x v : Operand) (hop : o.op = Op.mapUpdate 59 m x v) (b : Nat) (ks : List Int) (f : Int → Int) (k val : Int) (hm : a.eval m = .map (some b)) (hx : a.eval x = .int .i64 k) (hv : a.eval v = .int .i64 val)
    (h : PlacesAt w b ks f) (h1 : -9223372036854775808 ≤ k) (h2 : k ≤ 9223372036854775807) (hl : ks.length ≤ 1000000)
    (hK : ∀ w', PlacesAt w' b (putK ks k) (upd f k val) → Turned (fun k => k = b) w w' → wpList Tryz.prog ops Q rest (a.put o.dst undef) w') : wpList Tryz.prog ops Q (o :: rest) a w := by
  refine wpList_mapUpdate_in w hg m x v _ hop 3 3 keyed Tryz.underlying59 heldR b _ _ hm h (by unfold maxLen; omega) _ _ (.int .i64 k) hx hv (key_of h1 h2) (.held (.int .i64 val)) [] rfl ?_
  intro w' hown' hturn
  rw [intsD_put] at hown'
  have hsz := map_size hown'
  rw [intsD_size] at hsz
  exact hK w' hsz (turned_of_map hturn)
/-- delete(m, k) -/
theorem wpList_delI (hg : o.guard = none) (m x : Operand) (hop : o.op = Op.call { callee := Callee.builtin Builtin.delete, args := #[m, x], argTypes := #[59, 3] }) (b : Nat) (ks : List Int) (f : Int → Int) (k : Int) (hm : a.eval m = .map (some b)) (hx : a.eval x = .int .i64 k)
    (h : PlacesAt w b ks f) (h1 : -9223372036854775808 ≤ k) (h2 : k ≤ 9223372036854775807)
    (hK : ∀ w', PlacesAt w' b (outK ks k) f → Turned (fun k => k = b) w w' → wpList Tryz.prog ops Q rest (a.put o.dst (.tuple #[])) w') : wpList Tryz.prog ops Q (o :: rest) a w := by
  refine wpList_delete_own w hg m x _ _ hop 3 keyed Tryz.underlying59 heldR b _ _ hm h _ (.int .i64 k) hx (key_of h1 h2) ?_
  intro w' hown' hturn
  rw [intsD_del] at hown'
  have hsz := map_size hown'
  rw [intsD_size] at hsz
  exact hK w' hsz (turned_of_map hturn)
/-- a map or nil -/
def MapAt (w : World) (B : Nat) (m : Option Nat) (ks : List Int) (f : Int → Int) : Prop := (m = none ∧ ks = []) ∨ ∃ b, m = some b ∧ B ≤ b ∧ PlacesAt w b ks f
/-- v, ok := m[k] -/
theorem wpList_lookI (hg : o.guard = none) (m x : Operand) (hop : o.op = Op.lookup 59 m x true) (B : Nat) (mo : Option Nat) (ks : List Int) (f : Int → Int) (k : Int) (hm : a.eval m = .map mo) (hx : a.eval x = .int .i64 k)
    (h : MapAt w B mo ks f) (h1 : -9223372036854775808 ≤ k) (h2 : k ≤ 9223372036854775807)
    (hK : wpList Tryz.prog ops Q rest (a.put o.dst (.tuple #[.int .i64 (if k ∈ ks then f k else 0), .bool (decide (k ∈ ks))])) w) : wpList Tryz.prog ops Q (o :: rest) a w := by
  rcases h with ⟨rfl, rfl⟩ | ⟨b, rfl, _, hmap⟩
  · refine wpList_plain hg fun K' hK' => ?_
    have hrun := Maps.look_nil (P := Tryz.prog) (w := w) true keyed Tryz.underlying59 (zero_int w) (key_of h1 h2)
    unfold Oper.wp
    simp [execOp, hop, hm, hx, hrun, Result.andThen]
    exact hK' _ _ (by simpa using hK)
  · refine wpList_lookup_own_ok w hg m x _ hop 3 3 keyed Tryz.underlying59 heldR (zero_int w) (.held (.int .i64 0)) [] rfl b _ _ hm hmap _ (.int .i64 k) hx (key_of h1 h2) ?_
    intro v ps hv
    rw [intsD_has]
    simp only [heldR, Option.some.injEq, Prod.mk.injEq] at hv
    by_cases hk : k ∈ ks
    · rw [intsD_at hk] at hv
      injection hv.1 with e
      subst e
      simpa [hk] using hK
    · rw [intsD_none hk] at hv
      injection hv.1 with e
      subst e
      simpa [hk] using hK
end

/-! ### where a heap lies: block b, offset o; the block's type, and its cells with the heap's two among them -/
structure Home where
  b : Nat
  o : Nat
  T : TypeId
  K : Value → Value → Array Value
  get0 : ∀ x y, (K x y)[o]? = some x
  get1 : ∀ x y, (K x y)[o + 1]? = some y
  set0 : ∀ x y z, (K x y).setIfInBounds o z = K z y
  set1 : ∀ x y z, (K x y).setIfInBounds (o + 1) z = K x z
  other : T ≠ 88
theorem Home.cell0 {h : Home} {w : World} {x y : Value} (hr : w.heap[h.b]? = some (.cells (h.K x y) h.T (0, 0))) : w.cell? ⟨h.b, h.o, none⟩ = some x := (row_cell hr h.o).trans (h.get0 x y)
theorem Home.cell1 {h : Home} {w : World} {x y : Value} (hr : w.heap[h.b]? = some (.cells (h.K x y) h.T (0, 0))) : w.cell? ⟨h.b, h.o + 1, none⟩ = some y := (row_cell hr (h.o + 1)).trans (h.get1 x y)
theorem Home.put0 {h : Home} {w : World} {x y : Value} (hr : w.heap[h.b]? = some (.cells (h.K x y) h.T (0, 0))) (z : Value) : (w.setCell ⟨h.b, h.o, none⟩ z).heap[h.b]? = some (.cells (h.K z y) h.T (0, 0)) := by
  rw [← h.set0 x y z]; exact row_set hr h.o z
theorem Home.put1 {h : Home} {w : World} {x y : Value} (hr : w.heap[h.b]? = some (.cells (h.K x y) h.T (0, 0))) (z : Value) : (w.setCell ⟨h.b, h.o + 1, none⟩ z).heap[h.b]? = some (.cells (h.K x z) h.T (0, 0)) := by
  rw [← h.set1 x y z]; exact row_set hr (h.o + 1) z

/-! ### a heap in memory -/
def Foot (h : Home) (q m : Option Nat) (k : Nat) : Prop := k = h.b ∨ q = some k ∨ m = some k
structure IsH (w : World) (B : Nat) (h : Home) (q m : Option Nat) (t : List Ent) (ks : List Int) (f : Int → Int) : Prop where
  base : B ≤ h.b
  row : ∃ A c, w.heap[h.b]? = some (.cells (h.K (.slice A t.length c) (.map m)) h.T (0, 0)) ∧ w.ownsRow B 88 2 (.slice A t.length c) t.length (entsV t) ∧ (Value.slice A t.length c).ownBlock = q
  map : MapAt w B m ks f
theorem MapAt.turned {p : Nat → Prop} {w w' : World} {B : Nat} {m : Option Nat} {ks : List Int} {f : Int → Int} (h : MapAt w B m ks f) (ht : Turned p w w') (hp : ∀ k, m = some k → ¬ p k) : MapAt w' B m ks f := by
  rcases h with h | ⟨b, rfl, hb, hm⟩
  · exact .inl h
  · exact .inr ⟨b, rfl, hb, hm.turned ht (hp b rfl)⟩
theorem IsH.turned {p : Nat → Prop} {w w' : World} {B : Nat} {h : Home} {q m : Option Nat} {t : List Ent} {ks : List Int} {f : Int → Int} (H : IsH w B h q m t ks f) (ht : Turned p w w') (hp : ∀ k, Foot h q m k → ¬ p k) : IsH w' B h q m t ks f := by
  obtain ⟨hb, ⟨A, c, h1, h2, h3⟩, h4⟩ := H
  exact ⟨hb, ⟨A, c, ht.heap h1 (hp h.b (.inl rfl)), own_turnedM ht h2 (fun k hk => hp k (.inr (.inl (by rw [← h3]; exact hk)))), h3⟩, h4.turned ht fun k hk => hp k (.inr (.inr hk))⟩
theorem IsH.below {w w' : World} {B : Nat} {h : Home} {q m : Option Nat} {t : List Ent} {ks : List Int} {f : Int → Int} (H : IsH w B h q m t ks f) (hb : Below w.heap.size w w') : IsH w' B h q m t ks f := H.turned (p := fun _ => False) (.of_below hb) fun _ _ e => e
/-- a heap's blocks are of three kinds -/
theorem IsH.spares {w : World} {B : Nat} {h : Home} {q m : Option Nat} {t : List Ent} {ks : List Int} {f : Int → Int} (H : IsH w B h q m t ks f) {k : Nat} (hk : Foot h q m k) : B ≤ k ∧ k < w.heap.size ∧ ∀ cs T fr, w.heap[k]? = some (.cells cs T fr) → T = h.T ∨ T = 88 := by
  obtain ⟨hb, ⟨A, c, h1, h2, h3⟩, h4⟩ := H
  rcases hk with rfl | rfl | rfl
  · exact ⟨hb, (Array.getElem?_eq_some_iff.1 h1).1, fun cs T fr e => by rw [h1] at e; injection e with e; injection e with _ e2; exact .inl e2.symm⟩
  · obtain ⟨cs0, hc⟩ := row_blockM h2 h3
    exact ⟨(h2.lt k h3).1, (Array.getElem?_eq_some_iff.1 hc).1, fun cs T fr e => by rw [hc] at e; injection e with e; injection e with _ e2; exact .inr e2.symm⟩
  · rcases h4 with ⟨e, _⟩ | ⟨b, e, hb, hm⟩
    · cases e
    · injection e with e
      subst e
      obtain ⟨es, clock, hc⟩ := map_lt hm
      exact ⟨hb, (Array.getElem?_eq_some_iff.1 hc).1, fun cs T fr e => by rw [hc] at e; cases e⟩
/-- the three are apart -/
theorem IsH.apart {w : World} {B : Nat} {h : Home} {q m : Option Nat} {t : List Ent} {ks : List Int} {f : Int → Int} (H : IsH w B h q m t ks f) : (∀ k, q = some k → k ≠ h.b) ∧ (∀ k, m = some k → k ≠ h.b) ∧ (∀ k j, q = some k → m = some j → k ≠ j) := by
  obtain ⟨hb, ⟨A, c, h1, h2, h3⟩, h4⟩ := H
  have e1 : ∀ k, q = some k → ∃ cs, w.heap[k]? = some (.cells cs 88 (0, 0)) := fun k hk => row_blockM h2 (by rw [h3]; exact hk)
  have e2 : ∀ k, m = some k → ∃ es clock, w.heap[k]? = some (.map es clock) := fun k hk => by
    rcases h4 with ⟨e, _⟩ | ⟨b, e, _, hm⟩
    · rw [e] at hk; cases hk
    · rw [e] at hk; injection hk with hk; subst hk; exact map_lt hm
  refine ⟨fun k hk e => ?_, fun k hk e => ?_, fun k j hk hj e => ?_⟩
  · obtain ⟨cs, hc⟩ := e1 k hk
    rw [e, h1] at hc
    injection hc with hc
    injection hc with _ hc
    exact h.other hc
  · obtain ⟨es, cl, hc⟩ := e2 k hk
    rw [e, h1] at hc
    cases hc
  · obtain ⟨cs, hc⟩ := e1 k hk
    obtain ⟨es, cl, hc2⟩ := e2 j hj
    rw [e, hc2] at hc
    cases hc
/-- the i-th entry -/
theorem IsH.get {w : World} {B : Nat} {h : Home} {q m : Option Nat} {t : List Ent} {ks : List Int} {f : Int → Int} (H : IsH w B h q m t ks f) {i : Nat} {r : Ent} (hi : t[i]? = some r) :
    ∃ g c, q = some g ∧ g < w.heap.size ∧ t.length ≤ c ∧ c ≤ maxLen ∧ w.heap[h.b]? = some (.cells (h.K (.slice (some ⟨g, 0, none⟩) t.length c) (.map m)) h.T (0, 0)) ∧ w.ownsRow B 88 2 (.slice (some ⟨g, 0, none⟩) t.length c) t.length (entsV t) ∧
      w.cell? ⟨g, i * 2, none⟩ = some (.int .i64 r.1) ∧ w.cell? ⟨g, i * 2 + 1, none⟩ = some (.int .i64 r.2) := by
  obtain ⟨hb, ⟨A, c, h1, h2, h3⟩, h4⟩ := H
  have hl := (List.getElem?_eq_some_iff.1 hi).1
  obtain ⟨g, cc, hf, hg1, hg2⟩ := h2.form (by omega)
  injection hf with hf1 _ hf2
  subst hf1
  subst hf2
  obtain ⟨e0, e1⟩ := entsV_get hi
  have hcap : t.length ≤ c ∧ c ≤ maxLen := by
    rcases h2.2 with ⟨hv, _⟩ | ⟨g', cap, cur, hv, _, _, h1, h2, _⟩
    · cases hv
    · injection hv with _ _ h3
      subst h3
      exact ⟨h1, h2⟩
  exact ⟨g, c, h3.symm, hg2, hcap.1, hcap.2, h1, h2, by rw [h2.cellAt _ (by omega)]; exact e0, by rw [h2.cellAt _ (by omega)]; exact e1⟩
theorem ent_info : (Tryz.prog.info? 88).map (fun i => (i.zero, i.size, i.bytes)) = some (some (.agg #[.int .i64 0, .int .i64 0]), 2, 16) := by kernel_rfl
end Go.Proofs.YtbfjakchgmdldaaGreat
