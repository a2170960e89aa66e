/-
  A map of values in memory (ValsAt): keys that are ints, values that are slices of bytes in memory of the call's own; what keeps it, and the operations on it. Conditions: what each names.
-/
import Derived.Test.YtjekcaoonaniaaaVauMath
import Derived.Test.YtjekcaoonaniaaaJouD
namespace Go.Proofs.Ytjekcaoonaniaaa
open Go.ChangeShapes Go.WideShapes Go.ChangeAt Go.RowKit Go.Maps
set_option linter.unusedVariables false

theorem keyed : Keyed Try.prog 3 := int_keyed Try.underlying3
theorem zero_bytes (w : World) : (zeroValue 30).run Try.prog w = .ok (.slice none 0 0) w := by kernel_rfl
theorem key_of {k : Int} (h1 : -9223372036854775808 ≤ k) (h2 : k ≤ 9223372036854775807) : keyOf Try.prog 3 (.int .i64 k) = some (.int .i64 k) :=
  keyOf_int_mk Try.underlying3 (WalkArith.wf_i64 (by omega))

/-- a map at m with the values x, each in a row of its own -/
def ValsAt (w : World) (B m : Nat) (x : Vals) : Prop :=
  B ≤ m ∧ ∃ h : Int → Value, w.ownsMap Try.prog 3 heldR m x.length (valsD x h) ∧ ∀ p ∈ x, w.ownsRow B 5 1 (h p.1) p.2.length (bytesV p.2)
/-- what is turned are cells, and no bytes -/
def Spares (w : World) (p : Nat → Prop) : Prop := ∀ k, p k → k < w.heap.size → ∃ cs T fr, w.heap[k]? = some (.cells cs T fr) ∧ T ≠ 5
theorem Spares.none (w : World) : Spares w (fun _ => False) := fun _ h => h.elim

theorem map_turned {p : Nat → Prop} {w w' : World} {m n : Nat} {D : DataW Value} (h : w.ownsMap Try.prog 3 heldR m n D) (ht : Turned p w w') (hp : ¬ p m) : w'.ownsMap Try.prog 3 heldR m n D := by
  obtain ⟨es, clock, hb, F, hs, hD⟩ := h
  exact ⟨es, clock, ht.heap hb hp, F, hs, hD⟩
theorem map_lt {w : World} {m n : Nat} {D : DataW Value} (h : w.ownsMap Try.prog 3 heldR m n D) : ∃ es clock, w.heap[m]? = some (.map es clock) := by
  obtain ⟨es, clock, hb, _⟩ := h
  exact ⟨es, clock, hb⟩
theorem map_size {w : World} {m n : Nat} {D : DataW Value} (h : w.ownsMap Try.prog 3 heldR m n D) : w.ownsMap Try.prog 3 heldR m (Maps.size D) D := by
  obtain ⟨es, clock, hb, F, hs, rfl⟩ := h
  exact ⟨es, clock, hb, F, by simp [Maps.size, length_sorted], rfl⟩
theorem row_block {w : World} {B n z : Nat} {e : TypeId} {v : Value} {xs : List Value} (h : w.ownsRow B e z v n xs) {k : Nat} (hk : v.ownBlock = some k) : ∃ cs, w.heap[k]? = some (.cells cs e (0, 0)) := by
  rcases h.2 with ⟨rfl, _⟩ | ⟨g, cap, cur, rfl, _, hh, _⟩
  · cases hk
  · injection hk with hk
    subst hk
    exact ⟨_, hh⟩
theorem ValsAt.turned {p : Nat → Prop} {w w' : World} {B m : Nat} {x : Vals} (h : ValsAt w B m x) (ht : Turned p w w') (hs : Spares w p) : ValsAt w' B m x := by
  obtain ⟨hB, f, hm, hr⟩ := h
  refine ⟨hB, f, map_turned hm ht fun hp => ?_, fun q hq => ht.own (hr q hq) fun k hk hp => ?_⟩
  · obtain ⟨es, clock, hb⟩ := map_lt hm
    obtain ⟨cs, T, fr, hc, _⟩ := hs m hp (Array.getElem?_eq_some_iff.1 hb).1
    rw [hb] at hc; cases hc
  · obtain ⟨cs, hb⟩ := row_block (hr q hq) hk
    obtain ⟨cs', T, fr, hc, hne⟩ := hs k hp (Array.getElem?_eq_some_iff.1 hb).1
    rw [hb] at hc
    injection hc with hc
    injection hc with _ e2
    exact hne e2.symm
theorem ValsAt.below {w w' : World} {B m : Nat} {x : Vals} (h : ValsAt w B m x) (hb : Below w.heap.size w w') : ValsAt w' B m x := h.turned (p := fun _ => False) (.of_below hb) (.none w)
theorem ValsAt.lt {w : World} {B m : Nat} {x : Vals} (h : ValsAt w B m x) : B ≤ m ∧ m < w.heap.size := ⟨h.1, by
  obtain ⟨f, hm, _⟩ := h.2
  exact hm.lt⟩
theorem ValsAt.base {w : World} {B B' m : Nat} {x : Vals} (h : ValsAt w B m x) (hb : B' ≤ B) : ValsAt w B' m x := by
  obtain ⟨hB, f, hm, hr⟩ := h
  exact ⟨Nat.le_trans hb hB, f, hm, fun p hp => own_base (hr p hp) hb⟩
theorem ValsAt.made (w : World) {B : Nat} (hB : B ≤ w.heap.size) : ValsAt (w.alloc (.map #[] 0)) B w.heap.size [] :=
  ⟨hB, fun _ => .slice none 0 0, World.ownsMap_made w _ _ _, fun p hp => by cases hp⟩

/-- the blocks of a device are cells, and no bytes -/
theorem IsD.spares {w : World} {B g s : Nat} {r : Option Nat} {d : Dv} (h : IsD w B g s r d) : Spares w (fun k => k = g ∨ k = s ∨ r = some k) := by
  obtain ⟨h1, h2, h3, h4, h5, h6, h7, A, c, h8, h9, h10⟩ := h
  rintro k (rfl | rfl | hk) _
  · exact ⟨_, _, _, h8, by decide⟩
  · exact ⟨_, _, _, h7, by decide⟩
  · rw [← h10] at hk
    obtain ⟨cs, hb⟩ := row_block h9 hk
    exact ⟨_, _, _, hb, by decide⟩
theorem IsJ.spares {w : World} {B g s : Nat} {r : Option Nat} {j : Nat} {q : Option Nat} {J : Jn} (h : IsJ w B g s r j q J) : Spares w (FootJ g s r j q) := by
  have hd := h.dev.spares
  obtain ⟨_, _, _, _, _, _, _, _, _, _, A, c, hh, hown, hq⟩ := h
  rintro k (e | e | e | e | e) hlt
  · exact hd k (.inl e) hlt
  · exact hd k (.inr (.inl e)) hlt
  · subst e; exact ⟨_, _, _, hh, by decide⟩
  · exact hd k (.inr (.inr e)) hlt
  · rw [← hq] at e
    obtain ⟨cs, hb⟩ := row_block hown e
    exact ⟨_, _, _, hb, by decide⟩

section
variable {w : World} {ops : Array Oper} {rest : List Oper} {o : Oper} {a : Act} {Q : Exit → Act → World → Prop}

theorem turned_of_map {w w' : World} {b : Nat} (h : w.mapTurned w' b) : Turned (fun k => k = b) w w' := Turned.of_grown h.grown (p := fun k => k = b) fun k e => by injection e with e; exact e.symm

/-- m[k] = v -/
theorem wpList_putV (hg : o.guard = none) (m x v : Operand) (hop : o.op = Op.mapUpdate 45 m x v) (B b : Nat) (xs : Vals) (k : Int) (val : Value) (bs : List UInt8) (hm : a.eval m = .map (some b)) (hx : a.eval x = .int .i64 k) (hv : a.eval v = val)
    (h : ValsAt w B b xs) (h1 : -9223372036854775808 ≤ k) (h2 : k ≤ 9223372036854775807) (hl : xs.length ≤ 1000000) (hown : w.ownsRow B 5 1 val bs.length (bytesV bs))
    (hK : ∀ w', ValsAt w' B b (putV xs k bs) → Turned (fun k => k = b) w w' → wpList Try.prog ops Q rest (a.put o.dst undef) w') : wpList Try.prog ops Q (o :: rest) a w := by
  obtain ⟨hB, f, hmap, hr⟩ := h
  refine wpList_mapUpdate_in w hg m x v _ hop 3 30 keyed Try.underlying45 heldR b _ _ hm hmap (by unfold maxLen; omega) _ _ (.int .i64 k) hx hv (key_of h1 h2) (.held val) [] rfl ?_
  intro w' hown' hturn
  have ht := turned_of_map hturn
  rw [valsD_put xs f k bs] at hown'
  have hsz := map_size hown'
  rw [valsD_size] at hsz
  obtain ⟨es, clock, hb⟩ := map_lt hmap
  have hne : ∀ {u : Value} {n : Nat} {l : List Value}, w.ownsRow B 5 1 u n l → ∀ k, u.ownBlock = some k → ¬ k = b := fun hr k hk e => by
    obtain ⟨cs, hc⟩ := row_block hr hk
    rw [e, hb] at hc; cases hc
  refine hK w' ⟨hB, _, hsz, fun p hp => ?_⟩ ht
  rcases mem_putV.1 hp with rfl | ⟨hp, hpk⟩
  · rw [setH_same]
    exact ht.own hown (hne hown)
  · rw [setH_other hpk]
    exact ht.own (hr p hp) (hne (hr p hp))

/-- delete(m, k) -/
theorem wpList_delV (hg : o.guard = none) (m x : Operand) (hop : o.op = Op.call { callee := Callee.builtin Builtin.delete, args := #[m, x], argTypes := #[45, 3] }) (B b : Nat) (xs : Vals) (k : Int) (hm : a.eval m = .map (some b)) (hx : a.eval x = .int .i64 k)
    (h : ValsAt w B b xs) (h1 : -9223372036854775808 ≤ k) (h2 : k ≤ 9223372036854775807)
    (hK : ∀ w', ValsAt w' B b (outV xs k) → Turned (fun k => k = b) w w' → wpList Try.prog ops Q rest (a.put o.dst (.tuple #[])) w') : wpList Try.prog ops Q (o :: rest) a w := by
  obtain ⟨hB, f, hmap, hr⟩ := h
  refine wpList_delete_own w hg m x _ _ hop 30 keyed Try.underlying45 heldR b _ _ hm hmap _ (.int .i64 k) hx (key_of h1 h2) ?_
  intro w' hown' hturn
  have ht := turned_of_map hturn
  rw [valsD_del xs f k] at hown'
  have hsz := map_size hown'
  rw [valsD_size] at hsz
  obtain ⟨es, clock, hb⟩ := map_lt hmap
  refine hK w' ⟨hB, _, hsz, fun p hp => ?_⟩ ht
  have hp' := (mem_outV.1 hp).1
  exact ht.own (hr p hp') fun k hk e => by
    obtain ⟨cs, hc⟩ := row_block (hr p hp') hk
    rw [e, hb] at hc; cases hc

/-- what stands at a key: its value's row, or nil -/
def GotV (w : World) (B : Nat) (xs : Vals) (k : Int) (v : Value) (bs : List UInt8) : Prop :=
  w.ownsRow B 5 1 v bs.length (bytesV bs) ∧ ((hasV xs k = true ∧ (k, bs) ∈ xs) ∨ (hasV xs k = false ∧ bs = [] ∧ v = .slice none 0 0))
theorem got_of {B b : Nat} {xs : Vals} {k : Int} {f : Int → Value} {v : Value} {ps : List MemPlace} (hr : ∀ p ∈ xs, w.ownsRow B 5 1 (f p.1) p.2.length (bytesV p.2)) (hv : heldR v = some ((valsD xs f).atKey (.int .i64 k) (.held (.slice none 0 0)), ps)) : ∃ bs, GotV w B xs k v bs := by
  simp only [heldR, Option.some.injEq, Prod.mk.injEq] at hv
  by_cases hk : hasV xs k = true
  · rw [valsD_at hk] at hv
    injection hv.1 with e
    obtain ⟨p, hp, rfl⟩ := hasV_iff.1 hk
    exact ⟨p.2, by rw [e]; exact hr p hp, .inl ⟨hk, hp⟩⟩
  · have hk' : hasV xs k = false := by simpa using hk
    rw [valsD_none hk'] at hv
    injection hv.1 with e
    exact ⟨[], by rw [e]; exact World.ownsRow_nil _ _ _ _, .inr ⟨hk', rfl, e⟩⟩
theorem wpList_lookV (hg : o.guard = none) (m x : Operand) (hop : o.op = Op.lookup 45 m x true) (B b : Nat) (xs : Vals) (k : Int) (hm : a.eval m = .map (some b)) (hx : a.eval x = .int .i64 k)
    (h : ValsAt w B b xs) (h1 : -9223372036854775808 ≤ k) (h2 : k ≤ 9223372036854775807)
    (hK : ∀ A n c bs, bs.length = n → GotV w B xs k (.slice A n c) bs → wpList Try.prog ops Q rest (a.put o.dst (.tuple #[.slice A n c, .bool (hasV xs k)])) w) : wpList Try.prog ops Q (o :: rest) a w := by
  obtain ⟨hB, f, hmap, hr⟩ := h
  refine wpList_lookup_own_ok w hg m x _ hop 3 30 keyed Try.underlying45 heldR (zero_bytes w) (.held (.slice none 0 0)) [] rfl b _ _ hm hmap _ (.int .i64 k) hx (key_of h1 h2) ?_
  intro v ps hv
  rw [valsD_has]
  obtain ⟨bs, hgot⟩ := got_of (b := b) hr hv
  obtain ⟨A, c, rfl⟩ := own_form hgot.1
  exact hK A _ c bs rfl hgot
theorem wpList_getV (hg : o.guard = none) (m x : Operand) (hop : o.op = Op.lookup 45 m x false) (B b : Nat) (xs : Vals) (k : Int) (hm : a.eval m = .map (some b)) (hx : a.eval x = .int .i64 k)
    (h : ValsAt w B b xs) (h1 : -9223372036854775808 ≤ k) (h2 : k ≤ 9223372036854775807)
    (hK : ∀ A n c bs, bs.length = n → GotV w B xs k (.slice A n c) bs → wpList Try.prog ops Q rest (a.put o.dst (.slice A n c)) w) : wpList Try.prog ops Q (o :: rest) a w := by
  obtain ⟨hB, f, hmap, hr⟩ := h
  refine wpList_plain hg fun K' hK' => ?_
  obtain ⟨v, ps, hrun, hv⟩ := hmap.lookup keyed Try.underlying45 (zero_bytes w) (zd := .held (.slice none 0 0)) (zp := []) rfl (key_of h1 h2)
  obtain ⟨bs, hgot⟩ := got_of (b := b) hr hv
  obtain ⟨A, c, rfl⟩ := own_form hgot.1
  unfold Oper.wp
  simp [execOp, hop, hm, hx, hrun, Result.andThen]
  exact hK' _ _ (hK A _ c bs rfl hgot)
/-- m[k], the map as an elder world has it -/
theorem wpList_getV0 (w0 : World) (hg : o.guard = none) (m x : Operand) (hop : o.op = Op.lookup 45 m x false) (B b : Nat) (xs : Vals) (k : Int) (hm : a.eval m = .map (some b)) (hx : a.eval x = .int .i64 k)
    (h : ValsAt w0 B b xs) (hb0 : Below w0.heap.size w0 w) (h1 : -9223372036854775808 ≤ k) (h2 : k ≤ 9223372036854775807)
    (hK : ∀ A n c bs, bs.length = n → GotV w0 B xs k (.slice A n c) bs → wpList Try.prog ops Q rest (a.put o.dst (.slice A n c)) w) : wpList Try.prog ops Q (o :: rest) a w := by
  obtain ⟨hB, f, hmap0, hr⟩ := h
  have hmap := map_turned hmap0 (Turned.of_below (p := fun _ => False) hb0) id
  refine wpList_plain hg fun K' hK' => ?_
  obtain ⟨v, ps, hrun, hv⟩ := hmap.lookup keyed Try.underlying45 (zero_bytes w) (zd := .held (.slice none 0 0)) (zp := []) rfl (key_of h1 h2)
  obtain ⟨bs, hgot⟩ := got_of (b := b) hr hv
  obtain ⟨A, c, rfl⟩ := own_form hgot.1
  unfold Oper.wp
  simp [execOp, hop, hm, hx, hrun, Result.andThen]
  exact hK' _ _ (hK A _ c bs rfl hgot)
theorem wpList_lenV (hg : o.guard = none) (m : Operand) (hop : o.op = Op.call { callee := Callee.builtin Builtin.len, args := #[m], argTypes := #[45] }) (B b : Nat) (xs : Vals) (hm : a.eval m = .map (some b)) (h : ValsAt w B b xs)
    (hK : wpList Try.prog ops Q rest (a.put o.dst (.int .i64 (xs.length : Int))) w) : wpList Try.prog ops Q (o :: rest) a w := by
  obtain ⟨hB, f, hmap, hr⟩ := h
  refine wpList_len_own w hg m _ hop 3 30 Try.underlying45 heldR b _ _ hm hmap ?_
  rw [valsD_size]
  exact hK
end
end Go.Proofs.Ytjekcaoonaniaaa
