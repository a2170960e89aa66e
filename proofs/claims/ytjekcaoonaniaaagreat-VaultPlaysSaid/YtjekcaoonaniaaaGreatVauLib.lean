/-
  A map of values in memory (ValsAt): keys that are ints, values that are slices of bytes in memory of the call's own; what keeps it, and the operations on it. Conditions: what each names.
  Contracts of maps.Keys, slices.Sorted, maps.Clone over a map of values, and of slices.Clone of bytes. Conditions: a map of values whose keys rise; what each names.
-/
import Derived.Test.YtjekcaoonaniaaaGreatVauMath
import Derived.Test.YtjekcaoonaniaaaGreatJouD
import Derived.Test.YtjekcaoonaniaaaGreatShelf
import Derived.Lib.SliceRun
namespace Go.Proofs.YtjekcaoonaniaaaGreat
open Go.ChangeShapes Go.WideShapes Go.ChangeAt Go.RowKit Go.Maps
set_option linter.unusedVariables false

theorem keyed : Keyed Tryz.prog 3 := int_keyed Tryz.underlying3
theorem zero_bytes (w : World) : (zeroValue 31).run Tryz.prog w = .ok (.slice none 0 0) w := by kernel_rfl
theorem key_of {k : Int} (h1 : -9223372036854775808 ≤ k) (h2 : k ≤ 9223372036854775807) : keyOf Tryz.prog 3 (.int .i64 k) = some (.int .i64 k) :=
  keyOf_int_mk Tryz.underlying3 (WalkArith.wf_i64 (by omega))

/-- a map at m with the values x, each in a row of its own -/
def ValsAt (w : World) (B m : Nat) (x : Vals) : Prop :=
  B ≤ m ∧ ∃ h : Int → Value, w.ownsMap Tryz.prog 3 heldR m x.length (valsD x h) ∧ ∀ p ∈ x, w.ownsRow B 5 1 (h p.1) p.2.length (bytesV p.2)
/-- what is turned are cells, and no bytes -/
def Spares (w : World) (p : Nat → Prop) : Prop := ∀ k, p k → k < w.heap.size → ∃ cs T fr, w.heap[k]? = some (.cells cs T fr) ∧ T ≠ 5
theorem Spares.none (w : World) : Spares w (fun _ => False) := fun _ h => h.elim

theorem map_turned {p : Nat → Prop} {w w' : World} {m n : Nat} {D : DataW Value} (h : w.ownsMap Tryz.prog 3 heldR m n D) (ht : Turned p w w') (hp : ¬ p m) : w'.ownsMap Tryz.prog 3 heldR m n D := by
  obtain ⟨es, clock, hb, F, hs, hD⟩ := h
  exact ⟨es, clock, ht.heap hb hp, F, hs, hD⟩
theorem map_lt {w : World} {m n : Nat} {D : DataW Value} (h : w.ownsMap Tryz.prog 3 heldR m n D) : ∃ es clock, w.heap[m]? = some (.map es clock) := by
  obtain ⟨es, clock, hb, _⟩ := h
  exact ⟨es, clock, hb⟩
theorem map_size {w : World} {m n : Nat} {D : DataW Value} (h : w.ownsMap Tryz.prog 3 heldR m n D) : w.ownsMap Tryz.prog 3 heldR m (Maps.size D) D := by
  obtain ⟨es, clock, hb, F, hs, rfl⟩ := h
  exact ⟨es, clock, hb, F, by simp [Maps.size, length_sorted], rfl⟩
theorem row_block {w : World} {B n z : Nat} {e : TypeId} {v : Value} {xs : List Value} (h : w.ownsRow B e z v n xs) {k : Nat} (hk : v.ownBlock = some k) : ∃ cs, w.heap[k]? = some (.cells cs e (0, 0)) := by
  rcases h.2 with ⟨rfl, _⟩ | ⟨g, cap, cur, rfl, _, hh, _⟩
  · cases hk
  · injection hk with hk
    subst hk
    exact ⟨_, hh⟩
theorem ValsAt.turned {p : Nat → Prop} {w w' : World} {B m : Nat} {x : Vals} (h : ValsAt w B m x) (ht : Turned p w w') (hs : Spares w p) : ValsAt w' B m x := by
  obtain ⟨hB, f, hm, hr⟩ := h
  refine ⟨hB, f, map_turned hm ht fun hp => ?_, fun q hq => ht.own (hr q hq) fun k hk hp => ?_⟩
  · obtain ⟨es, clock, hb⟩ := map_lt hm
    obtain ⟨cs, T, fr, hc, _⟩ := hs m hp (Array.getElem?_eq_some_iff.1 hb).1
    rw [hb] at hc; cases hc
  · obtain ⟨cs, hb⟩ := row_block (hr q hq) hk
    obtain ⟨cs', T, fr, hc, hne⟩ := hs k hp (Array.getElem?_eq_some_iff.1 hb).1
    rw [hb] at hc
    injection hc with hc
    injection hc with _ e2
    exact hne e2.symm
theorem ValsAt.below {w w' : World} {B m : Nat} {x : Vals} (h : ValsAt w B m x) (hb : Below w.heap.size w w') : ValsAt w' B m x := h.turned (p := fun _ => False) (.of_below hb) (.none w)
theorem ValsAt.lt {w : World} {B m : Nat} {x : Vals} (h : ValsAt w B m x) : B ≤ m ∧ m < w.heap.size := ⟨h.1, by
  obtain ⟨f, hm, _⟩ := h.2
  exact hm.lt⟩
theorem ValsAt.base {w : World} {B B' m : Nat} {x : Vals} (h : ValsAt w B m x) (hb : B' ≤ B) : ValsAt w B' m x := by
  obtain ⟨hB, f, hm, hr⟩ := h
  exact ⟨Nat.le_trans hb hB, f, hm, fun p hp => own_base (hr p hp) hb⟩
theorem ValsAt.made (w : World) {B : Nat} (hB : B ≤ w.heap.size) : ValsAt (w.alloc (.map #[] 0)) B w.heap.size [] :=
  ⟨hB, fun _ => .slice none 0 0, World.ownsMap_made w _ _ _, fun p hp => by cases hp⟩

/-- the blocks of a device are cells, and no bytes -/
theorem IsD.spares {w : World} {B g s : Nat} {r : Option Nat} {d : Dv} (h : IsD w B g s r d) : Spares w (fun k => k = g ∨ k = s ∨ r = some k) := by
  obtain ⟨h1, h2, h3, h4, h5, h6, h7, A, c, h8, h9, h10⟩ := h
  rintro k (rfl | rfl | hk) _
  · exact ⟨_, _, _, h8, by decide⟩
  · exact ⟨_, _, _, h7, by decide⟩
  · rw [← h10] at hk
    obtain ⟨cs, hb⟩ := row_block h9 hk
    exact ⟨_, _, _, hb, by decide⟩
theorem IsJ.spares {w : World} {B g s : Nat} {r : Option Nat} {j : Nat} {q : Option Nat} {J : Jn} (h : IsJ w B g s r j q J) : Spares w (FootJ g s r j q) := by
  have hd := h.dev.spares
  obtain ⟨_, _, _, _, _, _, _, _, _, _, A, c, hh, hown, hq⟩ := h
  rintro k (e | e | e | e | e) hlt
  · exact hd k (.inl e) hlt
  · exact hd k (.inr (.inl e)) hlt
  · subst e; exact ⟨_, _, _, hh, by decide⟩
  · exact hd k (.inr (.inr e)) hlt
  · rw [← hq] at e
    obtain ⟨cs, hb⟩ := row_block hown e
    exact ⟨_, _, _, hb, by decide⟩

section
variable {w : World} {ops : Array Oper} {rest : List Oper} {o : Oper} {a : Act} {Q : Exit → Act → World → Prop}

theorem turned_of_map {w w' : World} {b : Nat} (h : w.mapTurned w' b) : Turned (fun k => k = b) w w' := Turned.of_grown h.grown (p := fun k => k = b) fun k e => by injection e with e; exact e.symm

/-- m[k] = v -/
theorem wpList_putV (hg : o.guard = none) (m x v : Operand) (hop : o.op = Op.mapUpdate 56 m x v) (B b : Nat) (xs : Vals) (k : Int) (val : Value) (bs : List UInt8) (hm : a.eval m = .map (some b)) (hx : a.eval x = .int .i64 k) (hv : a.eval v = val)
    (h : ValsAt w B b xs) (h1 : -9223372036854775808 ≤ k) (h2 : k ≤ 9223372036854775807) (hl : xs.length ≤ 1000000) (hown : w.ownsRow B 5 1 val bs.length (bytesV bs))
    (hK : ∀ w', ValsAt w' B b (putV xs k bs) → Turned (fun k => k = b) w w' → wpList Tryz.prog ops Q rest (a.put o.dst undef) w') : wpList Tryz.prog ops Q (o :: rest) a w := by
  obtain ⟨hB, f, hmap, hr⟩ := h
  refine wpList_mapUpdate_in w hg m x v _ hop 3 31 keyed Tryz.underlying56 heldR b _ _ hm hmap (by unfold maxLen; omega) _ _ (.int .i64 k) hx hv (key_of h1 h2) (.held val) [] rfl ?_
  intro w' hown' hturn
  have ht := turned_of_map hturn
  rw [valsD_put xs f k bs] at hown'
  have hsz := map_size hown'
  rw [valsD_size] at hsz
  obtain ⟨es, clock, hb⟩ := map_lt hmap
  have hne : ∀ {u : Value} {n : Nat} {l : List Value}, w.ownsRow B 5 1 u n l → ∀ k, u.ownBlock = some k → ¬ k = b := fun hr k hk e => by
    obtain ⟨cs, hc⟩ := row_block hr hk
    rw [e, hb] at hc; cases hc
  refine hK w' ⟨hB, _, hsz, fun p hp => ?_⟩ ht
  rcases mem_putV.1 hp with rfl | ⟨hp, hpk⟩
  · rw [setH_same]
    exact ht.own hown (hne hown)
  · rw [setH_other hpk]
    exact ht.own (hr p hp) (hne (hr p hp))

/-- delete(m, k) -/
theorem wpList_delV (hg : o.guard = none) (m x : Operand) (hop : o.op = Op.call { callee := Callee.builtin Builtin.delete, args := #[m, x], argTypes := #[56, 3] }) (B b : Nat) (xs : Vals) (k : Int) (hm : a.eval m = .map (some b)) (hx : a.eval x = .int .i64 k)
    (h : ValsAt w B b xs) (h1 : -9223372036854775808 ≤ k) (h2 : k ≤ 9223372036854775807)
    (hK : ∀ w', ValsAt w' B b (outV xs k) → Turned (fun k => k = b) w w' → wpList Tryz.prog ops Q rest (a.put o.dst (.tuple #[])) w') : wpList Tryz.prog ops Q (o :: rest) a w := by
  obtain ⟨hB, f, hmap, hr⟩ := h
  refine wpList_delete_own w hg m x _ _ hop 31 keyed Tryz.underlying56 heldR b _ _ hm hmap _ (.int .i64 k) hx (key_of h1 h2) ?_
  intro w' hown' hturn
  have ht := turned_of_map hturn
  rw [valsD_del xs f k] at hown'
  have hsz := map_size hown'
  rw [valsD_size] at hsz
  obtain ⟨es, clock, hb⟩ := map_lt hmap
  refine hK w' ⟨hB, _, hsz, fun p hp => ?_⟩ ht
  have hp' := (mem_outV.1 hp).1
  exact ht.own (hr p hp') fun k hk e => by
    obtain ⟨cs, hc⟩ := row_block (hr p hp') hk
    rw [e, hb] at hc; cases hc

/-- what stands at a key: its value's row, or nil -/
def GotV (w : World) (B : Nat) (xs : Vals) (k : Int) (v : Value) (bs : List UInt8) : Prop :=
  w.ownsRow B 5 1 v bs.length (bytesV bs) ∧ ((hasV xs k = true ∧ (k, bs) ∈ xs) ∨ (hasV xs k = false ∧ bs = [] ∧ v = .slice none 0 0))
theorem got_of {B b : Nat} {xs : Vals} {k : Int} {f : Int → Value} {v : Value} {ps : List MemPlace} (hr : ∀ p ∈ xs, w.ownsRow B 5 1 (f p.1) p.2.length (bytesV p.2)) (hv : heldR v = some ((valsD xs f).atKey (.int .i64 k) (.held (.slice none 0 0)), ps)) : ∃ bs, GotV w B xs k v bs := by
  simp only [heldR, Option.some.injEq, Prod.mk.injEq] at hv
  by_cases hk : hasV xs k = true
  · rw [valsD_at hk] at hv
    injection hv.1 with e
    obtain ⟨p, hp, rfl⟩ := hasV_iff.1 hk
    exact ⟨p.2, by rw [e]; exact hr p hp, .inl ⟨hk, hp⟩⟩
  · have hk' : hasV xs k = false := by simpa using hk
    rw [valsD_none hk'] at hv
    injection hv.1 with e
    exact ⟨[], by rw [e]; exact World.ownsRow_nil _ _ _ _, .inr ⟨hk', rfl, e⟩⟩
theorem wpList_lookV (hg : o.guard = none) (m x : Operand) (hop : o.op = Op.lookup 56 m x true) (B b : Nat) (xs : Vals) (k : Int) (hm : a.eval m = .map (some b)) (hx : a.eval x = .int .i64 k)
    (h : ValsAt w B b xs) (h1 : -9223372036854775808 ≤ k) (h2 : k ≤ 9223372036854775807)
    (hK : ∀ A n c bs, bs.length = n → GotV w B xs k (.slice A n c) bs → wpList Tryz.prog ops Q rest (a.put o.dst (.tuple #[.slice A n c, .bool (hasV xs k)])) w) : wpList Tryz.prog ops Q (o :: rest) a w := by
  obtain ⟨hB, f, hmap, hr⟩ := h
  refine wpList_lookup_own_ok w hg m x _ hop 3 31 keyed Tryz.underlying56 heldR (zero_bytes w) (.held (.slice none 0 0)) [] rfl b _ _ hm hmap _ (.int .i64 k) hx (key_of h1 h2) ?_
  intro v ps hv
  rw [valsD_has]
  obtain ⟨bs, hgot⟩ := got_of (b := b) hr hv
  obtain ⟨A, c, rfl⟩ := own_form hgot.1
  exact hK A _ c bs rfl hgot
theorem wpList_getV (hg : o.guard = none) (m x : Operand) (hop : o.op = Op.lookup 56 m x false) (B b : Nat) (xs : Vals) (k : Int) (hm : a.eval m = .map (some b)) (hx : a.eval x = .int .i64 k)
    (h : ValsAt w B b xs) (h1 : -9223372036854775808 ≤ k) (h2 : k ≤ 9223372036854775807)
    (hK : ∀ A n c bs, bs.length = n → GotV w B xs k (.slice A n c) bs → wpList Tryz.prog ops Q rest (a.put o.dst (.slice A n c)) w) : wpList Tryz.prog ops Q (o :: rest) a w := by
  obtain ⟨hB, f, hmap, hr⟩ := h
  refine wpList_plain hg fun K' hK' => ?_
  obtain ⟨v, ps, hrun, hv⟩ := hmap.lookup keyed Tryz.underlying56 (zero_bytes w) (zd := .held (.slice none 0 0)) (zp := []) rfl (key_of h1 h2)
  obtain ⟨bs, hgot⟩ := got_of (b := b) hr hv
  obtain ⟨A, c, rfl⟩ := own_form hgot.1
  unfold Oper.wp
  simp [execOp, hop, hm, hx, hrun, Result.andThen]
  exact hK' _ _ (hK A _ c bs rfl hgot)
/-- m[k], the map as an elder world has it -/
theorem wpList_getV0 (w0 : World) (hg : o.guard = none) (m x : Operand) (hop : o.op = Op.lookup 56 m x false) (B b : Nat) (xs : Vals) (k : Int) (hm : a.eval m = .map (some b)) (hx : a.eval x = .int .i64 k)
    (h : ValsAt w0 B b xs) (hb0 : Below w0.heap.size w0 w) (h1 : -9223372036854775808 ≤ k) (h2 : k ≤ 9223372036854775807)
    (hK : ∀ A n c bs, bs.length = n → GotV w0 B xs k (.slice A n c) bs → wpList Tryz.prog ops Q rest (a.put o.dst (.slice A n c)) w) : wpList Tryz.prog ops Q (o :: rest) a w := by
  obtain ⟨hB, f, hmap0, hr⟩ := h
  have hmap := map_turned hmap0 (Turned.of_below (p := fun _ => False) hb0) id
  refine wpList_plain hg fun K' hK' => ?_
  obtain ⟨v, ps, hrun, hv⟩ := hmap.lookup keyed Tryz.underlying56 (zero_bytes w) (zd := .held (.slice none 0 0)) (zp := []) rfl (key_of h1 h2)
  obtain ⟨bs, hgot⟩ := got_of (b := b) hr hv
  obtain ⟨A, c, rfl⟩ := own_form hgot.1
  unfold Oper.wp
  simp [execOp, hop, hm, hx, hrun, Result.andThen]
  exact hK' _ _ (hK A _ c bs rfl hgot)
theorem wpList_lenV (hg : o.guard = none) (m : Operand) (hop : o.op = Op.call { callee := Callee.builtin Builtin.len, args := #[m], argTypes := #[56] }) (B b : Nat) (xs : Vals) (hm : a.eval m = .map (some b)) (h : ValsAt w B b xs)
    (hK : wpList Tryz.prog ops Q rest (a.put o.dst (.int .i64 (xs.length : Int))) w) : wpList Tryz.prog ops Q (o :: rest) a w := by
  obtain ⟨hB, f, hmap, hr⟩ := h
  refine wpList_len_own w hg m _ hop 3 31 Tryz.underlying56 heldR b _ _ hm hmap ?_
  rw [valsD_size]
  exact hK
end
end Go.Proofs.YtjekcaoonaniaaaGreat

namespace Go.Proofs.YtjekcaoonaniaaaGreat
open Go.ChangeShapes Go.WideShapes Go.ChangeAt Go.RowKit Go.Maps Go.Shelf
set_option linter.unusedVariables false

/-- keys as cells -/
def keysV (x : Vals) : List Value := x.map fun p => .int .i64 p.1
theorem keysV_length (x : Vals) : (keysV x).length = x.length := by simp [keysV]
theorem sorted_keys {x : Vals} (h : Rising x) {ss : List Int} (hp : ss.Perm (x.map (·.1))) : (ss.mergeSort (fun a b => decide (a ≤ b))).map encZ = keysV x := by
  have e : ss.mergeSort leI = (x.map (·.1)).mergeSort leI := mergeSort_of_perm_i hp
  have e2 : (x.map (·.1)).mergeSort leI = x.map (·.1) := by
    refine List.mergeSort_of_pairwise ?_
    rw [List.pairwise_map]
    exact h.imp fun hlt => by simp only [leI, decide_eq_true_eq]; omega
  show (ss.mergeSort leI).map encZ = _
  rw [e, e2, List.map_map]
  rfl

/-- the world behind maps.Keys -/
def boxed (w : World) (m : Nat) : World := w.alloc (.cells #[.map (some m)] 56)
theorem Keys_any (m : Nat) (w : World) :
    Calls Tryz.prog 48 #[.map (some m)] w fun e w' => e = .returned (.func (.func 75) #[] #[.pointer (some ⟨w.heap.size, 0, none⟩)]) ∧ w' = boxed w m :=
  (callsIn_wide (n := 5)).1 (AnyZI.keys_in Tryz.keysA Fence.wide 5 trivial rfl (some m) w)
theorem sortsA (m : Nat) : AnyZI.SortsIn Tryz.prog Tryz.sortedA_ren Fence.wide m :=
  ⟨fun blk off cap ss W hH hblk hsz => callsIn_wide.2 (AnyM.slices_Sort_int Tryz.sortA blk off cap ss W hH hblk hsz),
   fun p cap W => callsIn_wide.2 (AnyM.slices_Sort_int_none Tryz.sortA p cap W)⟩
theorem Sorted_any (B m : Nat) (x : Vals) (w : World) (h : ValsAt w B m x) (hr : Rising x) (hl : x.length ≤ 1000000) :
    Calls Tryz.prog 47 #[.func (.func 75) #[] #[.pointer (some ⟨w.heap.size, 0, none⟩)]] (boxed w m) fun e w' =>
      ∃ A c, e = .returned (.slice A x.length c) ∧ w'.ownsRow w.heap.size 3 1 (.slice A x.length c) x.length (keysV x) ∧ Below w.heap.size w w' := by
  obtain ⟨hB, f, hmap, hrow⟩ := h
  have hlt := hmap.lt
  have hmap' := hmap
  obtain ⟨es, clock, hb, F, hs, hD⟩ := hmap
  have hsz : Maps.size (valsD x f) = x.length := valsD_size x f
  have hseq : SeqGives Fence.wide 2 Tryz.prog 75 #[.pointer (some ⟨w.heap.size, 0, none⟩)] encZ (fun ss => ss.Perm (intKeys (valsD x f))) (Maps.size (valsD x f)) (boxed w m) :=
    AnyZI.keys_gives (ρ := Tryz.keysA_ren) { Tryz.keysA with } Fence.wide _ trivial rfl (by omega) w.heap.size m x.length (valsD x f) _ (by simp [boxed]) (by simp [boxed]) (R := heldR)
      ⟨es, clock, (Below.heap_alloc _ _ m hlt).trans hb, F, hs, hD⟩
  have cS := AnyZI.sorted_in Tryz.sortedA Fence.wide 5 trivial trivial trivial trivial rfl (by omega) (sortsA _) (enters_of Tryz.func74 (by kernel_rfl) rfl) 75 #[.pointer (some ⟨w.heap.size, 0, none⟩)] trivial
    (enters_of Tryz.func75 (by kernel_rfl) rfl) _ _ (by rw [hsz]; unfold maxLen; omega) (by rw [hsz]; omega) _ hseq
  change CallsIn _ _ Tryz.prog 47 _ _ _ at cS
  refine ((callsIn_wide (n := 5)).1 cS).mono ?_
  rintro e w' ⟨v, ss, rfl, hp, hown, hnil, hb⟩
  rw [valsD_keys] at hp
  rw [sorted_keys hr hp] at hown
  have hlen : ss.length = x.length := by have := hp.length_eq; simpa using this
  rw [hlen] at hown
  have hb2 : Below w.heap.size w w' := ((Below.refl _ w).alloc (Nat.le_refl _) _).trans (hb.mono (by simp [boxed]))
  obtain ⟨A, c, rfl⟩ := own_form hown
  exact ⟨A, c, rfl, own_base hown (by simp [boxed]), hb2⟩

theorem MClone_any (B m : Nat) (x : Vals) (w : World) (h : ValsAt w B m x) (hBw : B ≤ w.heap.size) :
    Calls Tryz.prog 70 #[.map (some m)] w fun e w' => e = .returned (.map (some w.heap.size)) ∧ ValsAt w' B w.heap.size x ∧ Below w.heap.size w w' := by
  obtain ⟨hB, f, hmap, hrow⟩ := h
  refine (AnyW.maps_Clone_owns Tryz.cloneA 3 heldR m _ _ w hmap).mono ?_
  rintro e w' ⟨rfl, h1, h2, hb⟩
  exact ⟨rfl, ⟨hBw, f, h1, fun p hp => own_below (hrow p hp) hb⟩, hb⟩

theorem SClone_any (A : Option Addr) (n c : Nat) (bs : List UInt8) (w : World) (hn : bs.length = n) (hl : n ≤ 1000000) (hs : Seen w A (bytesV bs)) :
    Calls Tryz.prog 25 #[.slice A n c] w (OwnRet 5 (bytesV bs) w) := by
  obtain ⟨i0, hi, hz0, hz1, hz2⟩ := info_parts u8_info
  cases A with
  | none =>
    have hb : bs = [] := by
      rcases hs with h | ⟨g, o, e, _⟩
      · simpa [bytesV] using h
      · cases e
    subst hb
    refine (AnyE.slices_Clone_nil Tryz.cloneB n c w).mono ?_
    rintro e w' ⟨rfl, rfl⟩
    exact ⟨none, 0, rfl, World.ownsRow_nil _ _ _ _, Below.refl _ _⟩
  | some ad =>
    have hx : (bytesV bs).length = n := by rw [bytes_length, hn]
    have q22 : ∀ (w : World) (a : Option Addr) (n c n' c' : Nat), (binOp .eql 31 (.slice a n c) (.slice none n' c')).run Tryz.prog w = .ok (.bool a.isNone) w := fun w a n c n' c' => Lib.run_eql_slice_nil w _ _ a n c n' c' Tryz.underlying31
    have Hs := Lib.hid hs; have Hx := Lib.hid hx
    clear hs hx hn
    go_enter Tryz.func25, Tryz.ntmps25
    go_wp2_with (at_builtin; refine wpList_app rfl (.tmp 5) (.tmp 6) _ rfl 5 _ 1 Tryz.underlying31 u8_info rfl w.heap.size (some ⟨w.heap.size, 0, none⟩) 0 0 [] rfl (World.ownsRow_made w #[] 0 (Nat.le_refl _) (Nat.zero_le _) (by simp)) (some ad) n c (bytesV bs) rfl Hx.out (Hs.out.alloc _) (bytes_one _) (by unfold maxLen; omega) (by omega) (by simp) ?_; intro A4 c4 w4 hown4 hb4; simp only [Nat.zero_add, List.nil_append] at hown4; have Hown4 := Lib.hid hown4; have Hb4 := Lib.hid hb4; clear hown4 hb4; simp only [Nat.zero_add])
    go_ret
    exact ⟨A4, c4, by rw [Hx.out]; rfl, by rw [Hx.out]; exact Hown4.out, ((Below.refl _ w).alloc (Nat.le_refl _) _).trans Hb4.out⟩
end Go.Proofs.YtjekcaoonaniaaaGreat
