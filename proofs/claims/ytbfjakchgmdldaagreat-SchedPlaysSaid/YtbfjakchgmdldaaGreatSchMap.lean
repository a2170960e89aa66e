/-
  The map of flows in memory (FlowsAt): names that are ints, each with a pointer to its state; the operations on it. Conditions: what each names.
-/
import Derived.Test.YtbfjakchgmdldaaGreatSchQue
import Derived.Maps.OwnIn
namespace Go.Proofs.YtbfjakchgmdldaaGreat
open Go.ChangeShapes Go.WideShapes Go.ChangeAt Go.RowKit Go.Maps
set_option linter.unusedVariables false

theorem zero_ptr (w : World) : (zeroValue 66).run Tryz.prog w = .ok (.pointer none) w := by kernel_rfl
def ptrV (b : Int → Nat) (k : Int) : Value := .pointer (some ⟨b k, 0, none⟩)
def encP (b : Int → Nat) (k : Int) : Lit × DataW Value := (.int .i64 k, .held (ptrV b k))
def ptrD (ks : List Int) (b : Int → Nat) : DataW Value := .map (ks.map (encP b))
theorem encP_filter (x : List Int) (b : Int → Nat) (k : Int) : (x.map (encP b)).filter (fun p => !p.1.sameKey (.int .i64 k)) = (outK x k).map (encP b) := by
  rw [List.filter_map]
  congr 1
  apply List.filter_congr
  intro p _
  simp [encP, Lit.sameKey, Bool.not_eq_eq_eq_not]
  by_cases e : p = k <;> simp [e]
theorem insert_encP (b : Int → Nat) (p : Int) : ∀ x : List Int, DataW.insert (encP b p) (x.map (encP b)) = (insK p x).map (encP b)
  | [] => rfl
  | y :: r => by
    simp only [List.map_cons, DataW.insert, insK]
    by_cases hlt : p < y
    · have e : (encP b p).1.before (encP b y).1 = true := by simp [encP, Lit.before, hlt]
      rw [if_pos e, if_pos hlt]; rfl
    · have e : ¬ (encP b p).1.before (encP b y).1 = true := by simp [encP, Lit.before, hlt]
      rw [if_neg e, if_neg hlt, insert_encP b p r]; rfl
theorem ptrD_put (x : List Int) (b : Int → Nat) (k : Int) (g : Nat) : (ptrD x b).put (.int .i64 k) (.held (.pointer (some ⟨g, 0, none⟩))) = ptrD (putK x k) (updB b k g) := by
  unfold ptrD DataW.put putK
  simp only
  rw [encP_filter]
  congr 1
  have e : (outK x k).map (encP b) = (outK x k).map (encP (updB b k g)) := by
    apply List.map_congr_left
    intro p hp
    simp only [encP, ptrV, updB_other (mem_outK.1 hp).2]
  rw [e, ← insert_encP]
  congr 1
  simp only [encP, ptrV, updB_same]
theorem ptrD_del (x : List Int) (b : Int → Nat) (k : Int) : (ptrD x b).del (.int .i64 k) = ptrD (outK x k) b := by
  unfold ptrD DataW.del
  simp only
  rw [encP_filter]
theorem ptrD_has (x : List Int) (b : Int → Nat) (k : Int) : has (ptrD x b) (.int .i64 k) = decide (k ∈ x) := by
  unfold ptrD
  rw [has_eq, List.any_map, Bool.eq_iff_iff]
  simp [encP, Lit.sameKey]
theorem ptrD_size (x : List Int) (b : Int → Nat) : Maps.size (ptrD x b) = x.length := by simp [ptrD, Maps.size]
theorem ptrD_at {x : List Int} {b : Int → Nat} {k : Int} {z : DataW Value} (hk : k ∈ x) : (ptrD x b).atKey (.int .i64 k) z = .held (ptrV b k) := by
  unfold ptrD DataW.atKey
  simp only
  have : ∃ q ∈ x, q = k ∧ (x.map (encP b)).find? (fun q => q.1.sameKey (.int .i64 k)) = some (encP b q) := by
    cases hf : (x.map (encP b)).find? (fun q => q.1.sameKey (.int .i64 k)) with
    | none =>
      have := List.find?_eq_none.1 hf (encP b k) (List.mem_map.2 ⟨k, hk, rfl⟩)
      simp [encP, Lit.sameKey] at this
    | some y =>
      have h1 := List.find?_some hf
      obtain ⟨q, hq, rfl⟩ := List.mem_map.1 (List.mem_of_find?_eq_some hf)
      refine ⟨q, hq, ?_, rfl⟩
      simpa [encP, Lit.sameKey] using h1
  obtain ⟨q, hq, rfl, e⟩ := this
  rw [e]
  rfl
theorem ptrD_none {x : List Int} {b : Int → Nat} {k : Int} {z : DataW Value} (hk : ¬ k ∈ x) : (ptrD x b).atKey (.int .i64 k) z = z := by
  unfold ptrD DataW.atKey
  simp only
  have : (x.map (encP b)).find? (fun q => q.1.sameKey (.int .i64 k)) = none := by
    rw [List.find?_eq_none]
    intro y hy
    obtain ⟨q, hq, rfl⟩ := List.mem_map.1 hy
    intro hs
    have e : q = k := by simpa [encP, Lit.sameKey] using hs
    exact hk (e ▸ hq)
  rw [this]
/-- a map at m that has the names ks, each with a pointer to its block -/
def FlowsAt (w : World) (m : Nat) (ks : List Int) (b : Int → Nat) : Prop := w.ownsMap Tryz.prog 3 heldR m ks.length (ptrD ks b)
theorem FlowsAt.turned {p : Nat → Prop} {w w' : World} {m : Nat} {ks : List Int} {b : Int → Nat} (h : FlowsAt w m ks b) (ht : Turned p w w') (hp : ¬ p m) : FlowsAt w' m ks b := map_turned h ht hp
theorem FlowsAt.below {w w' : World} {m : Nat} {ks : List Int} {b : Int → Nat} (h : FlowsAt w m ks b) (hb : Below w.heap.size w w') : FlowsAt w' m ks b := h.turned (p := fun _ => False) (.of_below hb) id
theorem FlowsAt.made (w : World) (b : Int → Nat) : FlowsAt (w.alloc (.map #[] 0)) w.heap.size [] b := World.ownsMap_made w _ _ _
theorem ptrV_some {ks : List Int} {b : Int → Nat} {k : Int} (hk : k ∈ ks) : (if k ∈ ks then ptrV b k else .pointer none) = .pointer (some ⟨b k, 0, none⟩) := by rw [if_pos hk]; rfl
theorem ptrV_none {ks : List Int} {b : Int → Nat} {k : Int} (hk : ¬ k ∈ ks) : (if k ∈ ks then ptrV b k else .pointer none) = .pointer none := if_neg hk

section
variable {w : World} {ops : Array Oper} {rest : List Oper} {o : Oper} {a : Act} {Q : Exit → Act → World → Prop}
/-- m[k] = p -/
theorem wpList_putP (hg : o.guard = none) (m x v : Operand) (hop : o.op = Op.mapUpdate 57 m x v) (mf : Nat) (ks : List Int) (b : Int → Nat) (k : Int) (g : Nat) (hm : a.eval m = .map (some mf)) (hx : a.eval x = .int .i64 k) (hv : a.eval v = .pointer (some ⟨g, 0, none⟩))
    (h : FlowsAt w mf ks b) (h1 : -9223372036854775808 ≤ k) (h2 : k ≤ 9223372036854775807) (hl : ks.length ≤ 1000000)
    (hK : ∀ w', FlowsAt w' mf (putK ks k) (updB b k g) → Turned (fun k => k = mf) w w' → wpList Tryz.prog ops Q rest (a.put o.dst undef) w') : wpList Tryz.prog ops Q (o :: rest) a w := by
  refine wpList_mapUpdate_in w hg m x v _ hop 3 66 keyed Tryz.underlying57 heldR mf _ _ hm h (by unfold maxLen; omega) _ _ (.int .i64 k) hx hv (key_of h1 h2) (.held (.pointer (some ⟨g, 0, none⟩))) [] rfl ?_
  intro w' hown' hturn
  rw [ptrD_put] at hown'
  have hsz := map_size hown'
  rw [ptrD_size] at hsz
  exact hK w' hsz (turned_of_map hturn)
/-- delete(m, k) -/
theorem wpList_delP (hg : o.guard = none) (m x : Operand) (hop : o.op = Op.call { callee := Callee.builtin Builtin.delete, args := #[m, x], argTypes := #[57, 3] }) (mf : Nat) (ks : List Int) (b : Int → Nat) (k : Int) (hm : a.eval m = .map (some mf)) (hx : a.eval x = .int .i64 k)
    (h : FlowsAt w mf ks b) (h1 : -9223372036854775808 ≤ k) (h2 : k ≤ 9223372036854775807)
    (hK : ∀ w', FlowsAt w' mf (outK ks k) b → Turned (fun k => k = mf) w w' → wpList Tryz.prog ops Q rest (a.put o.dst (.tuple #[])) w') : wpList Tryz.prog ops Q (o :: rest) a w := by
  refine wpList_delete_own w hg m x _ _ hop 66 keyed Tryz.underlying57 heldR mf _ _ hm h _ (.int .i64 k) hx (key_of h1 h2) ?_
  intro w' hown' hturn
  rw [ptrD_del] at hown'
  have hsz := map_size hown'
  rw [ptrD_size] at hsz
  exact hK w' hsz (turned_of_map hturn)
/-- v, ok := m[k] -/
theorem wpList_lookP (hg : o.guard = none) (m x : Operand) (hop : o.op = Op.lookup 57 m x true) (mf : Nat) (ks : List Int) (b : Int → Nat) (k : Int) (hm : a.eval m = .map (some mf)) (hx : a.eval x = .int .i64 k)
    (h : FlowsAt w mf ks b) (h1 : -9223372036854775808 ≤ k) (h2 : k ≤ 9223372036854775807)
    (hK : wpList Tryz.prog ops Q rest (a.put o.dst (.tuple #[if k ∈ ks then ptrV b k else .pointer none, .bool (decide (k ∈ ks))])) w) : wpList Tryz.prog ops Q (o :: rest) a w := by
  refine wpList_lookup_own_ok w hg m x _ hop 3 66 keyed Tryz.underlying57 heldR (zero_ptr w) (.held (.pointer none)) [] rfl mf _ _ hm h _ (.int .i64 k) hx (key_of h1 h2) ?_
  intro v ps hv
  rw [ptrD_has]
  simp only [heldR, Option.some.injEq, Prod.mk.injEq] at hv
  by_cases hk : k ∈ ks
  · rw [ptrD_at hk] at hv
    injection hv.1 with e
    subst e
    simpa [hk] using hK
  · rw [ptrD_none hk] at hv
    injection hv.1 with e
    subst e
    simpa [hk] using hK
theorem look_runP {mf : Nat} {ks : List Int} {b : Int → Nat} {k : Int} (h : FlowsAt w mf ks b) (h1 : -9223372036854775808 ≤ k) (h2 : k ≤ 9223372036854775807) (hk : k ∈ ks) :
    (Instr.lookup 57 (.map (some mf)) (.int .i64 k) false).run Tryz.prog w = .ok (.pointer (some ⟨b k, 0, none⟩)) w := by
  obtain ⟨v, ps, hrun, hv⟩ := World.ownsMap.lookup h keyed Tryz.underlying57 (zero_ptr w) (zd := .held (.pointer none)) (zp := []) rfl (key_of h1 h2)
  simp only [heldR, Option.some.injEq, Prod.mk.injEq] at hv
  rw [ptrD_at hk] at hv
  have e : v = ptrV b k := by injection hv.1
  rw [hrun, e]
  unfold ptrV
  exact rfl
/-- m[k], of a name that is there -/
theorem wpList_getP (hg : o.guard = none) (m x : Operand) (hop : o.op = Op.lookup 57 m x false) (mf : Nat) (ks : List Int) (b : Int → Nat) (k : Int) (hm : a.eval m = .map (some mf)) (hx : a.eval x = .int .i64 k)
    (h : FlowsAt w mf ks b) (h1 : -9223372036854775808 ≤ k) (h2 : k ≤ 9223372036854775807) (hk : k ∈ ks)
    (hK : wpList Tryz.prog ops Q rest (a.put o.dst (.pointer (some ⟨b k, 0, none⟩))) w) : wpList Tryz.prog ops Q (o :: rest) a w := by
  refine wpList_plain hg fun K' hK' => ?_
  have hrun := look_runP h h1 h2 hk
  unfold Oper.wp
  simp [execOp, hop, hm, hx, hrun, Result.andThen]
  exact hK' _ _ hK
theorem wpListIn_getP {F : Fence} {n : Nat} (hg : o.guard = none) (m x : Operand) (hop : o.op = Op.lookup 57 m x false) (mf : Nat) (ks : List Int) (b : Int → Nat) (k : Int) (hm : a.eval m = .map (some mf)) (hx : a.eval x = .int .i64 k)
    (h : FlowsAt w mf ks b) (h1 : -9223372036854775808 ≤ k) (h2 : k ≤ 9223372036854775807) (hk : k ∈ ks)
    (hK : wpListIn F n Tryz.prog ops Q rest (a.put o.dst (.pointer (some ⟨b k, 0, none⟩))) w) : wpListIn F n Tryz.prog ops Q (o :: rest) a w := by
  refine wpListIn_plain hg fun K' hK' => ?_
  have hrun := look_runP h h1 h2 hk
  unfold Oper.wpIn
  refine ⟨by simp [Oper.about, hop], ?_⟩
  rw [Oper.semAt_plain F _ _ (by rw [hop]; intro c hc'; cases hc')]
  simp [execOp, hop, hm, hx, hrun, Result.andThen]
  exact hK' _ _ hK
end
end Go.Proofs.YtbfjakchgmdldaaGreat
