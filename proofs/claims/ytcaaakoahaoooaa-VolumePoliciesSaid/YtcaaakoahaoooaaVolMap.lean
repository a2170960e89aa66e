/-
  A map from ints to values of any type in memory (ValsM), as XMapV tells it, for a program that has no map of ints to ints. They speak of no function of the program. Conditions: what each names.
-/
import Derived.Test.YtcaaakoahaoooaaKept
import Derived.Test.YtcaaakoahaoooaaProg
import Derived.Maps.RangeWalk
import Derived.Maps.OwnSet
import Derived.Laws.OwnMore
namespace Go.Proofs.Ytcaaakoahaoooaa
open Go.ChangeShapes Go.WideShapes Go.ChangeAt Go.RowKit Go.Maps
set_option linter.unusedVariables false

def insK (k : Int) : List Int → List Int
  | [] => [k]
  | y :: r => if k < y then k :: y :: r else y :: insK k r
def outK (ks : List Int) (k : Int) : List Int := ks.filter fun j => j != k
def putK (ks : List Int) (k : Int) : List Int := insK k (outK ks k)
theorem mem_insK {k j : Int} : ∀ {ks : List Int}, j ∈ insK k ks ↔ j = k ∨ j ∈ ks
  | [] => by simp [insK]
  | y :: r => by
    unfold insK
    split
    · simp
    · simp only [List.mem_cons, mem_insK (ks := r)]
      constructor
      · rintro (h | h | h)
        · exact .inr (.inl h)
        · exact .inl h
        · exact .inr (.inr h)
      · rintro (h | h | h)
        · exact .inr (.inl h)
        · exact .inl h
        · exact .inr (.inr h)
theorem mem_outK {k j : Int} {ks : List Int} : j ∈ outK ks k ↔ j ∈ ks ∧ j ≠ k := by simp [outK]
theorem mem_putK {k j : Int} {ks : List Int} : j ∈ putK ks k ↔ j = k ∨ j ∈ ks := by
  unfold putK
  rw [mem_insK, mem_outK]
  by_cases e : j = k <;> simp [e]
theorem insK_length (k : Int) : ∀ ks : List Int, (insK k ks).length = ks.length + 1
  | [] => rfl
  | y :: r => by
    unfold insK
    split
    · rfl
    · simp [insK_length k r]
/-- rising -/
theorem keyed : Keyed Try.prog 3 := int_keyed Try.underlying3
theorem zero_int (w : World) : (zeroValue 3).run Try.prog w = .ok (.int .i64 0) w := by kernel_rfl
theorem key_of {k : Int} (h1 : -9223372036854775808 ≤ k) (h2 : k ≤ 9223372036854775807) : keyOf Try.prog 3 (.int .i64 k) = some (.int .i64 k) :=
  keyOf_int_mk Try.underlying3 (WalkArith.wf_i64 (by omega))
def heldR (v : Value) : Option (DataW Value × List MemPlace) := some (.held v, [])
theorem map_turned {p : Nat → Prop} {w w' : World} {m n : Nat} {D : DataW Value} (h : w.ownsMap Try.prog 3 heldR m n D) (ht : Turned p w w') (hp : ¬ p m) : w'.ownsMap Try.prog 3 heldR m n D := by
  obtain ⟨es, clock, hb, F, hs, hD⟩ := h
  exact ⟨es, clock, ht.heap hb hp, F, hs, hD⟩
theorem map_lt {w : World} {m n : Nat} {D : DataW Value} (h : w.ownsMap Try.prog 3 heldR m n D) : ∃ es clock, w.heap[m]? = some (.map es clock) := by
  obtain ⟨es, clock, hb, _⟩ := h
  exact ⟨es, clock, hb⟩
theorem map_size {w : World} {m n : Nat} {D : DataW Value} (h : w.ownsMap Try.prog 3 heldR m n D) : w.ownsMap Try.prog 3 heldR m (Maps.size D) D := by
  obtain ⟨es, clock, hb, F, hs, rfl⟩ := h
  exact ⟨es, clock, hb, F, by simp [Maps.size, length_sorted], rfl⟩
theorem turned_of_map {w w' : World} {b : Nat} (h : w.mapTurned w' b) : Turned (fun k => k = b) w w' := Turned.of_grown h.grown (p := fun k => k = b) fun k e => by injection e with e; exact e.symm
def updV (F : Int → Value) (k : Int) (v : Value) (j : Int) : Value := if j = k then v else F j
theorem updV_same {F : Int → Value} {k : Int} {v : Value} : updV F k v k = v := if_pos rfl
theorem updV_other {F : Int → Value} {k j : Int} {v : Value} (h : j ≠ k) : updV F k v j = F j := if_neg h
def encV (F : Int → Value) (k : Int) : Lit × DataW Value := (.int .i64 k, .held (F k))
def valsD (ks : List Int) (F : Int → Value) : DataW Value := .map (ks.map (encV F))
theorem encV_filter (x : List Int) (F : Int → Value) (k : Int) : (x.map (encV F)).filter (fun p => !p.1.sameKey (.int .i64 k)) = (outK x k).map (encV F) := by
  rw [List.filter_map]
  congr 1
  apply List.filter_congr
  intro p _
  simp [encV, Lit.sameKey, Bool.not_eq_eq_eq_not]
  by_cases e : p = k <;> simp [e]
theorem insert_encV (F : Int → Value) (p : Int) : ∀ x : List Int, DataW.insert (encV F p) (x.map (encV F)) = (insK p x).map (encV F)
  | [] => rfl
  | y :: r => by
    simp only [List.map_cons, DataW.insert, insK]
    by_cases hlt : p < y
    · have e : (encV F p).1.before (encV F y).1 = true := by simp [encV, Lit.before, hlt]
      rw [if_pos e, if_pos hlt]; rfl
    · have e : ¬ (encV F p).1.before (encV F y).1 = true := by simp [encV, Lit.before, hlt]
      rw [if_neg e, if_neg hlt, insert_encV F p r]; rfl
theorem valsD_put (x : List Int) (F : Int → Value) (k : Int) (v : Value) : (valsD x F).put (.int .i64 k) (.held v) = valsD (putK x k) (updV F k v) := by
  unfold valsD DataW.put putK
  simp only
  rw [encV_filter]
  congr 1
  have e : (outK x k).map (encV F) = (outK x k).map (encV (updV F k v)) := by
    apply List.map_congr_left
    intro p hp
    simp only [encV, updV_other (mem_outK.1 hp).2]
  rw [e, ← insert_encV]
  congr 1
  simp only [encV, updV_same]
theorem valsD_has (x : List Int) (F : Int → Value) (k : Int) : has (valsD x F) (.int .i64 k) = decide (k ∈ x) := by
  unfold valsD
  rw [has_eq, List.any_map, Bool.eq_iff_iff]
  simp [encV, Lit.sameKey]
theorem valsD_size (x : List Int) (F : Int → Value) : Maps.size (valsD x F) = x.length := by simp [valsD, Maps.size]
theorem valsD_at {x : List Int} {F : Int → Value} {k : Int} {z : DataW Value} (hk : k ∈ x) : (valsD x F).atKey (.int .i64 k) z = .held (F k) := by
  unfold valsD DataW.atKey
  simp only
  have : ∃ q ∈ x, q = k ∧ (x.map (encV F)).find? (fun q => q.1.sameKey (.int .i64 k)) = some (encV F q) := by
    cases hf : (x.map (encV F)).find? (fun q => q.1.sameKey (.int .i64 k)) with
    | none =>
      have := List.find?_eq_none.1 hf (encV F k) (List.mem_map.2 ⟨k, hk, rfl⟩)
      simp [encV, Lit.sameKey] at this
    | some y =>
      have h1 := List.find?_some hf
      obtain ⟨q, hq, rfl⟩ := List.mem_map.1 (List.mem_of_find?_eq_some hf)
      refine ⟨q, hq, ?_, rfl⟩
      simpa [encV, Lit.sameKey] using h1
  obtain ⟨q, hq, rfl, e⟩ := this
  rw [e]
  rfl
theorem valsD_none {x : List Int} {F : Int → Value} {k : Int} {z : DataW Value} (hk : ¬ k ∈ x) : (valsD x F).atKey (.int .i64 k) z = z := by
  unfold valsD DataW.atKey
  simp only
  have : (x.map (encV F)).find? (fun q => q.1.sameKey (.int .i64 k)) = none := by
    rw [List.find?_eq_none]
    intro y hy
    obtain ⟨q, hq, rfl⟩ := List.mem_map.1 hy
    intro hs
    have e : q = k := by simpa [encV, Lit.sameKey] using hs
    exact hk (e ▸ hq)
  rw [this]
/-- a map at b that has the names ks -/
def ValsM (w : World) (b : Nat) (ks : List Int) (F : Int → Value) : Prop := w.ownsMap Try.prog 3 heldR b ks.length (valsD ks F)
theorem ValsM.turned {p : Nat → Prop} {w w' : World} {b : Nat} {ks : List Int} {F : Int → Value} (h : ValsM w b ks F) (ht : Turned p w w') (hp : ¬ p b) : ValsM w' b ks F := map_turned h ht hp
theorem ValsM.below {w w' : World} {b : Nat} {ks : List Int} {F : Int → Value} (h : ValsM w b ks F) (hb : Below w.heap.size w w') : ValsM w' b ks F := h.turned (p := fun _ => False) (.of_below hb) id
theorem ValsM.made (w : World) (F : Int → Value) : ValsM (w.alloc (.map #[] 0)) w.heap.size [] F := World.ownsMap_made w _ _ _
theorem ValsM.map {w : World} {b : Nat} {ks : List Int} {F : Int → Value} (h : ValsM w b ks F) : ∃ es c, w.heap[b]? = some (.map es c) := map_lt h
theorem ValsM.lt {w : World} {b : Nat} {ks : List Int} {F : Int → Value} (h : ValsM w b ks F) : b < w.heap.size := by
  obtain ⟨es, c, hc⟩ := h.map
  exact (Array.getElem?_eq_some_iff.1 hc).1
theorem put_run {T e : TypeId} (hT : Try.prog.underlying T = some (.map 3 e)) {w : World} {b : Nat} {ks : List Int} {F : Int → Value} {k : Int} (v : Value) (h : ValsM w b ks F) (h1 : -9223372036854775808 ≤ k) (h2 : k ≤ 9223372036854775807) (hl : ks.length ≤ 1000000) :
    ∃ w', (Instr.mapUpdate T (.map (some b)) (.int .i64 k) v).run Try.prog w = .ok () w' ∧ ValsM w' b (putK ks k) (updV F k v) ∧ Turned (fun k => k = b) w w' := by
  obtain ⟨w', hrun, hown, ht⟩ := World.ownsMap.store h keyed hT (by unfold maxLen; omega) (key_of h1 h2) (val := v) (d := .held v) (ps := []) rfl
  rw [valsD_put] at hown
  have hsz := map_size hown
  rw [valsD_size] at hsz
  exact ⟨w', hrun, hsz, turned_of_map ht⟩
set_option maxRecDepth 100000 in
theorem get_run {T e : TypeId} (hT : Try.prog.underlying T = some (.map 3 e)) {w : World} {b : Nat} {ks : List Int} {F : Int → Value} {k : Int} {z : Value} (hz : (zeroValue e).run Try.prog w = .ok z w) (h : ValsM w b ks F) (h1 : -9223372036854775808 ≤ k) (h2 : k ≤ 9223372036854775807) :
    (Instr.lookup T (.map (some b)) (.int .i64 k) false).run Try.prog w = .ok (if k ∈ ks then F k else z) w := by
  obtain ⟨v, ps, hrun, hv⟩ := World.ownsMap.lookup h keyed hT hz (zd := .held z) (zp := []) rfl (key_of h1 h2)
  simp only [heldR, Option.some.injEq, Prod.mk.injEq] at hv
  by_cases hk : k ∈ ks
  · rw [valsD_at hk] at hv
    injection hv.1 with e
    rw [hrun, e, if_pos hk]
  · rw [valsD_none hk] at hv
    injection hv.1 with e
    rw [hrun, e, if_neg hk]
set_option maxRecDepth 100000 in
theorem has_run {T e : TypeId} (hT : Try.prog.underlying T = some (.map 3 e)) {w : World} {b : Nat} {ks : List Int} {F : Int → Value} {k : Int} {z : Value} (hz : (zeroValue e).run Try.prog w = .ok z w) (h : ValsM w b ks F) (h1 : -9223372036854775808 ≤ k) (h2 : k ≤ 9223372036854775807) :
    (Instr.lookup T (.map (some b)) (.int .i64 k) true).run Try.prog w = .ok (.tuple #[if k ∈ ks then F k else z, .bool (decide (k ∈ ks))]) w := by
  obtain ⟨v, ps, hrun, hv⟩ := World.ownsMap.look_ok h keyed hT hz (zd := .held z) (zp := []) rfl (key_of h1 h2)
  rw [valsD_has] at hrun
  simp only [heldR, Option.some.injEq, Prod.mk.injEq] at hv
  by_cases hk : k ∈ ks
  · rw [valsD_at hk] at hv
    injection hv.1 with e
    rw [hrun, e, if_pos hk]
  · rw [valsD_none hk] at hv
    injection hv.1 with e
    rw [hrun, e, if_neg hk]
section
variable {w : World} {ops : Array Oper} {rest : List Oper} {o : Oper} {a : Act} {Q : Exit → Act → World → Prop}
/-- m[k] = v in a literal -/
theorem wpList_insV {T e : TypeId} (hT : Try.prog.underlying T = some (.map 3 e)) (hg : o.guard = none) (m x v : Operand) (hop : o.op = Op.insert T m x v) (b : Nat) (ks : List Int) (F : Int → Value) (k : Int) (val : Value) (hm : a.eval m = .map (some b)) (hx : a.eval x = .int .i64 k) (hv : a.eval v = val)
    (h : ValsM w b ks F) (h1 : -9223372036854775808 ≤ k) (h2 : k ≤ 9223372036854775807) (hl : ks.length ≤ 1000000)
    (hK : ∀ w', ValsM w' b (putK ks k) (updV F k val) → Turned (fun k => k = b) w w' → wpList Try.prog ops Q rest (a.put o.dst undef) w') : wpList Try.prog ops Q (o :: rest) a w := by
  refine wpList_plain hg fun K' hK' => ?_
  obtain ⟨w', hrun, hown', hturn⟩ := put_run hT val h h1 h2 hl
  unfold Oper.wp
  simp [execOp, hop, hm, hx, hv, hrun, Result.andThen]
  exact hK' _ _ (hK w' hown' hturn)
end
end Go.Proofs.Ytcaaakoahaoooaa
