/-
  Contract of slices.Delete, of the end of a row of entries. Conditions: a row of entries.
-/
import Derived.Test.YtigjkmlhpefafaaRlgPsh
import Derived.Lib.SliceRun
import Derived.Laws.CopyRow
namespace Go.Proofs.Ytigjkmlhpefafaa
open Go.ChangeShapes Go.WideShapes Go.ChangeAt Go.RowKit
set_option linter.unusedVariables false

section
variable {P : Program} {w : World}
theorem run_app_none (t ty e : TypeId) (z : Value) (size bytes : Nat) (ht : P.underlying t = some (.slice e)) (hinfo : (P.info? e).map (fun i => (i.zero, i.size, i.bytes)) = some (some z, size, bytes)) (a0 b : Addr) (i c c2 : Nat) (hic : i ≤ c) :
    (Builtin.append_ #[t, t] ty #[.slice (some a0) i c, .slice (some b) 0 c2]).run P w = .ok (.slice (some a0) i c) w := by
  obtain ⟨j, hi, hz, hs, hb⟩ := info_parts hinfo
  simp [Builtin.append_, run_underlying ht, sizeOf, typeInfo, hi, Builtin.lenOf, Builtin.firstCells, hic, storeCells, loadCells, loadCellsFrom]
/-- an append of nothing, at a step of a region whose order is drawn -/
theorem step_app_none {ops : Array Oper} {o : Oper} {a : Act} {K : Act → World → Prop} {Q : Exit → Act → World → Prop} {E : Prop} (hgd : o.guard = none) (s x : Operand) (t : TypeId)
    (ho : o.op = .call { callee := .builtin .append, args := #[s, x], argTypes := #[t, t] })
    (e : TypeId) (z : Value) (size bytes : Nat) (ht : P.underlying t = some (.slice e)) (hinfo : (P.info? e).map (fun i => (i.zero, i.size, i.bytes)) = some (some z, size, bytes))
    (a0 b : Addr) (i c c2 : Nat) (hs : a.eval s = .slice (some a0) i c) (hx : a.eval x = .slice (some b) 0 c2) (hic : i ≤ c)
    (h : K (a.put o.dst (.slice (some a0) i c)) w) : if Region.wanted o (yielded ops a.tmps) = true then Oper.wp P o a w K Q else E := by
  have hw : Region.wanted o (yielded ops a.tmps) = true := by simp [Region.wanted, hgd]
  rw [if_pos hw]
  have hrun := run_app_none (P := P) (w := w) t o.type e z size bytes ht hinfo a0 b i c c2 hic
  unfold Oper.wp execOp
  simp only [ho, resolve, invoke, builtin, Sem.run_bind, Sem.run_pure, Result.andThen_ok, List.map_toArray, List.map_cons, List.map_nil, hs, hx, hrun]
  exact h
/-- clear, of elements of several cells -/
theorem run_clear_row (t e ty : TypeId) (z : Value) (ht : P.underlying t = some (.slice e)) (hv : ∀ w, (zeroValue e).run P w = .ok z w) (g o m c : Nat) (cur : Array Value) (hg : w.heap[g]? = some (.cells cur e (0, 0))) (hm : 0 < m)
    (h1 : ∀ u ∈ (Builtin.zeroCells z.cells m).toList, u.oneCell' = true) (hfit : o + m * z.cells.size ≤ cur.size) :
    ∃ cur' : Array Value, (Builtin.clear_ #[t] ty #[.slice (some ⟨g, o, none⟩) m c]).run P w = .ok (.tuple #[]) (w.setRow g cur') ∧ cur'.size = cur.size ∧ cur'.toList.take o = cur.toList.take o := by
  have hl : (Builtin.zeroCells z.cells m).toList.length = m * z.cells.size := by rw [Array.length_toList, size_zeroCells]
  have hst := run_storeCells_at P g o e (Builtin.zeroCells z.cells m).toList 0 cur w hg (by rw [hl]; omega) h1
  rw [Nat.add_zero, hl] at hst
  obtain ⟨cur', hc⟩ : ∃ cur' : Array Value, cur' = (cur.toList.take o ++ (Builtin.zeroCells z.cells m).toList ++ cur.toList.drop (o + m * z.cells.size)).toArray := ⟨_, rfl⟩
  rw [← hc] at hst
  refine ⟨cur', ?_, ?_, ?_⟩
  · clear hc hl
    obtain ⟨k, rfl⟩ : ∃ k, m = k + 1 := ⟨m - 1, by omega⟩
    simp [Builtin.clear_, run_underlying ht, hv, hst]
  · rw [hc]
    simp only [List.size_toArray, List.length_append, List.length_take, List.length_drop, hl, Array.length_toList]
    omega
  · rw [hc, List.append_assoc, List.take_append_of_le_length (by simp; omega), List.take_of_length_le (by simp; omega)]
end
theorem zero_ent (w : World) : (zeroValue 28).run Try.prog w = .ok (.agg #[.int .i64 0, .int .i64 0, .slice none 0 0]) w := by kernel_rfl
theorem zero_cells (m : Nat) : ∀ u ∈ (Builtin.zeroCells (Value.agg #[.int .i64 0, .int .i64 0, .slice none 0 0]).cells m).toList, u.oneCell' = true := by
  intro u hu
  simp only [Builtin.zeroCells, Array.toList_map, List.mem_map] at hu
  obtain ⟨i, _, rfl⟩ := hu
  have h3 : (Value.agg #[.int .i64 0, .int .i64 0, .slice none 0 0]).cells.size = 3 := rfl
  rw [h3]
  have : i % 3 < 3 := Nat.mod_lt _ (by omega)
  match i % 3, this with
  | 0, _ => rfl
  | 1, _ => rfl
  | 2, _ => rfl

/-- what Delete hands back: the row's beginning -/
def DelRet (B i c : Nat) (A : Option Addr) (X : List Ent) (w : World) (e : Ending) (w' : World) : Prop :=
  e = .returned (.slice A i c) ∧ w'.ownsRow B 28 3 (.slice A i c) i (entsV (X.take i)) ∧ ∀ p : Nat → Prop, (∀ k, (Value.slice A i c).ownBlock = some k → p k) → Turned p w w'
set_option maxRecDepth 100000 in
set_option maxHeartbeats 1000000 in
theorem Delete_end (B i n c : Nat) (A : Option Addr) (X : List Ent) (w : World) (h : w.ownsRow B 28 3 (.slice A n c) n (entsV X)) (hn : X.length = n) (hi : i ≤ n) :
    Calls Try.prog 22 #[.slice A n c, .int .i64 i, .int .i64 n] w (DelRet B i c A X w) := by
  have hcap := own_capL h
  have hcm := hcap.2
  have hnc := hcap.1
  unfold maxLen at hcm
  have i0 : (0 : Int) ≤ (i : Int) := by omega
  have n0 : (0 : Int) ≤ (n : Int) := by omega
  have i1 : (i : Int) ≤ (n : Int) := by omega
  have n1 : (n : Int) ≤ (c : Int) := by omega
  by_cases hin : i = n
  · subst hin
    have hX : X.take i = X := List.take_of_length_le (by omega)
    have H : Hid (DelRet B i c A X w (.returned (.slice A i c)) w) := Lib.hid ⟨rfl, by rw [hX]; exact h, fun p _ => Turned.refl _ _⟩
    clear h hn hX hcap
    go_enter Try.func22, Try.ntmps22
    go_wp2
    go_ret
    exact H.out
  · rcases h.2 with ⟨hv, hn0⟩ | ⟨g, cap, cur, hv, hg, hh, h1, h2, h3, h4⟩
    · omega
    · injection hv with hA _ hc
      subst hA; subst hc
      have e1 : ((i : Int) == (n : Int)) = false := by simp; omega
      have e2 : ¬ n = i := by omega
      have e3 : ¬ c = i := by omega
      obtain ⟨cur', hrun, hs', ht'⟩ : ∃ cur' : Array Value, (∀ ty, (Builtin.clear_ #[35] ty #[.slice (some ⟨g, i * 3, none⟩) (n - i) (c - i)]).run Try.prog w.drew = .ok (.tuple #[]) (w.drew.setRow g cur')) ∧ cur'.size = cur.size ∧ cur'.toList.take (i * 3) = cur.toList.take (i * 3) := by
        obtain ⟨cur', hrun, hs', ht'⟩ := run_clear_row (P := Try.prog) (w := w.drew) 35 28 0 _ Try.underlying35 zero_ent g (i * 3) (n - i) (c - i) cur hh (by omega) (zero_cells _) (by have h3' : (Value.agg #[.int .i64 0, .int .i64 0, .slice none 0 0]).cells.size = 3 := rfl; rw [h3', h3]; omega)
        exact ⟨cur', fun ty => hrun, hs', ht'⟩
      have H : Hid (DelRet B i c (some ⟨g, 0, none⟩) X w (.returned (.slice (some ⟨g, 0, none⟩) i c)) (w.drew.setRow g cur')) := Lib.hid (by
        have hx : entsV (X.take i) = cur.toList.take (i * 3) := by
          rw [← entsV_take, ← h4, List.take_take]
          congr 1
          omega
        refine ⟨rfl, ⟨by rw [entsV_length, List.length_take]; omega, .inr ⟨g, c, cur', rfl, hg, setRow_heap w.drew g cur _ _ (0, 0) hh, by omega, h2, by rw [hs']; exact h3, by rw [ht', hx]⟩⟩, fun p hp => ?_⟩
        exact ⟨rfl, rfl, rfl, by simp, fun k hk hn => setRow_other _ g k _ (fun e => hn (by subst e; exact hp _ rfl))⟩)
      have j0 : (0 : Int) ≤ (i : Int) := by omega
      have j1 : (i : Int) ≤ (c : Int) := by omega
      have j2 : i ≤ c := by omega
      have j3 : i ≤ n := by omega
      have Hn := Lib.hid hn
      clear h hn hcap hh h4 h1 h2 h3 hs' ht' hin hg
      by_cases hcn : c = n
      · subst hcn
        go_enter Try.func22, Try.ntmps22
        go_wp2_with fail
        go_region_law (refine step_app_none (by rfl) (.tmp 22) (.tmp 25) _ (by rfl) 28 _ 3 40 Try.underlying35 ent_info ⟨g, 0, none⟩ ⟨g, 0, none⟩ i c 0 (by rfl) (by simp [Act.eval, Act.put]) j2 ?_)
        go_wp2
        go_ret
        exact H.out
      · go_enter Try.func22, Try.ntmps22
        go_wp2_with fail
        go_region_law (refine step_app_none (by rfl) (.tmp 22) (.tmp 25) _ (by rfl) 28 _ 3 40 Try.underlying35 ent_info ⟨g, 0, none⟩ ⟨g, n * 3, none⟩ i c (c - n) (by rfl) (by simp [Act.eval, Act.put]) j2 ?_)
        go_wp2
        go_ret
        exact H.out
end Go.Proofs.Ytigjkmlhpefafaa
