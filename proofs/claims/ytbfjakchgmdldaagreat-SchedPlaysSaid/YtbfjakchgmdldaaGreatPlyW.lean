/-
  dotterelref12's At and with: what they hand back. Conditions: what the slice reads as, and how many it is at most.
-/
import Derived.Test.YtbfjakchgmdldaaGreatPlyMem
import Derived.Deep.WholeRow
import Derived.Deep.MidRow
import Derived.Laws.OwnMore
namespace Go.Proofs.YtbfjakchgmdldaaGreat
open Go.ChangeShapes Go.WideShapes Go.ChangeAt Go.RowKit
set_option linter.unusedVariables false

/-! ### At -/
def RAtRet (y : List RF) (id : Int) (w : World) (en : Ending) (w' : World) : Prop :=
  ∃ v : Int, en = .returned (.int .i64 v) ∧ ((v = -1 ∧ ∀ r ∈ y, r.id ≠ id) ∨ ∃ (i : Nat) (r : RF), v = (i : Int) ∧ y[i]? = some r ∧ r.id = id) ∧ w = w'
theorem rf_take {y : List RF} {i : Nat} {r : RF} (h : y[i]? = some r) : y.take (i + 1) = y.take i ++ [r] := by
  obtain ⟨hk, rfl⟩ := List.getElem?_eq_some_iff.1 h
  exact List.take_succ_eq_append_getElem hk
set_option maxRecDepth 100000 in
theorem RAt_any (A : Option Addr) (n c : Nat) (y : List RF) (id : Int) (w : World) (hl : y.length = n) (hn : n ≤ 100000) (hs : Seen w A (rfsV y)) :
    Calls Tryz.prog 12 #[.slice A n c, .int .i64 id] w (RAtRet y id w) := by
  have Hl := Lib.hid hl; have Hs := Lib.hid hs
  clear hl hs
  go_enter Tryz.func12, Tryz.ntmps12
  go_wp2
  go_loopw [5] (fun iv wr => ∃ (i : Nat), i ≤ n ∧ iv = .int .i64 (i : Int) ∧ (∀ r ∈ y.take i, r.id ≠ id) ∧ wr = w) (fun iv _ => n - (intOf iv).toNat)
  case atStart => exact ⟨0, by omega, rfl, fun r h => (by simp at h), rfl⟩
  case round =>
    obtain ⟨i, hin, rfl, hno, rfl⟩ := hrel
    have Hno := Lib.hid hno
    clear hno
    by_cases hi : i < n
    · obtain ⟨r, hr⟩ : ∃ r, y[i]? = some r := ⟨_, List.getElem?_eq_getElem (by have := Hl.out; omega)⟩
      obtain ⟨g, o, rfl, hc⟩ := Hs.out.rf hr
      have d0 : wr.cell? ⟨g, o + i * 10, none⟩ = some (.int .i64 r.id) := hc 0 _ rfl
      have Hr := Lib.hid hr
      have i0 : (0 : Int) ≤ (i : Int) := by omega
      have i1 : (i : Int) < (n : Int) := by omega
      clear hr hc
      by_cases he : r.id = id
      · have hq : (r.id == id) = true := by simp [he]
        have He := Lib.hid he
        clear he
        go_wp2
        go_ret
        unfold RAtRet
        exact ⟨(i : Int), rfl, .inr ⟨i, r, rfl, Hr.out, He.out⟩, rfl⟩
      · have hq : (r.id == id) = false := by simpa using he
        have He := Lib.hid he
        clear he
        go_wp2
        go_roundw
        case rel =>
          refine ⟨i + 1, by omega, by go_num, fun r' hr' => ?_, trivial⟩
          rw [rf_take Hr.out, List.mem_append, List.mem_singleton] at hr'
          rcases hr' with hr' | rfl
          · exact Hno.out r' hr'
          · exact He.out
        case measure => simp [intOf]; omega
    · obtain rfl : i = n := by omega
      have i1 : ¬ (i : Int) < (i : Int) := by omega
      have hty : y.take i = y := List.take_of_length_le (by rw [Hl.out]; exact Nat.le_refl _)
      have Hty := Lib.hid hty
      clear hty
      go_wp2
      go_ret
      unfold RAtRet
      exact ⟨-1, rfl, .inl ⟨rfl, fun r hr => Hno.out r (by rw [Hty.out]; exact hr)⟩, rfl⟩

/-! ### a whole flow: its load and its store, behind names -/
def rfArr (r : RF) : Array Value := #[.int .i64 r.id, .int .i64 r.f.ver, .int .i64 r.f.p.re, .int .i64 r.f.p.we, .int .i64 r.f.p.li, .int .i64 r.f.p.bu, .int .i64 r.f.c.r, .int .i64 r.f.c.p, .int .i64 r.f.c.l, .slice r.A r.f.q.length r.c]
def ldFlow (p : Value) : Sem Value := Instr.loadAt 49 p
theorem ldFlow_eq (p : Value) : Instr.loadAt 49 p = ldFlow p := rfl
def stFlow (p v : Value) : Sem Unit := Instr.storeAt 49 p v
theorem stFlow_eq (p v : Value) : Instr.storeAt 49 p v = stFlow p v := rfl
theorem ldFlow_run {w : World} {g o : Nat} {r : RF} (h : ∀ (j : Nat) v, (rfV r)[j]? = some v → w.cell? ⟨g, o + j, none⟩ = some v) : (ldFlow (.pointer (some ⟨g, o, none⟩))).run Tryz.prog w = .ok (.agg (rfArr r)) w :=
  run_loadAt_mid w g o 49 (rfV r) _ h Tryz.underlying49 rfl rf_size
theorem ldFlow_row {w : World} {g : Nat} {r : RF} (h : w.heap[g]? = some (.cells (rfArr r) 49 (0, 0))) : (ldFlow (.pointer (some ⟨g, 0, none⟩))).run Tryz.prog w = .ok (.agg (rfArr r)) w :=
  ldFlow_run fun j v hv => by
    rw [row_cell h, Nat.zero_add, ← Array.getElem?_toList]
    exact hv
theorem setCells_row {g : Nat} {T : TypeId} : ∀ (vs : List Value) (o : Nat) (w : World) (cs : Array Value), w.heap[g]? = some (.cells cs T (0, 0)) → ∃ cs', (w.setCells g o vs).heap[g]? = some (.cells cs' T (0, 0)) ∧ cs'.size = cs.size
  | [], _, _, cs, h => ⟨cs, h, rfl⟩
  | u :: r, o, w, cs, h => by
    obtain ⟨cs', h1, h2⟩ := setCells_row r (o + 1) (w.setCell ⟨g, o, none⟩ u) _ (row_set h o u)
    exact ⟨cs', h1, by rw [h2]; simp⟩
theorem rfsV_div {y : List RF} {j : Nat} {v : Value} (h : (rfsV y)[j]? = some v) : ∃ r, y[j / 10]? = some r ∧ (rfV r)[j % 10]? = some v := by
  have hj := (List.getElem?_eq_some_iff.1 h).1
  rw [rfsV_length] at hj
  have hy : y[j / 10]? = some y[j / 10] := List.getElem?_eq_getElem (by omega)
  refine ⟨_, hy, ?_⟩
  rw [← rfsV_at hy (Nat.mod_lt _ (by omega)), show j / 10 * 10 + j % 10 = j by omega]
  exact h
theorem rfArr_list (r : RF) : (rfArr r).toList = rfV r := rfl
theorem rfV_length (r : RF) : (rfV r).length = 10 := rfl
theorem stFlow_run {w : World} {g o : Nat} (hth : w.there g o 10) (r : RF) : (stFlow (.pointer (some ⟨g, o, none⟩)) (.agg (rfArr r))).run Tryz.prog w = .ok () (w.setCells g o (rfV r)) :=
  run_storeAt_mid w g o 49 (rfArr r) hth rf_size (by simp [rfArr, Value.oneCell'])
/-- one of the flows in a row, stored -/
theorem flow_put {w : World} {g : Nat} {cs : Array Value} {y : List RF} {i : Nat} (hh : w.heap[g]? = some (.cells cs 49 (0, 0))) (hc : ∀ (j : Nat) v, (rfsV y)[j]? = some v → cs[j]? = some v) (hi : i < y.length) (r : RF) :
    ∃ W, (stFlow (.pointer (some ⟨g, i * 10, none⟩)) (.agg (rfArr r))).run Tryz.prog w = .ok () W ∧ RowAt W (some ⟨g, 0, none⟩) 49 (rfsV (y.set i r)) ∧ Turned (fun j => j = g) w W := by
  have hyi : y[i]? = some y[i] := List.getElem?_eq_getElem hi
  have hth : w.there g (i * 10) 10 := fun j hj => by
    refine ⟨?_, row_frozen hh _⟩
    rw [row_cell hh]
    have h1 : (rfsV y)[i * 10 + j]? = (rfV y[i])[j]? := rfsV_at hyi hj
    have hv : (rfV y[i])[j]? = some ((rfV y[i])[j]'(by rw [rfV_length]; exact hj)) := List.getElem?_eq_getElem _
    rw [hv] at h1
    rw [hc _ _ h1]
    rfl
  refine ⟨_, stFlow_run hth r, ?_, turned_cells (p := fun j => j = g) (fun _ => rfl) _ _ _ (Turned.refl _ _)⟩
  obtain ⟨vs, hvs⟩ : ∃ vs, rfV r = vs := ⟨_, rfl⟩
  have hlen : vs.length = 10 := by rw [← hvs]; rfl
  rw [hvs]
  obtain ⟨cs', e1, e2⟩ := setCells_row vs (i * 10) w cs hh
  refine .inr ⟨g, 0, cs', rfl, e1, fun j v hv => ?_⟩
  rw [Nat.zero_add, ← row_cell e1]
  obtain ⟨s, hs, hsv⟩ := rfsV_div hv
  rw [List.getElem?_set] at hs
  by_cases hij : i = j / 10
  · rw [if_pos hij, if_pos hi] at hs
    injection hs with hs
    subst hs
    rw [hvs] at hsv
    have := World.rangeAt_setCells_same w g (i * 10) vs (by rw [hlen]; exact hth) (j % 10) v hsv
    rwa [show i * 10 + j % 10 = j by omega] at this
  · rw [if_neg hij] at hs
    rw [World.cell?_setCells_out g _ _ w ⟨g, j, none⟩ (fun _ _ => by
      show j < i * 10 ∨ i * 10 + vs.length ≤ j
      omega), row_cell hh]
    refine hc j v ?_
    have h1 := rfsV_at hs (j := j % 10) (Nat.mod_lt _ (by omega))
    rw [show j / 10 * 10 + j % 10 = j by omega] at h1
    rw [h1]
    exact hsv

/-! ### with -/
/-- a slice of flows handed back -/
def RowsRet (y : List RF) (w : World) (A : Option Addr) (c : Nat) (w' : World) : Prop := RowAt w' A 49 (rfsV y) ∧ (y.length ≤ c ∧ c ≤ maxLen) ∧ Below w.heap.size w w'
def WithRet (y : List RF) (w : World) (en : Ending) (w' : World) : Prop := ∃ A c, en = .returned (.slice A y.length c) ∧ RowsRet y w A c w'
theorem own_caps {w : World} {base size n c : Nat} {e : TypeId} {A : Option Addr} {xs : List Value} (h : w.ownsRow base e size (.slice A n c) n xs) : n ≤ c ∧ c ≤ maxLen := by
  rcases h.2 with ⟨hv, _⟩ | ⟨g, cap, cur, hv, _, _, h1, h2, _⟩
  · injection hv with h1 h2 h3
    omega
  · injection hv with e1 e2 e3
    omega
theorem rf_box (w : World) (r : RF) : ∃ W, w.alloc (.cells (rfArr r) 49) = W ∧ Below w.heap.size w W ∧ W.heap[w.heap.size]? = some (.cells (rfArr r) 49 (0, 0)) := ⟨_, rfl, below_box _ _, heap_alloc_new w _⟩
theorem rf_none (w : World) : ∃ W, w.alloc (.cells #[] 49) = W ∧ Below w.heap.size w W ∧ ∀ B, B ≤ w.heap.size → W.ownsRow B 49 10 (.slice (some ⟨w.heap.size, 0, none⟩) 0 0) 0 [] :=
  ⟨_, rfl, below_box _ _, fun B hB => World.ownsRow_made w #[] 0 hB (Nat.zero_le _) rfl⟩
attribute [local go_sem ↓] ldFlow_eq stFlow_eq
set_option maxRecDepth 100000 in
set_option maxHeartbeats 4000000 in
theorem RWith_any (A : Option Addr) (n c i : Nat) (y : List RF) (r : RF) (w : World) (hl : y.length = n) (hn : n ≤ 100000) (hi : i < n) (hs : Seen w A (rfsV y)) :
    Calls Tryz.prog 19 #[.slice A n c, .int .i64 (i : Int), .agg (rfArr r)] w (WithRet (y.set i r) w) := by
  obtain ⟨w1, hw1, hb1, hx1⟩ := rf_box w r
  obtain ⟨w2, hw2, hb2, hown2⟩ := rf_none w1
  have Hb1 := Lib.hid hb1; have Hx1 := Lib.hid hx1; have Hb2 := Lib.hid hb2; have Own2 := Lib.hid hown2; have Hl := Lib.hid hl
  have Hs2 := Lib.hid ((hs.below hb1).below hb2)
  have i0 : (0 : Int) ≤ (i : Int) := by omega
  have i1 : (i : Int) < (n : Int) := by omega
  clear hb1 hx1 hb2 hown2 hl hs
  go_enter Tryz.func19, Tryz.ntmps19
  go_upto_region 2 with (at_builtin; refine wpList_app4 rfl (.tmp 8) (.tmp 9) _ rfl 49 _ 10 96 Tryz.underlying26 rf_info rfl (by omega) w1.heap.size (some ⟨w1.heap.size, 0, none⟩) 0 0 [] rfl (Own2.out _ (Nat.le_refl _)) A n c (rfsV y) rfl (by rw [rfsV_length, Hl.out]) Hs2.out (rfsV_one y) (by unfold maxLen; omega) (by omega) Hb2.out.size ?_; intro A3 c3 w3 hown3 hg3 hbk3; have Own3 := Lib.hid hown3; have Hg3 := Lib.hid hg3; clear hown3 hg3 hbk3)
  have hlt : i < n := hi
  have hown := Own3.out
  rw [List.nil_append, Nat.zero_add] at hown
  obtain ⟨g, cc, hf, hg1, hg2⟩ := hown.form (by omega)
  injection hf with hf1 _ hf2
  subst hf1
  subst hf2
  have hrow : ∃ cs, w3.heap[g]? = some (.cells cs 49 (0, 0)) ∧ ∀ (j : Nat) v, (rfsV y)[j]? = some v → cs[j]? = some v := by
    rcases RowAt.of_own hown with h | ⟨g', o', cs, hA, hh, hc⟩
    · exfalso
      have := rfsV_length y
      rw [h] at this
      have := Hl.out
      simp at *
      omega
    · injection hA with hA
      injection hA with e1 e2
      subst e1; subst e2
      exact ⟨cs, hh, fun j v hv => by have := hc j v hv; rwa [Nat.zero_add] at this⟩
  obtain ⟨cs, hh, hc⟩ := hrow
  obtain ⟨W, r1, r2, r3⟩ := flow_put hh hc (by rw [Hl.out]; exact hi) r
  have tg : Turned (fun k => (Value.slice (some ⟨w1.heap.size, 0, none⟩) 0 0).ownBlock = some k) w2 w3 := Turned.of_grown Hg3.out fun k e => e
  have hb3 : Below w1.heap.size w2 w3 := tg.below (fun k e => by have e2 := own_is e; omega) Hb2.out.size
  have hx3 := (hb3.block _ (Array.getElem?_eq_some_iff.1 Hx1.out).1).trans ((Hb2.out.block _ (Array.getElem?_eq_some_iff.1 Hx1.out).1).trans Hx1.out)
  have hld := ldFlow_row hx3
  have hgB : w1.heap.size ≤ g := (hown.lt g rfl).1
  have Hfin := Lib.hid (show Below w.heap.size w W from Hb1.out.trans (((Hb2.out.trans hb3).trans (r3.below (fun j hj => by rw [hj]; exact hgB) (Nat.le_trans Hb2.out.size hb3.size))).mono Hb1.out.size))
  have Hrow := Lib.hid r2
  have Hcap := Lib.hid (own_caps hown)
  clear r2 r3 hh hc hx3 hgB hown hg1 hg2 tg hb3 Own3 hw1 hw2
  go_wp2
  go_ret
  unfold WithRet RowsRet
  rw [List.length_set, Hl.out]
  exact ⟨_, _, rfl, Hrow.out, Hcap.out, Hfin.out⟩
end Go.Proofs.YtbfjakchgmdldaaGreat
