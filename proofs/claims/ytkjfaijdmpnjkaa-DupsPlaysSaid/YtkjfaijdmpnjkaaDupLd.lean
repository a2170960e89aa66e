/-
  Contract of Load: any bytes. Conditions: what each names.
-/
import Derived.Test.YtkjfaijdmpnjkaaDupByt
import Derived.Laws.Tables
namespace Go.Proofs.Ytkjfaijdmpnjkaa
open Go.ChangeShapes Go.WideShapes Go.ChangeAt Go.RowKit Go.Maps Go.Shelf Go.Sort
set_option linter.unusedVariables false

/-- while it is read: the result's cell, the Reader, the table -/
structure LdAt (w wr : World) (gr gt : Nat) (bs : List UInt8) (e : Nat) (x : List Lst) : Prop where
  below : Below w.heap.size w wr
  res : wr.heap[w.heap.size]? = some (.cells #[.map none] 26 (0, 0))
  rd : IsR wr gr bs e
  tab : ∃ m, TabAt wr gt m x
  lo : w.heap.size < gr
  hi : gr < gt
theorem MapT.notCells {w : World} {m : Option Nat} {x : List Lst} (h : MapT w m x) {k : Nat} {cs : Array Value} {T : TypeId} {fr : Nat × Nat} (hk : w.heap[k]? = some (.cells cs T fr)) : m ≠ some k := fun e => by
  rcases h with ⟨rfl, _⟩ | ⟨b, rfl, es, clock, hb, _⟩
  · cases e
  · injection e with e
    subst e
    rw [hb] at hk
    cases hk
theorem LdAt.num {w wr : World} {gr gt : Nat} {bs : List UInt8} {e : Nat} {x : List Lst} (h : LdAt w wr gr gt bs e x) (most : Int) (h1 : -9223372036854775808 ≤ most) (h2 : most ≤ 9223372036854775807) :
    Calls Try.prog 20 #[.pointer (some ⟨gr, 0, none⟩), .int .i64 most] wr fun en w' => en = .returned (.int .i64 ((rdNum bs e most).1 : Int)) ∧ LdAt w w' gr gt (rdNum bs e most).2.1 (rdNum bs e most).2.2 x := by
  refine (RNum_any gr e bs most wr h.rd h1 h2).mono ?_
  rintro en w' ⟨rfl, hr, ht⟩
  obtain ⟨m, hm⟩ := h.tab
  have hlo := h.lo; have hhi := h.hi
  obtain ⟨A, n, c, hh, _⟩ := h.rd
  exact ⟨rfl, h.below.trans (ht.below (fun k e => by omega) h.below.size), ht.heap h.res (by omega), hr, ⟨m, hm.turned ht (by omega) fun k e e2 => hm.2.notCells hh (by rw [e, e2])⟩, h.lo, h.hi⟩
theorem LdAt.put {w wr : World} {gr gt : Nat} {bs : List UInt8} {er : Nat} {x : List Lst} (h : LdAt w wr gr gt bs er x) (hx : TabOk x) (c n e : Int) (h1 : -9223372036854775808 ≤ c) (h2 : c ≤ 9223372036854775807) :
    Calls Try.prog 8 #[.pointer (some ⟨gt, 0, none⟩), .int .i64 c, .int .i64 n, .int .i64 e] wr fun en w' => en = .returned (.int .i64 (putA x c n e)) ∧ LdAt w w' gr gt bs er (putX x c n e) := by
  obtain ⟨m, hm⟩ := h.tab
  have hlo := h.lo; have hhi := h.hi
  refine (Put_any gt m x c n e wr hm hx h1 h2).mono ?_
  rintro en w' ⟨rfl, hm', ht⟩
  exact ⟨rfl, h.below.trans (ht.below (fun k e => by omega) h.below.size), ht.heap h.res (by omega), h.rd.far ht (fun k hk e => by omega), hm', h.lo, h.hi⟩
theorem tab_info : (Try.prog.info? 26).map (·.size) = some 1 := by kernel_rfl
theorem below_row {B : Nat} {a w : World} (h : Below B a w) {g : Nat} (hg : B ≤ g) (cs : Array Value) (hB : B ≤ w.heap.size) : Below B a (w.setRow g cs) := h.trans ⟨rfl, rfl, rfl, by simp, fun q hq => setRow_other w g q _ (by omega)⟩
theorem results_cell_2 {P : Program} {fn : Func} {p u : Tmp} {ty : TypeId} (h : fn.results = #[.cell p ty, .tmp u]) (tmps : Array Value) (w : World) (g : Nat) (t : TypeId) (cs : Array Value) (fr : Nat × Nat) (d : TypeDesc) (b : Value)
    (hp : tmps.getD p undef = .pointer (some ⟨g, 0, none⟩)) (hb : tmps.getD u undef = b) (hg : w.heap[g]? = some (.cells cs t fr))
    (hu : P.underlying ty = some d) (hd : (match d with | .struct _ | .array _ _ => true | _ => false) = true) (hi : (P.info? ty).map (·.size) = some cs.size) :
    (results fn tmps).run P w = .ok (.tuple #[.agg cs, b]) w := by
  rw [results_cell_tmp h, hp, hb]
  simp [asAddr, run_loadVar_row w g t ty cs fr d hg hu hd hi, Result.andThen]
/-- what Load hands back -/
def LoadRet (bs : List UInt8) (w : World) (en : Ending) (w' : World) : Prop :=
  (match loadL bs with
   | some x => ∃ m, en = .returned (.tuple #[.agg #[.map m], .bool true]) ∧ MapT w' m x
   | none => en = .returned (.tuple #[.agg #[.map none], .bool false])) ∧ Below w.heap.size w w'
theorem LoadRet.no {bs : List UInt8} {w w' : World} (h : loadL bs = none) (hb : Below w.heap.size w w') : LoadRet bs w (.returned (.tuple #[.agg #[.map none], .bool false])) w' := by
  unfold LoadRet
  rw [h]
  exact ⟨rfl, hb⟩
theorem LoadRet.yes {bs : List UInt8} {w w' : World} {m : Option Nat} {x : List Lst} (h : loadL bs = some x) (hm : MapT w' m x) (hb : Below w.heap.size w w') : LoadRet bs w (.returned (.tuple #[.agg #[.map m], .bool true])) w' := by
  unfold LoadRet
  rw [h]
  exact ⟨⟨m, rfl, hm⟩, hb⟩
theorem putX_yes {x : List Lst} {c n e : Int} (h : putA x c n e = 0) : putX x c n e = putL x c n e := if_pos h
/-- where the rest of the reading stands -/
def Rest (bs l : List UInt8) (k e : Nat) (z : Int) (x : List Lst) : Prop :=
  loadL bs = match ldL k l e z x with
    | none => none
    | some (l, e, x) => if endOf l e = 0 then some x else none
theorem Rest.zero {bs l : List UInt8} {e : Nat} {z : Int} {x : List Lst} (h : Rest bs l 0 e z x) : loadL bs = if endOf l e = 0 then some x else none := h
theorem Rest.succ {bs l l1 l2 l3 : List UInt8} {k e a e1 b e2 c e3 : Nat} {z : Int} {x : List Lst} (h : Rest bs l (k + 1) e z x) (ha : rdNum l e 255 = (a, l1, e1)) (hb : rdNum l1 e1 1099511627776 = (b, l2, e2)) (hc : rdNum l2 e2 63 = (c, l3, e3)) :
    ((a : Int) ≤ z → loadL bs = none) ∧ (¬ (a : Int) ≤ z → putA x a b c ≠ 0 → loadL bs = none) ∧ (¬ (a : Int) ≤ z → putA x a b c = 0 → Rest bs l3 k e3 a (putL x a b c)) := by
  unfold Rest at h ⊢
  unfold ldL at h
  simp only [ha, hb, hc] at h
  refine ⟨fun q => ?_, fun q r => ?_, fun q r => ?_⟩
  · rw [if_pos q] at h; exact h
  · rw [if_neg q, if_pos r] at h; exact h
  · rw [if_neg q, if_neg (fun h => h r)] at h; exact h
theorem rdNum_most (bs : List UInt8) (e : Nat) (most : Int) (h : 0 ≤ most) : ((rdNum bs e most).1 : Int) ≤ most := by
  unfold rdNum
  split
  · exact h
  · split
    · exact h
    · split
      · exact h
      · omega

set_option maxRecDepth 100000 in
set_option maxHeartbeats 4000000 in
theorem Load_any (A : Option Addr) (n c : Nat) (bs : List UInt8) (w : World) (hn : bs.length = n) (hl : n ≤ 1000000) (hs : Seen w A (bytesV bs)) :
    Calls Try.prog 9 #[.slice A n c] w (LoadRet bs w) := by
  obtain ⟨W1, hW1⟩ : ∃ W1, w.alloc (.cells #[.map none] 26) = W1 := ⟨_, rfl⟩
  have hb1 : Below w.heap.size w W1 := by rw [← hW1]; exact below_alloc _ _
  have hr1 : W1.heap[w.heap.size]? = some (.cells #[.map none] 26 (0, 0)) := by rw [← hW1]; exact heap_alloc_new _ _
  have KN := Lib.hid (NewR_any A n c bs W1 hn hl (hs.below hb1))
  have Hb1 := Lib.hid hb1; have Hr1 := Lib.hid hr1
  obtain ⟨N, l0, e0, h0⟩ : ∃ a r er, rdNum bs 0 32 = (a, r, er) := ⟨_, _, _, rfl⟩
  have hN : (N : Int) ≤ 32 := by have := rdNum_most bs 0 32 (by omega); rw [h0] at this; exact this
  have R0 := Lib.hid (show Rest bs l0 N e0 (-1) [] by unfold Rest; rw [show loadL bs = _ from rfl]; unfold loadL; rw [h0]; rfl)
  have H0 := Lib.hid h0
  clear hb1 hr1 hn hs h0
  go_enter Try.func9, Try.ntmps9
  go_upto_region 2 with (go_at_call 19; refine KN.out.mono ?_; rintro e w1 ⟨g, rfl, hg, hr1, hb2⟩; have Hg := Lib.hid hg; have Hrd := Lib.hid hr1; have Hb2 := Lib.hid hb2; clear hg hr1 hb2)
  obtain ⟨W2, hW2⟩ : ∃ W2, w1.alloc (.cells #[.map none] 26) = W2 := ⟨_, rfl⟩
  have L2 := Lib.hid (show LdAt w W2 g w1.heap.size bs 0 [] by
    have q1 := (Array.getElem?_eq_some_iff.1 Hr1.out).1
    have hb := below_alloc w1 (.cells #[.map none] 26)
    rw [hW2] at hb
    have hr2 : w1.heap[w.heap.size]? = some (.cells #[.map none] 26 (0, 0)) := by rw [Hb2.out.block _ q1]; exact Hr1.out
    exact ⟨(Hb1.out.trans (Hb2.out.mono Hb1.out.size)).trans (hb.mono (Nat.le_trans Hb1.out.size Hb2.out.size)), by rw [hb.block _ (Array.getElem?_eq_some_iff.1 hr2).1]; exact hr2, Hrd.out.below hb, ⟨none, by rw [← hW2]; exact new_tab w1⟩, by have := Hg.out; omega, Hrd.out.lt⟩)
  go_wp2_with (go_at_call 20; refine (L2.out.num 32 (by omega) (by omega)).mono ?_; rintro e w3 ⟨rfl, l3⟩; rw [H0.out] at l3 ⊢; have L3 := Lib.hid l3; clear l3)
  clear hW2 hW1
  go_loopw [6, 14] (fun zv iv wr => ∃ (z : Int) (i e : Nat) (l : List UInt8) (x : List Lst), zv = .int .i64 z ∧ iv = .int .i64 (i : Int) ∧ i ≤ N ∧ -1 ≤ z ∧ z ≤ 255 ∧ Rest bs l (N - i) e z x ∧ TabOk x ∧ LdAt w wr g w1.heap.size l e x) (fun _ iv _ => N - (intOf iv).toNat)
  case atStart => exact ⟨-1, 0, e0, l0, [], rfl, rfl, by omega, by omega, by omega, R0.out, TabOk.nil, L3.out⟩
  case round =>
    obtain ⟨z, i, e, l, x, rfl, rfl, hin, hz1, hz2, hR, hx, hL⟩ := hrel
    have HR := Lib.hid hR; have Hx := Lib.hid hx; have HL := Lib.hid hL
    clear hR hx hL
    by_cases hi : i < N
    · obtain ⟨k, hk⟩ : ∃ k, N - i = k + 1 := ⟨N - i - 1, by omega⟩
      rw [hk] at HR
      obtain ⟨a, l1, e1, ha⟩ : ∃ a l1 e1, rdNum l e 255 = (a, l1, e1) := ⟨_, _, _, rfl⟩
      obtain ⟨b, l2, e2, hb⟩ : ∃ a l2 e2, rdNum l1 e1 1099511627776 = (a, l2, e2) := ⟨_, _, _, rfl⟩
      obtain ⟨c, l3, e3, hc⟩ : ∃ a l3 e3, rdNum l2 e2 63 = (a, l3, e3) := ⟨_, _, _, rfl⟩
      have ha5 : (a : Int) ≤ 255 := by have := rdNum_most l e 255 (by omega); rw [ha] at this; exact this
      have hb5 : (b : Int) ≤ 1099511627776 := by have := rdNum_most l1 e1 1099511627776 (by omega); rw [hb] at this; exact this
      have hc5 : (c : Int) ≤ 63 := by have := rdNum_most l2 e2 63 (by omega); rw [hc] at this; exact this
      have hS := HR.out.succ ha hb hc
      have HS := Lib.hid hS
      have Ha := Lib.hid ha; have Hb := Lib.hid hb; have Hc := Lib.hid hc; have Hk := Lib.hid hk
      have i1 : (i : Int) < (N : Int) := by omega
      clear ha hb hc hS hk
      by_cases q1 : (a : Int) ≤ z
      · have Hq := Lib.hid (HS.out.1 q1)
        go_wp2_with (first
          | (go_at_call_of 20 (Value.int .i64 255); refine (HL.out.num 255 (by omega) (by omega)).mono ?_; rintro e w4 ⟨rfl, l4⟩; rw [Ha.out] at l4 ⊢; have L4 := Lib.hid l4; clear l4)
          | (go_at_call_of 20 (Value.int .i64 1099511627776); refine (L4.out.num 1099511627776 (by omega) (by omega)).mono ?_; rintro e w5 ⟨rfl, l5⟩; rw [Hb.out] at l5 ⊢; have L5 := Lib.hid l5; clear l5)
          | (go_at_call_of 20 (Value.int .i64 63); refine (L5.out.num 63 (by omega) (by omega)).mono ?_; rintro e w6 ⟨rfl, l6⟩; rw [Hc.out] at l6 ⊢; have L6 := Lib.hid l6; clear l6)
          | (refine wpList_store_row rfl 26 (.tmp 2) (.tmp 32) rfl w.heap.size #[.map none] rfl rfl 26 _ L6.out.res tab_info rfl (by simp [Value.oneCell']) ?_))
        refine bodyPost_ret (v := .tuple #[.agg #[.map none], .bool false]) (results_cell_2 rfl _ _ w.heap.size 26 #[.map none] (0, 0) _ (.bool false) rfl rfl (setRow_heap _ w.heap.size _ _ _ (0, 0) L6.out.res) Try.underlying26 rfl tab_info) rfl ?_
        exact LoadRet.no Hq.out (below_row L6.out.below (Nat.le_refl _) _ L6.out.below.size)
      · have q2 : ¬ (a : Int) ≤ z := q1
        by_cases q3 : putA x a b c = 0
        · have Hq := Lib.hid (HS.out.2.2 q1 q3); have H3 := Lib.hid q3
          clear q3
          go_wp2_with (first
          | (go_at_call_of 20 (Value.int .i64 255); refine (HL.out.num 255 (by omega) (by omega)).mono ?_; rintro e w4 ⟨rfl, l4⟩; rw [Ha.out] at l4 ⊢; have L4 := Lib.hid l4; clear l4)
          | (go_at_call_of 20 (Value.int .i64 1099511627776); refine (L4.out.num 1099511627776 (by omega) (by omega)).mono ?_; rintro e w5 ⟨rfl, l5⟩; rw [Hb.out] at l5 ⊢; have L5 := Lib.hid l5; clear l5)
          | (go_at_call_of 20 (Value.int .i64 63); refine (L5.out.num 63 (by omega) (by omega)).mono ?_; rintro e w6 ⟨rfl, l6⟩; rw [Hc.out] at l6 ⊢; have L6 := Lib.hid l6; clear l6)
          | (go_at_call 8; refine (L6.out.put Hx.out a b c (by omega) (by omega)).mono ?_; rintro e w7 ⟨rfl, l7⟩; rw [putX_yes H3.out] at l7; rw [H3.out]; have L7 := Lib.hid l7; clear l7))
          go_roundw
          case rel => exact ⟨a, i + 1, e3, l3, _, rfl, by go_num, by omega, by omega, ha5, by rw [show N - (i + 1) = k by have := Hk.out; omega]; exact Hq.out, Hx.out.put H3.out, L7.out⟩
          case measure => simp [intOf]; omega
        · have q4 : (putA x a b c != 0) = true := by simpa using q3
          have Hq := Lib.hid (HS.out.2.1 q1 q3)
          clear q3
          go_wp2_with (first
          | (go_at_call_of 20 (Value.int .i64 255); refine (HL.out.num 255 (by omega) (by omega)).mono ?_; rintro e w4 ⟨rfl, l4⟩; rw [Ha.out] at l4 ⊢; have L4 := Lib.hid l4; clear l4)
          | (go_at_call_of 20 (Value.int .i64 1099511627776); refine (L4.out.num 1099511627776 (by omega) (by omega)).mono ?_; rintro e w5 ⟨rfl, l5⟩; rw [Hb.out] at l5 ⊢; have L5 := Lib.hid l5; clear l5)
          | (go_at_call_of 20 (Value.int .i64 63); refine (L5.out.num 63 (by omega) (by omega)).mono ?_; rintro e w6 ⟨rfl, l6⟩; rw [Hc.out] at l6 ⊢; have L6 := Lib.hid l6; clear l6)
          | (go_at_call 8; refine (L6.out.put Hx.out a b c (by omega) (by omega)).mono ?_; rintro e w7 ⟨rfl, l7⟩; have L7 := Lib.hid l7; clear l7)
          | (refine wpList_store_row rfl 26 (.tmp 2) (.tmp 32) rfl w.heap.size #[.map none] rfl rfl 26 _ L7.out.res tab_info rfl (by simp [Value.oneCell']) ?_))
          refine bodyPost_ret (v := .tuple #[.agg #[.map none], .bool false]) (results_cell_2 rfl _ _ w.heap.size 26 #[.map none] (0, 0) _ (.bool false) rfl rfl (setRow_heap _ w.heap.size _ _ _ (0, 0) L7.out.res) Try.underlying26 rfl tab_info) rfl ?_
          exact LoadRet.no Hq.out (below_row L7.out.below (Nat.le_refl _) _ L7.out.below.size)
    · obtain rfl : i = N := by omega
      have i1 : ¬ (i : Int) < (i : Int) := by omega
      have hR := HR.out
      rw [Nat.sub_self] at hR
      have HZ := Lib.hid hR.zero
      clear hR
      obtain ⟨m, hm⟩ := HL.out.tab
      have a0 : wr.cell? ⟨w1.heap.size, 0, none⟩ = some (.map m) := row_cell hm.1 0
      have Hm := Lib.hid hm
      clear hm
      by_cases he : endOf l e = 0
      · have Hq := Lib.hid (HZ.out.trans (if_pos he)); have He := Lib.hid he
        clear he
        go_wp2_with (first
          | (go_at_call 21; refine (End_any g e l wr HL.out.rd).mono ?_; rw [He.out]; rintro e w5 ⟨rfl, rfl⟩)
          | (refine wpList_store_row rfl 26 (.tmp 2) (.tmp 39) rfl w.heap.size #[.map m] rfl rfl 26 _ HL.out.res tab_info rfl (by simp [Value.oneCell']) ?_))
        refine bodyPost_ret (v := .tuple #[.agg #[.map m], .bool true]) (results_cell_2 rfl _ _ w.heap.size 26 #[.map m] (0, 0) _ (.bool true) rfl rfl (setRow_heap _ w.heap.size _ _ _ (0, 0) HL.out.res) Try.underlying26 rfl tab_info) rfl ?_
        refine LoadRet.yes Hq.out ?_ (below_row HL.out.below (Nat.le_refl _) _ HL.out.below.size)
        rcases Hm.out.2 with h | ⟨b, rfl, es, clock, hb, h⟩
        · exact .inl h
        · exact .inr ⟨b, rfl, es, clock, by rw [setRow_other _ _ _ _ (fun e => Hm.out.2.notCells HL.out.res (by rw [e]))]; exact hb, h⟩
      · have hq4 : ((endOf l e : Int) != 0) = true := by simpa using he
        have Hq := Lib.hid (HZ.out.trans (if_neg he))
        clear he
        go_wp2_with (first
          | (go_at_call 21; refine (End_any g e l wr HL.out.rd).mono ?_; rintro e w5 ⟨rfl, rfl⟩)
          | (refine wpList_store_row rfl 26 (.tmp 2) (.tmp 38) rfl w.heap.size #[.map none] rfl rfl 26 _ HL.out.res tab_info rfl (by simp [Value.oneCell']) ?_))
        refine bodyPost_ret (v := .tuple #[.agg #[.map none], .bool false]) (results_cell_2 rfl _ _ w.heap.size 26 #[.map none] (0, 0) _ (.bool false) rfl rfl (setRow_heap _ w.heap.size _ _ _ (0, 0) HL.out.res) Try.underlying26 rfl tab_info) rfl ?_
        exact LoadRet.no Hq.out (below_row HL.out.below (Nat.le_refl _) _ HL.out.below.size)
end Go.Proofs.Ytkjfaijdmpnjkaa
