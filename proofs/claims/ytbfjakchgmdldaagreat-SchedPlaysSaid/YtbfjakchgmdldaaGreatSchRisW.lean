/-
  Joined: HomSort, HomAll, SchRis, SchWays. Conditions: each theorem's own.
-/
import Derived.Test.YtbfjakchgmdldaaGreatHomDrop
import Derived.Test.YtbfjakchgmdldaaGreatShelf
import Derived.Test.YtbfjakchgmdldaaGreatNums
import Derived.Laws.MakeOwn
import Derived.RangeFuncNested
import Derived.RangeFuncBound
import Derived.RangeFuncCalls
import Derived.RangeFuncLeaves
import Derived.Shelf.Abstract
import Derived.Shelf.RegionOpen
import Derived.OwnWalkIn
import Derived.TacticsInMore
import Derived.LoopNIn
import Derived.LoopIn
import Derived.Test.YtbfjakchgmdldaaGreatSchSt

section
namespace Go.Proofs.YtbfjakchgmdldaaGreat
open Go.ChangeShapes Go.WideShapes Go.ChangeAt Go.RowKit Go.Maps Go.Sort Go.Shelf Go.Lib
set_option linter.unusedVariables false

/-- what slices.Clone hands back: the same entries in a row of its own -/
def CloneRet (t : List Ent) (w : World) (en : Ending) (w' : World) : Prop :=
  ∃ A c, en = .returned (.slice A t.length c) ∧ w'.ownsRow w.heap.size 88 2 (.slice A t.length c) t.length (entsV t) ∧ Below w.heap.size w w'
theorem Clone_any (B : Nat) (A : Option Addr) (c : Nat) (t : List Ent) (w : World) (hown : w.ownsRow B 88 2 (.slice A t.length c) t.length (entsV t)) (hl : t.length ≤ 100000) :
    Calls Tryz.prog 69 #[.slice A t.length c] w (CloneRet t w) := by
  obtain ⟨i0, hi, hz0, hz1, hz2⟩ := info_parts ent_info
  rcases hown.2 with ⟨hv, hn⟩ | ⟨g, cap, cur, hv, hg, hh, h1, h2, h3, h4⟩
  · injection hv with hA hn' hc
    subst hA
    have ht : t = [] := List.length_eq_zero_iff.1 hn
    subst ht
    refine (AnyE.slices_Clone_nil Tryz.cloneE 0 c w).mono ?_
    rintro e w' ⟨rfl, rfl⟩
    exact ⟨none, 0, rfl, World.ownsRow_nil _ _ _ _, Below.refl _ _⟩
  · injection hv with hA _ hc
    subst hA; subst hc
    have hcells : ∀ j u, (entsV t)[j]? = some u → w.cell? ⟨g, 0 + j, none⟩ = some u := fun j u hj => by
      have hjl := (List.getElem?_eq_some_iff.1 hj).1
      rw [entsV_length] at hjl
      rw [Nat.zero_add, hown.cellAt _ (by omega)]
      exact hj
    have z : ∀ w, (Go.sizeOf 88).run Tryz.prog w = .ok 2 w := Tryz.sizeOf88
    have h := AnyE.slices_Clone Tryz.cloneE i0 _ 2 16 hi hz0 hz1 hz2 rfl (by omega) z g 0 t.length c (entsV t) w (entsV_length t) (by unfold maxLen; omega) (by omega) hcells (entsV_one t)
    refine h.mono ?_
    rintro e w' ⟨v', rfl, h1, _, h3⟩
    obtain ⟨A', c', rfl⟩ := own_formM h1
    exact ⟨A', c', rfl, h1, h3⟩

theorem ltOf_cmpE (x y : Ent) : ltOf cmpE x y = decide (ahead x y) := by
  unfold ltOf
  exact decide_eq_decide.2 (cmpE_lt x y)
theorem swo_cmpE : SWO (ltOf cmpE) := by
  refine ⟨fun x => ?_, fun x y z h1 h2 => ?_, fun x y z h1 h2 => ?_⟩
  · rw [ltOf_cmpE]; exact decide_eq_false (ahead_irr x)
  · rw [ltOf_cmpE, decide_eq_true_eq] at *
    exact ahead_trans h1 h2
  · rw [ltOf_cmpE, decide_eq_false_iff_not] at *
    exact le_trans_E h2 h1
/-- entries sorted as heap.compare tells -/
def sortE (t : List Ent) : List Ent := t.mergeSort fun x y => !(ltOf cmpE) y x
theorem sortE_is {t x : List Ent} (hp : t.Perm x) (hx : GoodE x) : sortE t = x := by
  refine List.Perm.eq_of_pairwise (le := fun x y => (!(ltOf cmpE) y x) = true) ?_ ?_ ?_ ((List.mergeSort_perm _ _).trans hp)
  · intro a b _ _ h1 h2
    simp only [ltOf_cmpE, Bool.not_eq_true', decide_eq_false_iff_not] at h1 h2
    exact antisymm_E h1 h2
  · refine List.pairwise_mergeSort ?_ ?_ _
    · intro a b c h1 h2
      simp only [ltOf_cmpE, Bool.not_eq_true', decide_eq_false_iff_not] at *
      exact le_trans_E h1 h2
    · intro a b
      simp only [ltOf_cmpE, Bool.or_eq_true, Bool.not_eq_true', decide_eq_false_iff_not]
      by_cases h : ahead b a
      · exact .inr (ahead_asymm h)
      · exact .inl h
  · exact hx.up.imp fun {a b} h => by simp only [ltOf_cmpE, Bool.not_eq_true', decide_eq_false_iff_not]; exact ahead_asymm h

theorem flat_list (d : Array Ent) {j : Nat} (hj : j < d.size * 2) : (entsV d.toList)[j]? = some (flatK entV 2 d)[j]! := by
  rw [get_flatK _ _ _ _ hj]
  have hd : j / 2 < d.size := by omega
  have e : d.toList[j / 2]? = some d[j / 2]! := by rw [getElem!_pos d (j / 2) hd, Array.getElem?_toList, Array.getElem?_eq_getElem hd]
  obtain ⟨e0, e1⟩ := entsV_get e
  rcases (by omega : j = j / 2 * 2 ∨ j = j / 2 * 2 + 1) with h | h
  · rw [show j % 2 = 0 by omega, h, e0, ← h]; rfl
  · rw [show j % 2 = 1 by omega]
    rw [← h] at e1
    rw [e1]
    rfl
theorem sorted_own {w : World} {B g n c q : Nat} {T : TypeId} {t : List Ent} {d : Array Ent} {os : Array Obj} (h : w.ownsRow B T 2 (.slice (some ⟨g, 0, none⟩) n c) n (entsV t)) (hd : d.size = n) :
    (sortWorldK entV 2 w g 0 q d os).ownsRow B T 2 (.slice (some ⟨g, 0, none⟩) n c) n (entsV d.toList) ∧ Below B w (sortWorldK entV 2 w g 0 q d os) := by
  rcases h.2 with ⟨hv, _⟩ | ⟨g', cap, cur, hv, hg, hh, h1, h2, h3, h4⟩
  · cases hv
  · injection hv with hv _ hc
    injection hv with hv
    injection hv with hv
    subst hv; subst hc
    have hlt := (Array.getElem?_eq_some_iff.1 hh).1
    have hrow : (sortWorldK entV 2 w g 0 q d os).heap[g]? = some (.cells (putCells id 0 (flatK entV 2 d) cur) T (0, 0)) := by
      show (w.heap.modify g (onCells (putCells id 0 (flatK entV 2 d))) ++ os)[g]? = _
      rw [Array.getElem?_append_left (by simpa using hlt), Array.getElem?_modify, if_pos rfl, hh]
      rfl
    refine ⟨⟨by rw [entsV_length, Array.length_toList, hd], .inr ⟨g, c, _, rfl, hg, hrow, h1, h2, by simp [putCells, h3], ?_⟩⟩, ⟨rfl, rfl, rfl, ?_, fun k hk => ?_⟩⟩
    · apply List.ext_getElem?
      intro j
      rw [List.getElem?_take]
      by_cases hj : j < n * 2
      · rw [if_pos hj, flat_list d (by rw [hd]; exact hj), Array.getElem?_toList]
        have hjc : j < cur.size := by omega
        simp only [putCells, Array.getElem?_mapIdx, Array.getElem?_eq_getElem hjc, Option.map_some]
        rw [if_pos ⟨Nat.zero_le _, by rw [size_flatK, hd]; omega⟩]
        simp
      · rw [if_neg hj, eq_comm, List.getElem?_eq_none_iff, entsV_length, Array.length_toList, hd]; omega
    · show w.heap.size ≤ (w.heap.modify g (onCells (putCells id 0 (flatK entV 2 d))) ++ os).size
      simp
    · show (w.heap.modify g (onCells (putCells id 0 (flatK entV 2 d))) ++ os)[k]? = _
      rw [Array.getElem?_append_left (by simp; omega), Array.getElem?_modify, if_neg (by omega)]

theorem cmpLays (blk off size : Nat) (w : World) : CmpLays Tryz.prog 71 #[] entV 2 cmpE blk off size w := fun _ _ _ _ x y => compare_any x y _
/-- slices.SortFunc: the row holds them sorted -/
theorem Sort_any (B : Nat) (A : Option Addr) (c : Nat) (t : List Ent) (w : World) (hown : w.ownsRow B 88 2 (.slice A t.length c) t.length (entsV t)) (hl : t.length ≤ 100000) :
    Calls Tryz.prog 70 #[.slice A t.length c, .func (.func 71) #[] #[]] w fun e w' => e = .returned (.tuple #[]) ∧ w'.ownsRow B 88 2 (.slice A t.length c) t.length (entsV (sortE t)) ∧ Below B w w' := by
  rcases hown.2 with ⟨hv, hn⟩ | ⟨g, cap, cur, hv, hg, hh, h1, h2, h3, h4⟩
  · have ht : t = [] := List.length_eq_zero_iff.1 hn
    subst ht
    refine (AnyF.slices_SortFunc_none Tryz.sortE A c _ w).mono ?_
    rintro e w' ⟨rfl, rfl⟩
    exact ⟨rfl, by simpa [sortE] using hown, Below.refl _ _⟩
  · injection hv with hA _ hc
    subst hA; subst hc
    have aE : ∀ w, (isAgg 88).run Tryz.prog w = .ok true w := Tryz.isAgg88
    have zE : ∀ w, (Go.sizeOf 88).run Tryz.prog w = .ok 2 w := Tryz.sizeOf88
    have eg : ∀ args w, (callFunc 71 args).run Tryz.prog w = .ok (.enter 71 args) w := enters_of Tryz.func71 (by kernel_rfl) rfl
    have hH : HoldsK entV 2 w g 0 t.toArray := by
      intro j hj
      rw [size_flatK, List.size_toArray] at hj
      have e := flat_list t.toArray (j := j) (by simpa using hj)
      refine ⟨?_, hown.frozenAt _⟩
      rw [Nat.zero_add, hown.cellAt _ (by omega)]
      simpa using e
    have h := AnyQ.slices_SortFunc_total Tryz.sortE 2 aE zE entV (fun _ => rfl) (fun x v hv => by simp [entV] at hv; rcases hv with rfl | rfl <;> rfl) cmpE swo_cmpE 71 #[] g 0 c t.toArray w eg (cmpLays g 0 _ w) hH (Array.getElem?_eq_some_iff.1 hh).1 (by simp; omega)
      (fun x y h1 h2 => by rw [ltOf_cmpE, decide_eq_false_iff_not] at h1 h2; exact antisymm_E h2 h1)
    refine h.mono ?_
    rintro e w' ⟨rfl, n, os, rfl⟩
    have hs := sorted_own (q := n) (d := (sortE t).toArray) (os := os) hown (by simp [sortE, List.length_mergeSort])
    refine ⟨rfl, ?_, ?_⟩
    · have := hs.1
      simpa [sortE] using this
    · have := hs.2
      simpa [sortE] using this
end Go.Proofs.YtbfjakchgmdldaaGreat
end

section
namespace Go.Proofs.YtbfjakchgmdldaaGreat
open Go.ChangeShapes Go.WideShapes Go.ChangeAt Go.RowKit Go.Maps Go.Sort
set_option linter.unusedVariables false

/-- the names of entries -/
def namesE (x : List Ent) : List Int := x.map (·.1)
theorem namesE_length (x : List Ent) : (namesE x).length = x.length := by simp [namesE]
theorem namesE_take {x : List Ent} {i : Nat} {r : Ent} (h : x[i]? = some r) : namesE (x.take (i + 1)) = namesE (x.take i) ++ [r.1] := by
  obtain ⟨hk, rfl⟩ := List.getElem?_eq_some_iff.1 h
  unfold namesE
  rw [List.take_succ_eq_append_getElem hk, List.map_append]
  rfl
theorem int_info : (Tryz.prog.info? 3).map (fun i => (i.zero, i.size, i.bytes)) = some (some (.int .i64 0), 1, 8) := by kernel_rfl
section
variable {P : Program} {w : World}
/-- make([]T, 0, c) -/
theorem wpList_make {ops : Array Oper} {rest : List Oper} {o : Oper} {a : Act} {Q : Exit → Act → World → Prop} (hgd : o.guard = none) (t e : TypeId) (x : Operand) (ho : o.op = .makeSlice t (.const (.int .i64 0)) x)
    (z : Value) (size bytes : Nat) (ht : P.underlying t = some (.slice e)) (hinfo : (P.info? e).map (fun i => (i.zero, i.size, i.bytes)) = some (some z, size, bytes)) (c : Nat) (hx : a.eval x = .int .i64 (c : Int)) (hbytes : bytes * c ≤ 281474976710656) (h63 : c ≤ maxLen)
    (h : ∀ w', w'.ownsRow w.heap.size e size (.slice (some ⟨w.heap.size, 0, none⟩) 0 c) 0 [] → Below w.heap.size w w' → wpList P ops Q rest (a.put o.dst (.slice (some ⟨w.heap.size, 0, none⟩) 0 c)) w') : wpList P ops Q (o :: rest) a w :=
  wpList_plain hgd fun K hK => by
    obtain ⟨i, hi, hz, hs, hb⟩ := info_parts hinfo
    obtain ⟨w', hrun, h1, h2⟩ := run_make_own w w.heap.size t e i z size ht hi hz hs .i64 .i64 c (by rw [hb]; exact hbytes) h63 (Nat.le_refl _)
    unfold Oper.wp execOp
    have hc : a.eval (.const (.int .i64 0)) = .int .i64 0 := rfl
    simp only [ho, Sem.run_bind, Sem.run_pure, hx, hc, hrun, Result.andThen_ok]
    exact hK _ _ (h w' h1 ((Below.refl _ _).grown h2 (Nat.le_refl _) fun k hk => by cases hk))
end
/-- what All hands back -/
def AllRet (x : List Ent) (w : World) (en : Ending) (w' : World) : Prop :=
  ∃ A c, en = .returned (.slice A x.length c) ∧ w'.ownsRow w.heap.size 3 1 (.slice A x.length c) x.length (numsV (namesE x)) ∧ Below w.heap.size w w'

set_option maxRecDepth 100000 in
set_option maxHeartbeats 2000000 in
theorem All_any (B : Nat) (h : Home) (q m : Option Nat) (x : List Ent) (w : World) (H : HeapAt w B h q m x) (hl : x.length ≤ 50000) :
    Calls Tryz.prog 56 #[.pointer (some ⟨h.b, h.o, none⟩)] w (AllRet x w) := by
  obtain ⟨t, ks, f, H1, T, hm, hg, _⟩ := H
  have hp := hg.perm T hm
  have hlen := hp.length_eq
  have hsort := sortE_is hp hg
  obtain ⟨A, c, hrow, hown, -⟩ := H1.row
  have a0 : w.cell? ⟨h.b, h.o, none⟩ = some (.slice A t.length c) := h.cell0 hrow
  obtain ⟨n, hn⟩ : ∃ n, x.length = n := ⟨_, rfl⟩
  have Hown := Lib.hid hown; have Hsort := Lib.hid hsort; have Hlen := Lib.hid hlen; have Hn := Lib.hid hn
  have hn5 : n ≤ 50000 := by omega
  have hcl : Calls Tryz.prog 69 #[.slice A n c] w (CloneRet t w) := by
    have := Clone_any B A c t w hown (by omega)
    rwa [hlen, hn] at this
  have Hcl := Lib.hid hcl
  rw [hlen, hn] at a0
  clear H1 T hm hg hp hlen hsort hrow hown hn hl hcl
  go_enter Tryz.func56, Tryz.ntmps56
  go_wp2_with (first
    | (go_at_call 69; refine Hcl.out.mono ?_; rintro e w1 ⟨A1, c1, rfl, h1, b1⟩; have H1 := Lib.hid h1; have B1 := Lib.hid b1; rw [Hlen.out, Hn.out]; clear h1 b1)
    | (go_at_call 70; refine (show Calls _ _ #[.slice A1 n c1, .func (.func 71) #[] #[]] w1 _ from (by have := Sort_any w.heap.size A1 c1 t w1 H1.out (by have := Hlen.out; have := Hn.out; omega); rw [Hlen.out, Hn.out, Hsort.out] at this; exact this)).mono ?_; rintro e w2 ⟨rfl, h2, b2⟩; have H2 := Lib.hid h2; have B2 := Lib.hid (B1.out.trans b2); clear h2 b2)
    | (refine wpList_make rfl _ 3 (.tmp 15) rfl _ 1 8 Tryz.underlying54 int_info n rfl (by omega) (by unfold maxLen; omega) ?_; intro w3 h3 b3; have H3 := Lib.hid (own_baseM h3 B2.out.size); have R3 := Lib.hid (own_belowM H2.out b3); have B3 := Lib.hid (B2.out.trans (b3.mono B2.out.size)); clear h3 b3))
  go_loopw [4, 6, 19] (fun sv bv iv wr => ∃ (i : Nat) (A' : Option Addr) (c' : Nat), i ≤ n ∧ iv = .int .i64 (i : Int) ∧ sv = .slice A' i c' ∧ wr.ownsRow w.heap.size 3 1 (.slice A' i c') i (numsV (namesE (x.take i))) ∧ wr.ownsRow w.heap.size 88 2 (.slice A1 n c1) n (entsV x) ∧ Below w.heap.size w wr) (fun _ _ iv _ => n - (intOf iv).toNat)
  case atStart => exact ⟨0, _, _, by omega, rfl, rfl, H3.out, R3.out, B3.out⟩
  case round =>
    obtain ⟨i, A', c', hin, rfl, rfl, ho, hr, hb⟩ := hrel
    by_cases hi : i < n
    · obtain ⟨g, cc, hf, hg1, hg2⟩ := hr.form (by omega)
      injection hf with hf1 _ hf2
      subst hf1
      subst hf2
      obtain ⟨r, hx⟩ : ∃ r, x[i]? = some r := ⟨_, List.getElem?_eq_getElem (by have := Hn.out; omega)⟩
      obtain ⟨d0, d1⟩ := own_two hr hx
      obtain ⟨Wa, hWa, hba, xa, -⟩ := new_box wr r
      obtain ⟨Wb, hWb⟩ : ∃ Wb, Wa.alloc (.cells #[.int .i64 r.1] 3) = Wb := ⟨_, rfl⟩
      have hbb : Below wr.heap.size wr Wb := by rw [← hWb]; exact hba.trans (((Below.refl _ _).alloc (Nat.le_refl _) _).mono hba.size)
      have hsb : Seen Wb (some ⟨Wa.heap.size, 0, none⟩) [.int .i64 r.1] := by rw [← hWb]; exact Seen.of_cells (heap_alloc_new Wa _)
      have Ho := Lib.hid (own_belowM ho hbb); have Hr := Lib.hid (own_belowM hr hbb); have Hb := Lib.hid (hb.trans (hbb.mono hb.size)); have Hsb := Lib.hid hsb; have Hx := Lib.hid hx
      have i0 : (0 : Int) ≤ (i : Int) := by omega
      have i1 : (i : Int) < (n : Int) := by omega
      clear ho hr hb hba hbb hsb hx
      go_wp2_with (at_builtin; refine wpList_app2 rfl (.tmp 23) (.tmp 26) _ rfl 3 _ 8 Tryz.underlying54 int_info rfl w.heap.size A' i c' (numsV (namesE (x.take i))) rfl Ho.out (some ⟨Wa.heap.size, 0, none⟩) 1 1 [.int .i64 r.1] rfl rfl Hsb.out (fun u hu => by simp at hu; subst hu; rfl) (by unfold maxLen; omega) (by omega) Hb.out.size ?_; intro A4 c4 w4 hown4 hg4 hbk4; have Hown4 := Lib.hid hown4; have Hg4 := Lib.hid hg4; clear hown4 hg4 hbk4)
      go_roundw
      case rel =>
        have tg : Turned (fun k => (Value.slice A' i c').ownBlock = some k) Wb w4 := Turned.of_grown Hg4.out fun k e => e
        refine ⟨i + 1, A4, c4, by omega, by go_num, rfl, ?_, ?_, ?_⟩
        · have := Hown4.out
          rw [namesE_take Hx.out, numsV_append]
          exact this
        · refine own_turnedM tg Hr.out fun k hk e => ?_
          obtain ⟨cs1, e1⟩ := row_blockM Hr.out hk
          obtain ⟨cs2, e2⟩ := row_blockM Ho.out e
          rw [e1] at e2
          injection e2 with e2
          injection e2 with _ e2
          exact absurd e2 (by decide)
        · exact Hb.out.trans (tg.below (fun k e => (Ho.out.lt k e).1) Hb.out.size)
      case measure => simp [intOf]; omega
    · obtain rfl : i = n := by omega
      have i1 : ¬ (i : Int) < (i : Int) := by omega
      have hty : x.take i = x := List.take_of_length_le (by rw [Hn.out]; exact Nat.le_refl _)
      rw [hty] at ho
      have Ho := Lib.hid ho; have Hb := Lib.hid hb
      clear ho hr hb hty
      go_wp2
      go_ret
      unfold AllRet
      rw [Hn.out]
      exact ⟨A', c', rfl, Ho.out, Hb.out⟩
end Go.Proofs.YtbfjakchgmdldaaGreat
end

section
namespace Go.Proofs.YtbfjakchgmdldaaGreat
open Go.ChangeShapes Go.WideShapes Go.ChangeAt Go.RowKit Go.Maps Go.Sort Go.Shelf
set_option linter.unusedVariables false
attribute [local go_sem] Oper.semAt_some

/-- what a round that goes on keeps: what lay below n₀, and all cells -/
structure KpS (n₀ : Nat) (W W' : World) : Prop where
  below : Below n₀ W W'
  cells : ∀ (k : Nat) cs T fr, W.heap[k]? = some (.cells cs T fr) → W'.heap[k]? = some (.cells cs T fr)
theorem KpS.of_below {n₀ : Nat} {W W' : World} (h : Below W.heap.size W W') (hn : n₀ ≤ W.heap.size) : KpS n₀ W W' :=
  ⟨⟨h.os, h.tape, h.output, h.size, fun k hk => h.block k (by omega)⟩, fun k cs T fr hk => (h.block k (Array.getElem?_eq_some_iff.1 hk).1).trans hk⟩
theorem KpS.trans {n₀ : Nat} {A B C : World} (h : KpS n₀ A B) (k : KpS n₀ B C) : KpS n₀ A C := ⟨h.below.trans k.below, fun i cs T fr e => k.cells i cs T fr (h.cells i cs T fr e)⟩
theorem KpS.put {n₀ : Nat} (W : World) (l : Nat) (o o' : Obj) (hl : n₀ ≤ l) (h : W.heap[l]? = some o) (hc : o.isCells = false) : KpS n₀ W (W.putObj l o') :=
  ⟨⟨rfl, rfl, rfl, by simp, fun k hk => World.putObj_heap_other (by omega)⟩, fun k cs T fr hk => (World.putObj_heap_other (fun e => by subst e; rw [hk] at h; injection h with h; subst h; cases hc)).trans hk⟩
theorem KpS.own {n₀ : Nat} {W W' : World} (h : KpS n₀ W W') {b n z : Nat} {e : TypeId} {v : Value} {xs : List Value} (ho : W.ownsRow b e z v n xs) : W'.ownsRow b e z v n xs := by
  refine ⟨ho.1, ?_⟩
  rcases ho.2 with h2 | ⟨g, cap, cur, rfl, hg, hh, r⟩
  · exact .inl h2
  · exact .inr ⟨g, cap, cur, rfl, hg, h.cells _ _ _ _ hh, r⟩
theorem KpS.heap {n₀ B : Nat} {h : Home} {q m : Option Nat} {x : List Ent} {W W' : World} (k : KpS n₀ W W') (H : HeapAt W B h q m x) (hF : ∀ j, Foot h q m j → j < n₀) : HeapAt W' B h q m x :=
  H.turned (p := fun j => n₀ ≤ j) ⟨k.below.os, k.below.tape, k.below.output, k.below.size, fun j hj hn => k.below.block j (by omega)⟩ fun j hj e => by have := hF j hj; omega
theorem grownBy_of_below {W W' : World} (h : Below W.heap.size W W') : W.grownBy W' none := ⟨h.os, h.tape, h.output, h.size, fun k hk _ => h.block k hk⟩
/-- an entry of a list, with the proof that it is one -/
abbrev EntOf (x : List Ent) := { e : Ent // e ∈ x }
theorem attach_at {x : List Ent} {i : Nat} (hi : i < x.length) : ∃ e : EntOf x, x[i]? = some e.1 ∧ x.attach.take (i + 1) = x.attach.take i ++ [e] := by
  have hl : i < x.attach.length := by rw [List.length_attach]; exact hi
  refine ⟨x.attach[i], ?_, List.take_succ_eq_append_getElem hl⟩
  rw [List.getElem_attach]
  exact List.getElem?_eq_getElem hi
/-- all names have come, or a part of them, a round having said no more -/
def RisRet (x : List Ent) (J Jx : List (EntOf x) → World → Prop) (e : Ending) (W' : World) : Prop :=
  (∃ v, e = .returned v) ∧ ((∃ ys, ys = x.attach ∧ J ys W') ∨ (∃ pre, (∃ k, k < x.length ∧ pre = x.attach.take (k + 1)) ∧ Jx pre W'))
theorem Least_nil (B : Nat) (h : Home) (q m : Option Nat) (w : World) (H : HeapAt w B h q m []) :
    Calls Tryz.prog 25 #[.pointer (some ⟨h.b, h.o, none⟩)] w fun e w' => e = .returned (.tuple #[.int .i64 0, .int .i64 0, .bool false]) ∧ Below w.heap.size w w' := by
  refine (Least_any B h q m [] w H (by simp)).mono ?_
  rintro e w' ⟨n, k, ok, rfl, h1 | h1, hb⟩
  · obtain ⟨_, rfl, rfl, rfl⟩ := h1
    exact ⟨rfl, hb⟩
  · simp at h1
theorem Least_cons (B : Nat) (h : Home) (q m : Option Nat) (r : Ent) (x : List Ent) (w : World) (H : HeapAt w B h q m (r :: x)) (hl : (r :: x).length ≤ 100000) :
    Calls Tryz.prog 25 #[.pointer (some ⟨h.b, h.o, none⟩)] w fun e w' => e = .returned (.tuple #[.int .i64 r.1, .int .i64 r.2, .bool true]) ∧ Below w.heap.size w w' := by
  refine (Least_any B h q m _ w H hl).mono ?_
  rintro e w' ⟨n, k, ok, rfl, h1 | h1, hb⟩
  · cases h1.1
  · obtain ⟨h1, rfl⟩ := h1
    simp at h1
    subst h1
    exact ⟨rfl, hb⟩
set_option maxRecDepth 100000 in
set_option maxHeartbeats 4000000 in
theorem rising1_in (n : Nat) (hn : 2 ≤ n) (l Bs n₀ B : Nat) (h : Home) (q m : Option Nat) (x : List Ent) (hx : x.length ≤ 50000) (J Jx : List (EntOf x) → World → Prop) (hJ : ∀ s A Z, J s A → Below A.heap.size A Z → J s Z)
    (hY : ∀ pre (k : EntOf x) W, J pre W → pre.length < x.length → YieldAt Fence.wide (n - 1) Tryz.prog l #[.int .i64 k.1.1] W fun e W' => (e = .returned (.bool true) ∧ J (pre ++ [k]) W' ∧ KpS n₀ W W') ∨ (e = .returned (.bool false) ∧ Jx (pre ++ [k]) W'))
    (W : World) (hBs : Bs < n₀) (hBc : W.cell? ⟨Bs, 0, none⟩ = some (.pointer (some ⟨h.b, h.o, none⟩))) (H : HeapAt W B h q m x) (hF : ∀ k, Foot h q m k → k < n₀) (hn0 : n₀ ≤ W.heap.size) (h0 : J [] W) :
    CallsIn Fence.wide n Tryz.prog 55 #[.func (.yield l) #[] #[], .pointer (some ⟨Bs, 0, none⟩)] W (RisRet x J Jx) := by
  refine callsIn_of_wp Tryz.func55 rfl trivial ?_ rfl
  simp only [Tryz.ntmps55, List.size_toArray, List.length_cons, List.length_nil, Nat.reduceAdd, Nat.reduceSub, Array.replicate_succ, Array.replicate_zero, List.push_toArray, List.append_toArray, List.nil_append, List.cons_append]
  have h1 : 1 ≤ n := by omega
  cases x with
  | nil =>
    have KL := Lib.hid (Least_nil B h q m W H)
    have HJ := Lib.hid hJ; have H0 := Lib.hid h0
    clear H hF hJ hY h0 hx hn0 hn hBs
    gi_wp2_with (refine ⟨trivial, ?_⟩; gi_at_call 25; refine (callsIn_wide.2 KL.out).mono ?_; rintro e w1 ⟨rfl, hb1⟩; have Hb1 := Lib.hid hb1; clear hb1)
    refine ⟨fun _ h => (by cases h), ?_⟩
    gi_wp2
    refine bodyPost_ret (results_none rfl _ _ _) rfl ?_
    unfold RisRet
    exact ⟨⟨_, rfl⟩, .inl ⟨_, rfl, HJ.out _ _ _ H0.out Hb1.out⟩⟩
  | cons r x =>
    have KL := Lib.hid (Least_cons B h q m r x W H (by omega))
    have HH := Lib.hid H; have HF := Lib.hid hF; have HJ := Lib.hid hJ; have HY := Lib.hid hY; have H0 := Lib.hid h0; have Hx := Lib.hid hx; have Hn0 := Lib.hid hn0; have Hn := Lib.hid hn; have HBs := Lib.hid hBs
    clear H hF hJ hY h0 hx hn0 hn hBs
    gi_wp2_with (refine ⟨trivial, ?_⟩; gi_at_call 25; refine (callsIn_wide.2 KL.out).mono ?_; rintro e w1 ⟨rfl, hb1⟩; have Hb1 := Lib.hid hb1; clear hb1; obtain ⟨fn, tmps, assign, body, hy, hR⟩ := HY.out [] ⟨r, List.mem_cons_self⟩ w1 (HJ.out _ _ _ H0.out Hb1.out) (by simp); have HR := Lib.hid hR; clear hR)
    refine HR.out.mono ?_
    rintro e W3 (⟨rfl, hJ3, hk3⟩ | ⟨rfl, hJx3⟩)
    · have Hn1 := Lib.hid (show n₀ ≤ w1.heap.size from Nat.le_trans Hn0.out Hb1.out.size)
      have hb3 : W3.cell? ⟨Bs, 0, none⟩ = some (.pointer (some ⟨h.b, h.o, none⟩)) := by
        have e1 : w1.cell? ⟨Bs, 0, none⟩ = some (.pointer (some ⟨h.b, h.o, none⟩)) := (Hb1.out.cell (p := ⟨Bs, 0, none⟩) (Nat.lt_of_lt_of_le HBs.out Hn0.out)).trans hBc
        exact (hk3.below.cell (p := ⟨Bs, 0, none⟩) HBs.out).trans e1
      have KAll := Lib.hid (All_any B h q m (r :: x) W3 (hk3.heap (HH.out.below Hb1.out) HF.out) Hx.out)
      have HJ3 := Lib.hid hJ3; have Hk3 := Lib.hid hk3
      clear hJ3 hk3 hy HR KL hBc
      obtain ⟨N, hN⟩ : ∃ N, x.length = N := ⟨_, rfl⟩
      have HN := Lib.hid hN
      have hN5 : N ≤ 50000 := by have := Hx.out; rw [List.length_cons, hN] at this; omega
      clear hN
      gi_wp2_with (refine ⟨trivial, ?_⟩; gi_at_call 56; refine (callsIn_wide.2 KAll.out).mono ?_; rintro e w4 ⟨A, c, rfl, ho, hb4⟩; have Hb4 := Lib.hid hb4; rw [List.length_cons, HN.out] at ho ⊢; obtain ⟨g, cc, hf, hg1, hg2⟩ := ho.form (by omega); injection hf with hf1 _ hf2; subst hf1; subst hf2; have Hcap := Lib.hid (own_cap ho (by omega)).1; have Ho := Lib.hid ho; clear ho hb4 hg1 hg2)
      all_goals
        gi_loopw [26] (fun iv wr => ∃ i : Nat, i ≤ N ∧ iv = .int .i64 (i : Int) ∧ J ((r :: x).attach.take (i + 1)) wr ∧ KpS n₀ w4 wr) (fun iv _ => N - (intOf iv).toNat)
        case atStart => exact ⟨0, Nat.zero_le _, rfl, HJ.out _ _ _ HJ3.out Hb4.out, KpS.of_below (Below.refl _ _) (Nat.le_trans Hn1.out (Nat.le_trans Hk3.out.below.size Hb4.out.size))⟩
        case round =>
          obtain ⟨i, hi, rfl, hJr, hkr⟩ := hrel
          have HJr := Lib.hid hJr; have Hkr := Lib.hid hkr
          clear hJr hkr
          by_cases hlt : i < N
          · first
            | (exfalso; have := Hcap.out; omega)
            | (
              obtain ⟨⟨e, hme⟩, he, htk⟩ := attach_at (x := r :: x) (i := i + 1) (by rw [List.length_cons, HN.out]; omega)
              obtain ⟨fn, tmps, assign, body, hy, hR⟩ := HY.out _ ⟨e, hme⟩ wr HJr.out (by rw [List.length_take, List.length_attach, List.length_cons, HN.out]; omega)
              dsimp only at he hy
              rw [← htk] at hR
              have hrow := Hkr.out.own Ho.out
              have hcell : wr.cell? ⟨g, 1 + i, none⟩ = some (.int .i64 e.1) := by
                rw [hrow.cellAt _ (by omega)]
                have : (namesE (r :: x))[1 + i]? = some e.1 := by unfold namesE; rw [List.getElem?_map, show 1 + i = i + 1 by omega, he]; rfl
                unfold numsV
                rw [List.getElem?_map, this]
                rfl
              have HR := Lib.hid hR
              have i0 : (0 : Int) ≤ (i : Int) := by omega
              have i1 : (i : Int) < (N : Int) := by omega
              clear hR htk hrow he hme
              gi_wp2
              refine HR.out.mono ?_
              rintro e W5 (⟨rfl, hJ5, hk5⟩ | ⟨rfl, hJx5⟩)
              · gi_wp2
                go_roundw
                case rel => exact ⟨i + 1, by omega, by go_num, hJ5, Hkr.out.trans hk5⟩
                case measure => simp [intOf]; omega
              · gi_wp2
                refine bodyPost_ret (results_none rfl _ _ _) rfl ?_
                unfold RisRet
                exact ⟨⟨_, rfl⟩, .inr ⟨_, ⟨i + 1, by rw [List.length_cons, HN.out]; omega, rfl⟩, hJx5⟩⟩)
          · obtain rfl : i = N := by omega
            have i1 : ¬ (i : Int) < (i : Int) := by omega
            have hall : (r :: x).attach.take (i + 1) = (r :: x).attach := List.take_of_length_le (by rw [List.length_attach, List.length_cons, HN.out]; omega)
            have HJr2 := HJr.out
            rw [hall] at HJr2
            have HJ9 := Lib.hid HJr2
            clear HJr2 hall
            gi_wp2
            go_end0
            unfold RisRet
            exact ⟨⟨_, rfl⟩, .inl ⟨_, rfl, HJ9.out⟩⟩
    · have HJx := Lib.hid hJx3
      clear hJx3 hy HR KL
      gi_wp2
      refine bodyPost_ret (results_none rfl _ _ _) rfl ?_
      unfold RisRet
      exact ⟨⟨_, rfl⟩, .inr ⟨_, ⟨0, by simp, rfl⟩, HJx.out⟩⟩
/-- a range over a heap's names: all of them, or up to one at which it left -/
theorem rising_stops (n : Nat) (hn : 2 ≤ n) (Bs n₀ B : Nat) (h : Home) (q m : Option Nat) (x : List Ent) (hx : x.length ≤ 50000) (w : World) (hBs : Bs < n₀) (hn₀ : n₀ ≤ w.heap.size) (hBc : w.cell? ⟨Bs, 0, none⟩ = some (.pointer (some ⟨h.b, h.o, none⟩))) (H : HeapAt w B h q m x) (hF : ∀ k, Foot h q m k → k < n₀) :
    SeqStopsK Fence.wide n Tryz.prog 55 #[.pointer (some ⟨Bs, 0, none⟩)] (fun e : EntOf x => #[.int .i64 e.1.1]) (KpS n₀) (fun ys => ys = x.attach) (fun pre => ∃ k, k < x.length ∧ pre = x.attach.take (k + 1)) x.length w := fun l J Jx W hW hJ hJx hY h0 =>
  rising1_in n hn l Bs n₀ B h q m x hx J Jx (fun s A Z hs hb => hJ s A Z none hs (grownBy_of_below hb) fun r e => by cases e) hY W hBs ((hW.cell (p := ⟨Bs, 0, none⟩) (Nat.lt_of_lt_of_le hBs hn₀)).trans hBc) (H.below hW) hF (Nat.le_trans hn₀ hW.size) h0
theorem rising_any (h : Home) (w : World) : Calls Tryz.prog 45 #[.pointer (some ⟨h.b, h.o, none⟩)] w fun e w' => e = .returned (.func (.func 55) #[] #[.pointer (some ⟨w.heap.size, 0, none⟩)]) ∧ w' = w.alloc (.cells #[.pointer (some ⟨h.b, h.o, none⟩)] 86) := by
  go_enter Tryz.func45, Tryz.ntmps45
  go_wp2
  go_ret
  exact ⟨rfl, rfl⟩
end Go.Proofs.YtbfjakchgmdldaaGreat
end

section
namespace Go.Proofs.YtbfjakchgmdldaaGreat
open Go.ChangeShapes Go.WideShapes Go.ChangeAt Go.RowKit Go.Maps
set_option linter.unusedVariables false
/-- the two ways, as cells -/
def waysV (s : Nat) : Array Value := #[.int .i64 1, .pointer (some ⟨s, 1, none⟩), .func (.func 53) #[] #[], .int .i64 2, .pointer (some ⟨s, 3, none⟩), .func (.func 54) #[] #[]]
def stWays (p v : Value) : Sem Unit := Instr.storeAt 91 p v
theorem stWays_eq (p v : Value) : Instr.storeAt 91 p v = stWays p v := rfl
def noWays : Array Value := #[.int .i64 0, .pointer none, .nilFunc, .int .i64 0, .pointer none, .nilFunc]
theorem ways_size : (Tryz.prog.info? 91).map (·.size) = some 6 := by kernel_rfl
theorem stWays_run {w : World} {g : Nat} (s : Nat) (h : w.heap[g]? = some (.cells noWays 91 (0, 0))) :
    (stWays (.pointer (some ⟨g, 0, none⟩)) (.agg (waysV s))).run Tryz.prog w = .ok () (w.setCells g 0 (waysV s).toList) :=
  run_storeAt_mid w g 0 91 (waysV s) (fun j hj => ⟨by rw [row_cell h (0 + j), Array.getElem?_eq_getElem (by show 0 + j < 6; have : j < 6 := hj; omega)]; rfl, row_frozen h _⟩) ways_size (by simp [waysV, Value.oneCell'])
theorem ways_row {w : World} {g : Nat} (s : Nat) (h : w.heap[g]? = some (.cells noWays 91 (0, 0))) : (w.setCells g 0 (waysV s).toList).heap[g]? = some (.cells (waysV s) 91 (0, 0)) :=
  row_set (row_set (row_set (row_set (row_set (row_set h 0 (.int .i64 1)) 1 (.pointer (some ⟨s, 1, none⟩))) 2 (.func (.func 53) #[] #[])) 3 (.int .i64 2)) 4 (.pointer (some ⟨s, 3, none⟩))) 5 (.func (.func 54) #[] #[])
attribute [local go_sem ↓] stWays_eq
set_option maxRecDepth 100000 in
theorem ways_any (s : Nat) (w : World) : Calls Tryz.prog 44 #[.pointer (some ⟨s, 0, none⟩)] w fun e w' => e = .returned (.agg (waysV s)) ∧ Below w.heap.size w w' := by
  obtain ⟨W1, hW1⟩ : ∃ W1, w.alloc (.cells noWays 91) = W1 := ⟨_, rfl⟩
  have h1 : W1.drew.heap[w.heap.size]? = some (.cells noWays 91 (0, 0)) := by rw [← hW1]; exact heap_alloc_new w _
  have hb1 : Below w.heap.size w W1.drew := by rw [← hW1]; exact (below_box w _).drew
  have hst := stWays_run s h1
  have hrow := ways_row s h1
  have hb2 : Below w.heap.size w (W1.drew.setCells w.heap.size 0 (waysV s).toList) := hb1.trans ((turned_cells (p := fun j => j = w.heap.size) (fun _ => rfl) _ _ _ (Turned.refl _ _)).below (fun j e => by rw [e]; exact Nat.le_refl _) hb1.size)
  have Hrow := Lib.hid hrow; have Hb2 := Lib.hid hb2
  unfold waysV at hst
  unfold noWays at hW1
  clear h1 hb1 hrow hb2
  go_enter Tryz.func44, Tryz.ntmps44
  go_wp2
  go_region
  go_wp2
  refine bodyPost_ret (results_cell_row rfl _ _ w.heap.size 91 (waysV s) (0, 0) _ rfl Hrow.out Tryz.underlying91 rfl ways_size) rfl ⟨rfl, Hb2.out⟩
end Go.Proofs.YtbfjakchgmdldaaGreat
end
