/-
  Joined: VolSli, QuietB, VolPol, VolFnd, VolSto, VolChk, VolVol, VolEpo, VolRen. Conditions: each theorem's own.
-/
import Derived.Test.YtmdmpliiiecmlaaGreatVolBs
import Derived.Test.YtmdmpliiiecmlaaGreatShelf
import Derived.Lib.OwnBridge
import Derived.Sort.OwnSortedInts
import Derived.Test.YtmdmpliiiecmlaaGreatJA
import Derived.Deep.QuietTactic
import Derived.BigQuiet

section
namespace Go.Proofs.YtmdmpliiiecmlaaGreat
open Go.ChangeShapes Go.WideShapes Go.ChangeAt Go.RowKit Go.Sort
set_option linter.unusedVariables false

theorem seen_ints {w : World} {A : Option Addr} {xs : List Int} (h : Seen w A (numsV xs)) (h0 : 0 < xs.length) :
    ∃ b off, A = some ⟨b, off, none⟩ ∧ ∀ j, j < xs.length → w.cell? ⟨b, off + j, none⟩ = some (.int .i64 (xs.getD j 0)) := by
  rcases h with h | ⟨g, o, hA, hc⟩
  · have : xs = [] := by simpa [numsV] using h
    subst this; simp at h0
  · refine ⟨g, o, hA, fun j hj => hc j _ ?_⟩
    simp only [numsV, List.getElem?_map, List.getElem?_eq_getElem hj, Option.map_some, List.getD_eq_getElem?_getD, Option.getD_some]
theorem VContains (s : Sl) (us : List Int) (x : Int) (w : World) (h : IntsT w s us) (hl : us.length ≤ 1000000) :
    Calls Tryz.prog 93 #[.slice s.A s.n s.c, .int .i64 x] w fun e w' => e = .returned (.bool (decide (x ∈ us))) ∧ w = w' := by
  obtain ⟨A, n, c⟩ := s
  have h1 := h.len; have h3 := h.see.1
  simp only at h1 h3 hl ⊢
  have hc : us.contains x = decide (x ∈ us) := by rw [List.contains_eq_mem]
  rw [← hc]
  by_cases h0 : n = 0
  · subst h0
    obtain rfl := List.length_eq_zero_iff.1 h1
    exact (Any.slices_Contains_int_empty Tryz.intsContains A c x w).mono fun e w' h => ⟨h.1, h.2.symm⟩
  · obtain ⟨b, off, rfl, hcl⟩ := seen_ints h3 (by omega)
    have := Any.slices_Contains_int Tryz.intsContains b off n c us x w (by omega) (by omega) hcl
    rw [List.take_of_length_le (by omega)] at this
    exact this.mono fun e w' h => ⟨h.1, h.2.symm⟩
/-- a slice of ints that the call laid itself, or none -/
def IntsRet (us : List Int) (w : World) (e : Ending) (w' : World) : Prop :=
  ∃ s : Sl, e = .returned (.slice s.A s.n s.c) ∧ w'.ownsRow w.heap.size 3 1 (.slice s.A s.n s.c) s.n (numsV us) ∧ Below w.heap.size w w'
theorem VClone (s : Sl) (us : List Int) (w : World) (h : IntsT w s us) (hl : us.length ≤ 1000000) :
    Calls Tryz.prog 32 #[.slice s.A s.n s.c] w (IntsRet us w) := by
  obtain ⟨A, n, c⟩ := s
  have h1 := h.len; have h3 := h.see.1
  simp only at h1 h3 hl ⊢
  by_cases h0 : n = 0
  · subst h0
    obtain rfl := List.length_eq_zero_iff.1 h1
    cases A with
    | none =>
      refine (Any.slices_Clone_int_nil Tryz.intsClone 0 c w).mono ?_
      rintro e w' ⟨rfl, rfl⟩
      exact ⟨Sl.nil, rfl, World.ownsRow_nil _ _ _ _, Below.refl _ _⟩
    | some a =>
      refine (Any.slices_Clone_int_zero Tryz.intsClone a c w).mono ?_
      rintro e w' ⟨v, rfl, hown, hne, hb⟩
      rcases hown.2 with ⟨hv, _⟩ | ⟨g, cap, cur, hv, _⟩
      · exact absurd hv hne
      · subst hv
        exact ⟨⟨some ⟨g, 0, none⟩, 0, cap⟩, rfl, hown, hb⟩
  · obtain ⟨b, off, rfl, hc⟩ := seen_ints h3 (by omega)
    refine (Any.slices_Clone_int Tryz.intsClone b off n c us w (by omega) (by omega) hc).mono ?_
    rintro e w' ⟨v, rfl, hown, hne, hb⟩
    rw [List.take_of_length_le (by omega)] at hown
    have hown : w'.ownsRow w.heap.size 3 1 v n (numsV us) := hown
    obtain ⟨g, cap, rfl, hg, _⟩ := hown.form (by omega)
    exact ⟨⟨some ⟨g, 0, none⟩, n, cap⟩, rfl, hown, hb⟩
theorem VEqual (s t : Sl) (us vs : List Int) (w : World) (h : IntsT w s us) (k : IntsT w t vs) (hl : us.length ≤ 1000000) :
    Calls Tryz.prog 89 #[.slice s.A s.n s.c, .slice t.A t.n t.c] w fun e w' => e = .returned (.bool (decide (us = vs))) ∧ Below w.heap.size w w' := by
  obtain ⟨A, n, c⟩ := s
  obtain ⟨A2, m, c2⟩ := t
  have h1 := h.len; have h3 := h.see.1
  have k1 := k.len; have k3 := k.see.1
  simp only at h1 h3 k1 k3 hl ⊢
  by_cases hnm : n = m
  · subst hnm
    by_cases h0 : n = 0
    · subst h0
      obtain rfl := List.length_eq_zero_iff.1 h1
      obtain rfl := List.length_eq_zero_iff.1 k1
      refine (Any.slices_Equal_int_empty Tryz.intsEqual A A2 c 0 c2 w (by omega)).mono ?_
      rintro e w' ⟨rfl, rfl⟩
      exact ⟨bool_eq (by simp), Below.refl _ _⟩
    · obtain ⟨b, off, rfl, hc⟩ := seen_ints h3 (by omega)
      obtain ⟨b2, off2, rfl, hc2⟩ := seen_ints k3 (by omega)
      refine (Any.slices_Equal_int Tryz.intsEqual b off n c b2 off2 n c2 us vs w (by omega) (by omega) (by omega) (by omega) hc hc2).mono ?_
      rintro e w' ⟨rfl, q, rfl⟩
      rw [List.take_of_length_le (by omega), List.take_of_length_le (by omega)]
      refine ⟨bool_eq ?_, below_drewN (Below.refl _ _) _⟩
      rw [Bool.eq_iff_iff]; simp
  · refine (Any.slices_Equal_int_lens Tryz.intsEqual A A2 n c m c2 w hnm).mono ?_
    rintro e w' ⟨rfl, rfl⟩
    refine ⟨bool_eq ?_, Below.refl _ _⟩
    rw [eq_comm, decide_eq_false_iff_not]
    rintro rfl
    omega
/-- numbers in their order -/
def sortI (xs : List Int) : List Int := xs.mergeSort fun x y => decide (x ≤ y)
theorem sortI_length (xs : List Int) : (sortI xs).length = xs.length := List.length_mergeSort _
theorem VSort (B : Nat) (A : Option Addr) (n c : Nat) (xs : List Int) (w : World) (hl : n ≤ 1000000) (h : w.ownsRow B 3 1 (.slice A n c) n (numsV xs)) :
    Calls Tryz.prog 60 #[.slice A n c] w fun e w' => e = .returned (.tuple #[]) ∧ w'.ownsRow B 3 1 (.slice A n c) n (numsV (sortI xs)) ∧ Turned (fun k => (Value.slice A n c).ownBlock = some k) w w' := by
  have hlen : xs.length = n := by have := h.1; rw [numsV_length] at this; omega
  subst hlen
  by_cases h0 : xs.length = 0
  · obtain rfl := List.length_eq_zero_iff.1 h0
    refine (Any.slices_Sort_int_none Tryz.intsSort A c w).mono ?_
    rintro e w' ⟨rfl, rfl⟩
    exact ⟨rfl, by simpa [sortI] using h, Turned.refl _ _⟩
  rcases h.2 with ⟨e0, e1⟩ | ⟨g, cap, cur, e0, hb, hg, hn, hm, hs, ht⟩
  · exact absurd e1 h0
  injection e0 with e1 _ e3
  subst e1; subst e3
  rw [Nat.mul_one] at ht
  have hH := holds_of_blockI (ss := xs) hg ht
  refine (Any.slices_Sort_int Tryz.intsSort g 0 c xs w hH (Array.getElem?_eq_some_iff.1 hg).1 (by omega)).mono ?_
  rintro e w' ⟨rfl, n, os, rfl⟩
  refine ⟨rfl, ownsRow_sortedI (ss := xs) (List.length_mergeSort _) hb hg hn hm hs, Turned.of_grown (grownBy_sortedI _) fun k e => ?_⟩
  injection e with e
  subst e
  rfl

theorem turned_putRow {α : Type} [Inhabited α] {enc : α → Value} {w : World} {g q : Nat} {d : Array α} : Turned (fun k => k = g) w (putRow enc (Sort.ahead w q) g 0 d) :=
  ⟨rfl, rfl, rfl, by simp [putRow, mapBlock, Sort.ahead], fun k hk hn => by
    show (w.heap.modify g _)[k]? = _
    rw [Array.getElem?_modify, if_neg (fun e => hn e.symm)]⟩
/-- a row of which what the predicate tells is struck -/
theorem IDeleteFunc (B g n c : Nat) (fn : Nat) (lb : Array Value) (p : Int → Bool) (xs : List Int) (w : World) (hB : B ≤ g) (h : w.ownsRow B 3 1 (.slice (some ⟨g, 0, none⟩) n c) n (numsV xs))
    (eg : ∀ args w, (callFunc fn args).run Tryz.prog w = .ok (.enter fn args) w) (hp : PredAt Tryz.prog fn lb (Value.int .i64) p w) (hpo : PredOver Tryz.prog fn lb (Value.int .i64) p g 0 n w) :
    Calls Tryz.prog 112 #[.slice (some ⟨g, 0, none⟩) n c, .func (.func fn) #[] lb] w fun e w' => e = .returned (.slice (some ⟨g, 0, none⟩) (xs.filter fun x => !p x).length c) ∧ w'.ownsRow B 3 1 (.slice (some ⟨g, 0, none⟩) (xs.filter fun x => !p x).length c) (xs.filter fun x => !p x).length (numsV (xs.filter fun x => !p x)) ∧ Turned (fun k => k = g) w w' := by
  have hlen : xs.length = n := by have := h.1; rw [numsV_length] at this; omega
  obtain ⟨g', cap, e0, hb, hlt, hn, hm, _, hH⟩ := Lib.holds_of_ownsRow (enc := Value.int .i64) (zs := xs) h (by simp)
  injection e0 with e1 _ e3
  injection e1 with e1
  injection e1 with e1
  subst e1; subst e3
  have hsz : xs.toArray.size = n := by simpa using hlen
  have hC := AnyE.slices_DeleteFunc Tryz.deleteFuncA (Value.int .i64) (fun _ => rfl) p fn lb eg 0 Tryz.zeroValue3 g 0 c xs.toArray w hp (by rw [hsz]; exact hpo) hH (by rw [hsz]; unfold maxLen at hm; omega) (by rw [hsz]; omega)
  rw [hsz] at hC
  refine hC.mono ?_
  rintro e w' ⟨rfl, q, rfl⟩
  refine ⟨rfl, ?_, turned_putRow⟩
  have hk := List.length_filter_le (fun x => !p x) xs
  have hy : ((xs.filter fun x => !p x) ++ List.replicate (n - (xs.filter fun x => !p x).length) 0).length = n := by
    simp only [List.length_append, List.length_replicate]; omega
  have := Lib.ownsRow_putRow (enc := Value.int .i64) (zs := xs) (ys := (xs.filter fun x => !p x) ++ List.replicate (n - (xs.filter fun x => !p x).length) 0) (q := q) (k := (xs.filter fun x => !p x).length) h hy (by omega)
  rw [List.take_left] at this
  exact this


/-- the closure of without -/
theorem gives_eq (g : Nat) (id x : Int) (W : World) (hg : W.cell? ⟨g, 0, none⟩ = some (.int .i64 id)) :
    FnGives Tryz.prog 113 #[.pointer (some ⟨g, 0, none⟩)] #[.int .i64 x] (.bool (decide (x = id))) W := by
  show Calls Tryz.prog 113 #[.int .i64 x, .pointer (some ⟨g, 0, none⟩)] W _
  go_enter Tryz.func113, Tryz.ntmps113
  go_wp2
  all_goals (go_ret; exact ⟨by congr 2, 0, rfl⟩)
/-- what without hands back: the same row, but id is struck -/
def WithoutRet (B : Nat) (v : Value) (us : List Int) (w : World) (e : Ending) (w' : World) : Prop :=
  ∃ s : Sl, e = .returned (.slice s.A s.n s.c) ∧ w'.ownsRow B 3 1 (.slice s.A s.n s.c) s.n (numsV us) ∧ (∀ b, (Value.slice s.A s.n s.c).ownBlock = some b → v.ownBlock = some b) ∧ Turned (fun k => v.ownBlock = some k) w w'
set_option maxRecDepth 100000 in
theorem Vwithout (B : Nat) (s : Sl) (us : List Int) (id : Int) (w : World) (h : w.ownsRow B 3 1 (.slice s.A s.n s.c) s.n (numsV us)) (hB : B ≤ w.heap.size) :
    Calls Tryz.prog 90 #[.slice s.A s.n s.c, .int .i64 id] w (WithoutRet B (.slice s.A s.n s.c) (withoutL us id) w) := by
  have hmk : ∀ (fn : Fn) (first cap : Array Value) (w : World), (Instr.makeFunc fn first cap).run Tryz.prog w = .ok (.func fn first cap) w := fun _ _ _ _ => rfl
  obtain ⟨A, n, c⟩ := s
  simp only at h ⊢
  obtain ⟨w1, hw1⟩ : ∃ w1, w.alloc (.cells #[.int .i64 id] 3) = w1 := ⟨_, rfl⟩
  have hb1 : Below w.heap.size w w1 := by rw [← hw1]; exact below_box _ _
  have hg1 : w1.heap[w.heap.size]? = some (.cells #[.int .i64 id] 3 (0, 0)) := by rw [← hw1]; exact heap_alloc_new _ _
  have h1 := own_belowM h hb1
  have Hb1 := Lib.hid hb1
  have eg : ∀ args w, (callFunc 113 args).run Tryz.prog w = .ok (.enter 113 args) w := enters_of Tryz.func113 (by kernel_rfl) rfl
  have eg5 : ∀ args w, (callFunc 131 args).run Tryz.prog w = .ok (.enter 131 args) w := enters_of Tryz.func131 (by kernel_rfl) rfl
  have KD : Calls Tryz.prog 112 #[.slice A n c, .func (.func 113) #[] #[.pointer (some ⟨w.heap.size, 0, none⟩)]] w1 (WithoutRet B (.slice A n c) (withoutL us id) w1) := by
    rcases h1.2 with ⟨hv, hn⟩ | ⟨g, cap, cur, hv, hg, hh, r1, r2, r3, r4⟩
    · injection hv with e1 e2 e3
      subst e1; subst e2; subst e3
      have hus : us = [] := by have := h1.1; rw [numsV_length] at this; exact List.length_eq_zero_iff.1 (by omega)
      subst hus
      have KI := Lib.hid (fun fv => AnyE.slices_IndexFunc_empty Tryz.indexFuncA none 0 fv w1)
      clear h h1 hw1 hb1 hg1
      go_enter Tryz.func112, Tryz.ntmps112
      go_wp2_with (go_at_call 131; refine (KI.out _).mono ?_; rintro e w' ⟨rfl, rfl⟩)
      go_ret
      exact ⟨Sl.nil, rfl, World.ownsRow_nil _ _ _ _, fun b hb => hb, Turned.refl _ _⟩
    · injection hv with e1 _ e3
      subst e1; subst e3
      have hcell : ∀ W, Below w1.heap.size w1 W → W.cell? ⟨w.heap.size, 0, none⟩ = some (.int .i64 id) := fun W hb => by
        rw [hb.cell (Array.getElem?_eq_some_iff.1 hg1).1]
        exact row_cell hg1 0
      have hne : g ≠ w.heap.size := fun e => by
        have := (h.lt g rfl).2
        omega
      have hpa : PredAt Tryz.prog 113 #[.pointer (some ⟨w.heap.size, 0, none⟩)] (Value.int .i64) (fun x => decide (x = id)) w1 := fun W x hb => gives_eq w.heap.size id x W (hcell W hb)
      have hpo : PredOver Tryz.prog 113 #[.pointer (some ⟨w.heap.size, 0, none⟩)] (Value.int .i64) (fun x => decide (x = id)) g 0 n w1 := fun m os dk x _ => gives_eq w.heap.size id x _ (by
        unfold sortWorld
        rw [cell?_grow _ _ _ (by show w.heap.size < (putRow _ _ _ _ _).heap.size; rw [size_putRow]; exact (Array.getElem?_eq_some_iff.1 hg1).1), cell?_putRow_other _ _ g 0 _ _ (Or.inl (by show w.heap.size ≠ g; omega))]
        exact hcell w1 (Below.refl _ _))
      refine (IDeleteFunc B g n c _ _ _ us w1 hg h1 eg hpa hpo).mono ?_
      rintro e w' ⟨rfl, hown, hb⟩
      exact ⟨⟨some ⟨g, 0, none⟩, _, c⟩, rfl, hown, fun b hb => hb, hb.mono fun k _ e => by subst e; rfl⟩
  have KD := Lib.hid KD
  clear h h1 hb1 hg1 eg eg5
  go_enter Tryz.func90, Tryz.ntmps90
  go_wp2_with (go_at_call 112; refine KD.out.mono ?_; rintro e w' ⟨s', rfl, hown, hbk, hb⟩; have Hown := Lib.hid hown; have Hb := Lib.hid hb; have Hbk := Lib.hid hbk; clear hown hb hbk)
  go_ret
  exact ⟨s', rfl, Hown.out, Hbk.out, (Turned.of_below Hb1.out).trans Hb.out (fun _ e => e) (fun _ _ e => e)⟩

/-! ### has -/
set_option maxRecDepth 100000 in
theorem Vhas (k : Ck) (x : Int) (w : World) (h : CkOk w k) (hm : k.ms.length ≤ 1000000) (hj : k.js.length ≤ 1000000) :
    Calls Tryz.prog 64 #[ckA k, .int .i64 x] w fun e w' => e = .returned (.bool (hasK x k.dat)) ∧ Below w.heap.size w w' := by
  unfold ckA
  obtain ⟨w1, hw1, hb1, hr⟩ := ck_box w k
  have C1 := Lib.hid (VContains k.m k.ms x w1 (h.m.below hb1) hm)
  have C2 := Lib.hid (VContains k.j k.js x w1 (h.j.below hb1) hj)
  have c3 : w1.cell? ⟨w.heap.size, 3, none⟩ = some (.slice k.m.A k.m.n k.m.c) := row_cell hr 3
  have c4 : w1.cell? ⟨w.heap.size, 4, none⟩ = some (.slice k.j.A k.j.n k.j.c) := row_cell hr 4
  have Hb := Lib.hid hb1
  have e0 : hasK x k.dat = (decide (x ∈ k.ms) || decide (x ∈ k.js)) := rfl
  rw [e0]
  obtain ⟨b1, e1⟩ : ∃ b, decide (x ∈ k.ms) = b := ⟨_, rfl⟩
  obtain ⟨b2, e2⟩ : ∃ b, decide (x ∈ k.js) = b := ⟨_, rfl⟩
  rw [e1, e2]
  rw [e1] at C1
  rw [e2] at C2
  clear e0 e1 e2 h hb1 hr
  cases b1 with
  | true =>
    go_enter Tryz.func64, Tryz.ntmps64
    go_wp2_with (go_at_call 93; refine C1.out.mono ?_; rintro e w' ⟨rfl, rfl⟩)
    go_ret
    exact ⟨rfl, Hb.out⟩
  | false =>
    go_enter Tryz.func64, Tryz.ntmps64
    go_wp2_with fail
    refine C1.out.mono ?_
    rintro e w' ⟨rfl, rfl⟩
    go_wp2_with fail
    refine C2.out.mono ?_
    rintro e w' ⟨rfl, rfl⟩
    go_wp2
    go_ret
    exact ⟨rfl, Hb.out⟩
end Go.Proofs.YtmdmpliiiecmlaaGreat
end

section
namespace Go.Proofs.YtmdmpliiiecmlaaGreat
open Go.ChangeShapes Go.WideShapes Go.ChangeAt Go.RowKit
set_option linter.unusedVariables false

/-- a world that turned nothing of w -/
structure BelowOf (w : World) where
  v : World
  h : Below w.heap.size w v
instance (w : World) : Inhabited (BelowOf w) := ⟨⟨w, Below.refl _ _⟩⟩
theorem wp_region_quiet_below {P : Program} {id : Nat} {Q : Exit → Act → World → Prop} {a : Act} {w : World} {l : List Oper} (hm : P.follows .mixedOrders = true) (hB : Region.lexB .any l.toArray = true)
    (h : wpQuiet P l.toArray (fun w' => ∃ p : BelowOf w, w' = p.v) (fun a' => ∀ w', (∃ p : BelowOf w, w' = p.v) → Q .normal a' w') l a) : (Code.region id l.toArray true).wp P Q a w :=
  wp_region_quiet (C := fun w' => ∃ p : BelowOf w, w' = p.v) hm hB ⟨⟨w.drewN 1, below_drewN (Below.refl _ _) 1⟩, rfl⟩ (by simpa using h)
/-- a callee's contract, met in a world of the class -/
theorem Calls.below_of {P : Program} {f : FuncId} {args : Array Value} {w : World} {p : BelowOf w} {v : Value}
    (h : Calls P f args p.v fun e w' => e = .returned v ∧ Below p.v.heap.size p.v w') : Calls P f args p.v fun e w' => e = .returned v ∧ ∃ q : BelowOf w, w' = q.v :=
  h.mono fun _ w' ⟨he, hb⟩ => ⟨he, ⟨w', p.h.trans (hb.mono p.h.size)⟩, rfl⟩
end Go.Proofs.YtmdmpliiiecmlaaGreat
end

section
namespace Go.Proofs.YtmdmpliiiecmlaaGreat
open Go.ChangeShapes Go.WideShapes Go.ChangeAt Go.RowKit
set_option linter.unusedVariables false

def polV (p : Pol) : List Value := [.int .i64 p.re, .int .i64 p.we, .int .i64 p.li, .int .i64 p.bu]
def polsV (l : List Pol) : List Value := l.flatMap polV
theorem polsV_append (a b : List Pol) : polsV (a ++ b) = polsV a ++ polsV b := by simp [polsV]
theorem polsV_get : ∀ {l : List Pol} {i : Nat} {p : Pol}, l[i]? = some p → (polsV l)[i * 4]? = some (.int .i64 p.re) ∧ (polsV l)[i * 4 + 1]? = some (.int .i64 p.we) ∧ (polsV l)[i * 4 + 2]? = some (.int .i64 p.li) ∧ (polsV l)[i * 4 + 3]? = some (.int .i64 p.bu)
  | [], _, _, h => by simp at h
  | q :: r, 0, p, h => by
    simp at h
    subst h
    exact ⟨rfl, rfl, rfl, rfl⟩
  | q :: r, i + 1, p, h => by
    have := polsV_get (l := r) (i := i) (p := p) (by simpa using h)
    have e1 : (i + 1) * 4 = (i * 4) + 1 + 1 + 1 + 1 := by omega
    rw [e1]
    exact this
theorem pols_own {w : World} {B n c : Nat} {A : Option Addr} {l : List Pol} (h : w.ownsRow B 36 4 (.slice A n c) n (polsV l)) (hl : ∀ p ∈ l, InP p) : PolsAt w A l := by
  rcases own_seenM h with h0 | ⟨g, o, hA, hc⟩
  · refine .inl ?_
    cases l with
    | nil => rfl
    | cons p r => simp [polsV, polV] at h0
  · refine .inr ⟨g, o, hA, fun i p hp => ?_⟩
    obtain ⟨e0, e1, e2, e3⟩ := polsV_get hp
    exact ⟨by rw [hc _ _ e0], by rw [Nat.add_assoc, hc _ _ e1], by rw [Nat.add_assoc, hc _ _ e2], by rw [Nat.add_assoc, hc _ _ e3], hl p (List.mem_of_getElem? hp)⟩
theorem pol_infoZ : (Tryz.prog.info? 36).map (fun i => (i.zero, i.size, i.bytes)) = some (some (.agg #[.int .i64 0, .int .i64 0, .int .i64 0, .int .i64 0]), 4, 32) := by kernel_rfl
attribute [local go_sem ↓] ldCk_eq
set_option maxRecDepth 100000 in
theorem VpolPred (k : Ck) (g : Nat) (x : Int) (w : World) (hg : w.cell? ⟨g, 0, none⟩ = some (.int .i64 x)) (h : CkOk w k) (hm : k.ms.length ≤ 1000000) (hj : k.js.length ≤ 1000000) :
    Calls Tryz.prog 63 #[ckA k, .pointer (some ⟨g, 0, none⟩)] w fun e w' => e = .returned (.bool (hasK x k.dat)) ∧ Below w.heap.size w w' := by
  unfold ckA
  obtain ⟨w1, hw1, hb1, hr⟩ := ck_box w k
  have C := Lib.hid (Vhas k x w1 (h.below hb1) hm hj)
  have hld := ldCk_run (CkAt.of_row hr)
  have hx : w1.cell? ⟨g, 0, none⟩ = some (.int .i64 x) := by rw [hb1.cell (block_lt_of_cell hg)]; exact hg
  unfold ckA at C
  have Hb := Lib.hid hb1
  clear h hb1 hr hg
  go_enter Tryz.func63, Tryz.ntmps63
  go_wp2_with (go_at_call 64; refine C.out.mono ?_; rintro e w' ⟨rfl, hb3⟩; have Hb3 := Lib.hid (Hb.out.trans (hb3.mono Hb.out.size)); clear hb3)
  go_ret
  exact ⟨rfl, Hb3.out⟩
/-- policies of the volumes below n of which a server has a chunk -/
def polsN (s : St) (sv : Int) (n : Nat) : List Pol := ((List.range n).filter fun i => (s.vs i).ks.any (hasK sv)).map fun i => (s.vs i).p
theorem polsN_yes {s : St} {sv : Int} {n : Nat} (h : (s.vs n).ks.any (hasK sv) = true) : polsN s sv (n + 1) = polsN s sv n ++ [(s.vs n).p] := by simp [polsN, List.range_succ, h]
theorem polsN_no {s : St} {sv : Int} {n : Nat} (h : (s.vs n).ks.any (hasK sv) = false) : polsN s sv (n + 1) = polsN s sv n := by simp [polsN, List.range_succ, h]
theorem polsN_len (s : St) (sv : Int) (n : Nat) : (polsN s sv n).length ≤ n := by
  have := List.length_filter_le (fun i => (s.vs i).ks.any (hasK sv)) (List.range n)
  simpa [polsN] using this
theorem polsN_in {s : St} (h : StFit s) (sv : Int) {n : Nat} (hn : n ≤ 64) : ∀ p ∈ polsN s sv n, InP p := fun p hp => by
  obtain ⟨i, hi, rfl⟩ := List.mem_map.1 hp
  have := List.mem_range.1 (List.mem_filter.1 hi).1
  exact (h.vs i (by omega)).p
attribute [local go_sem ↓] ldPol_eq
set_option maxRecDepth 100000 in
set_option maxHeartbeats 1000000 in
theorem Policies_any (g : Nat) (s : St) (sv : Int) (w : World) (h : StAt w g s) (hf : StFit s) :
    Calls Tryz.prog 27 #[.pointer (some ⟨g, 0, none⟩), .int .i64 sv] w (OwnRetM 36 4 (polsS s sv).length (polsV (polsS s sv)) w) := by
  have hmk : ∀ (fn : Fn) (first cap : Array Value) (w : World), (Instr.makeFunc fn first cap).run Tryz.prog w = .ok (.func fn first cap) w := fun _ _ _ _ => rfl
  obtain ⟨w1, hw1⟩ : ∃ w1, w.alloc (.cells #[.int .i64 sv] 3) = w1 := ⟨_, rfl⟩
  have hb1 : Below w.heap.size w w1 := by rw [← hw1]; exact below_box _ _
  have hg1 : w1.heap[w.heap.size]? = some (.cells #[.int .i64 sv] 3 (0, 0)) := by rw [← hw1]; exact heap_alloc_new _ _
  obtain ⟨cs, K, X, h⟩ := h
  have H := Lib.hid (h.below hb1); have Hb1 := Lib.hid hb1; have Hf := Lib.hid hf; have Hg1 := Lib.hid hg1
  have eg : ∀ args w, (callFunc 63 args).run Tryz.prog w = .ok (.enter 63 args) w := enters_of Tryz.func63 (by kernel_rfl) rfl
  have Eg := Lib.hid eg
  clear h hb1 hg1 hf eg
  go_enter Tryz.func27, Tryz.ntmps27
  go_wp2
  go_loopw [5, 8] (fun lv iv wr => ∃ (i : Nat) (A' : Option Addr) (c' : Nat), i ≤ 64 ∧ iv = .int .i64 (i : Int) ∧ lv = .slice A' (polsN s sv i).length c' ∧ wr.ownsRow w1.heap.size 36 4 (.slice A' (polsN s sv i).length c') (polsN s sv i).length (polsV (polsN s sv i)) ∧ Below w1.heap.size w1 wr) (fun _ iv _ => 64 - (intOf iv).toNat)
  case atStart => exact ⟨0, _, _, by omega, rfl, rfl, World.ownsRow_nil _ _ _ _, Below.refl _ _⟩
  case round =>
    obtain ⟨i, A', c', hin, rfl, rfl, ho, hb⟩ := hrel
    obtain ⟨n, hn⟩ : ∃ n, (polsN s sv i).length = n := ⟨_, rfl⟩
    have hn6 : n ≤ 64 := by have := polsN_len s sv i; omega
    rw [hn] at ho ⊢
    by_cases hi : i < 64
    · have h := H.out.below hb
      have i0 : (0 : Int) ≤ (i : Int) := by omega
      have i1 : (i : Int) < 64 := by omega
      have c6 : wr.cell? ⟨g, 16 + i * 7 + 6, none⟩ = some (.slice (K i).A (K i).n (K i).c) := by rw [h.cell]; exact h.c6 i hi
      have hfv := Hf.out.vs i hi
      have hkl := hfv.kl
      rw [← h.dat i hi, List.length_map] at hkl
      have hp : PredK 63 #[.pointer (some ⟨w.heap.size, 0, none⟩)] (hasK sv) (X i) wr := fun W k hbW hk => by
        have hc := hfv.ks k.dat (by rw [← h.dat i hi]; exact List.mem_map.2 ⟨k, hk, rfl⟩)
        have hc1 := hc.ml
        have hc2 := hc.jl
        refine VpolPred k w.heap.size sv W ?_ ((h.ks i hi).ok k hk |>.below hbW) (by have : k.ms.length ≤ 16 := hc1; omega) (by have : k.js.length ≤ 16 := hc2; omega)
        have hlt := (Array.getElem?_eq_some_iff.1 Hg1.out).1
        rw [hbW.cell (p := ⟨w.heap.size, 0, none⟩) (by have := hb.size; show w.heap.size < _; omega), hb.cell hlt]
        exact row_cell Hg1.out 0
      have KC := Lib.hid (VContainsFunc (K i) (X i) 63 (.pointer (some ⟨w.heap.size, 0, none⟩)) (hasK sv) wr (h.ks i hi) hkl hp Eg.out)
      rw [h.dat i hi] at KC
      obtain ⟨b, hb0⟩ : ∃ b, (s.vs i).ks.any (hasK sv) = b := ⟨_, rfl⟩
      rw [hb0] at KC
      have Hb := Lib.hid hb; have Ho := Lib.hid ho; have Hn := Lib.hid hn
      obtain ⟨p, hpe⟩ : ∃ p, (s.vs i).p = p := ⟨_, rfl⟩
      have hat : PolAt wr g (16 + i * 7 + 1) p := by
        rw [← hpe]
        exact ⟨by rw [h.cell]; exact h.c1 i hi, by rw [h.cell]; exact h.c2 i hi, by rw [h.cell]; exact h.c3 i hi, by rw [h.cell]; exact h.c4 i hi, hfv.p⟩
      have Hat := Lib.hid hat
      clear hb ho hn hp hfv hkl h hat
      cases b with
      | true =>
        have Hs := Lib.hid (polsN_yes hb0)
        rw [hpe] at Hs
        clear hb0 hpe
        go_wp2_with (first
          | (go_at_call 62; refine KC.out.mono ?_; rintro e w2 ⟨rfl, hb2⟩; have Hb2 := Lib.hid hb2; have hld := ldPol_run (Hat.out.below hb2); obtain ⟨W3, hW3⟩ : ∃ W3, w2.alloc (.cells #[.int .i64 p.re, .int .i64 p.we, .int .i64 p.li, .int .i64 p.bu] 36) = W3 := ⟨_, rfl⟩; have Hb3 := Lib.hid (show Below w2.heap.size w2 W3 from (by rw [← hW3]; exact below_box _ _)); have Hs3 := Lib.hid (show Seen W3 (some ⟨w2.heap.size, 0, none⟩) (polV p) from (by rw [← hW3]; exact Seen.of_cells (heap_alloc_new w2 _))); have Ho3 := Lib.hid (own_belowM (own_belowM Ho.out hb2) Hb3.out); have Hb13 := Lib.hid ((Hb.out.trans (hb2.mono Hb.out.size)).trans (Hb3.out.mono (Nat.le_trans Hb.out.size hb2.size))); clear hb2)
          | (at_builtin; refine wpList_app3 rfl (.tmp 22) (.tmp 27) _ rfl 36 _ 4 32 Tryz.underlying75 pol_infoZ rfl (by omega) w1.heap.size A' n c' (polsV (polsN s sv i)) rfl Ho3.out w2.heap.size 0 1 1 (polV p) rfl rfl Hs3.out (fun u hu => by simp [polV] at hu; rcases hu with rfl | rfl | rfl | rfl <;> rfl) (by unfold maxLen; omega) (by omega) Hb13.out.size ?_; intro A4 c4 w4 hown4 hg4 hbk4; have Hown4 := Lib.hid hown4; have Hg4 := Lib.hid hg4; clear hown4 hg4 hbk4))
        go_roundw
        case rel =>
          have tg : Turned (fun k => (Value.slice A' n c').ownBlock = some k) W3 w4 := Turned.of_grown Hg4.out fun k e => e
          have el : (polsN s sv (i + 1)).length = n + 1 := by rw [Hs.out, List.length_append, Hn.out]; rfl
          refine ⟨i + 1, A4, c4, by omega, by go_num, by rw [el], ?_, ?_⟩
          · have := Hown4.out
            rw [el, Hs.out, polsV_append, show polsV [p] = polV p by simp [polsV]]
            exact this
          · exact Hb13.out.trans (tg.below (fun k e => (Ho3.out.lt k e).1) Hb13.out.size)
        case measure => simp [intOf]; omega
      | false =>
        have Hs := Lib.hid (polsN_no hb0)
        clear hb0 hpe
        go_wp2_with (go_at_call 62; refine KC.out.mono ?_; rintro e w2 ⟨rfl, hb2⟩; have Hb2 := Lib.hid hb2; clear hb2)
        go_roundw
        case rel => exact ⟨i + 1, A', c', by omega, by go_num, by rw [Hs.out, Hn.out], by rw [Hs.out, Hn.out]; exact own_belowM Ho.out Hb2.out, Hb.out.trans (Hb2.out.mono Hb.out.size)⟩
        case measure => simp [intOf]; omega
    · obtain rfl : i = 64 := by omega
      have i1 : ¬ ((64 : Nat) : Int) < 64 := by omega
      have Ho := Lib.hid ho; have Hb := Lib.hid hb; have Hn := Lib.hid hn
      clear ho hb hn
      go_wp2
      go_ret
      refine ⟨A', c', ?_, ?_, Hb1.out.trans (Hb.out.mono Hb1.out.size)⟩
      · show _ = Ending.returned (.slice A' (polsN s sv 64).length c')
        rw [Hn.out]; rfl
      · show World.ownsRow _ _ _ _ (.slice A' (polsN s sv 64).length c') (polsN s sv 64).length _
        rw [Hn.out]
        exact own_baseM Ho.out Hb1.out.size
end Go.Proofs.YtmdmpliiiecmlaaGreat
end

section
namespace Go.Proofs.YtmdmpliiiecmlaaGreat
open Go.ChangeShapes Go.WideShapes Go.ChangeAt Go.RowKit
set_option linter.unusedVariables false

/-- chunks rise in each volume, and no number is there twice -/
structure OrdS (s : St) : Prop where
  rise : ∀ i, i < 64 → RiseK (s.vs i).ks
  one : ∀ i i', i < 64 → i' < 64 → ∀ k ∈ (s.vs i).ks, ∀ k' ∈ (s.vs i').ks, k.id = k'.id → i = i'
theorem RiseK.one {X : List Chk} (h : RiseK X) {i j : Nat} {k k' : Chk} (hi : X[i]? = some k) (hj : X[j]? = some k') (e : k.id = k'.id) : i = j := by
  obtain ⟨h1, rfl⟩ := List.getElem?_eq_some_iff.1 hi
  obtain ⟨h2, rfl⟩ := List.getElem?_eq_some_iff.1 hj
  have hp := List.pairwise_iff_getElem.1 h
  rcases (by omega : i < j ∨ i = j ∨ j < i) with h3 | h3 | h3
  · have := hp i j h1 h2 h3; omega
  · exact h3
  · have := hp j i h2 h1 h3; omega
theorem OrdS.uniq {s : St} (h : OrdS s) {id : Int} {i j i' j' : Nat} {k k' : Chk} (a : FoundAt s id i j k) (b : FoundAt s id i' j' k') : i = i' ∧ j = j' ∧ k = k' := by
  obtain ⟨a1, a2, a3⟩ := a
  obtain ⟨b1, b2, b3⟩ := b
  obtain rfl := h.one i i' a1 b1 k (List.mem_of_getElem? a2) k' (List.mem_of_getElem? b2) (a3.trans b3.symm)
  obtain rfl := (h.rise i a1).one a2 b2 (a3.trans b3.symm)
  rw [a2] at b2
  injection b2 with b2
  exact ⟨rfl, rfl, b2⟩
theorem OrdS.find {s : St} (h : OrdS s) {id : Int} {i j : Nat} {k : Chk} (a : FoundAt s id i j k) : findS s id = some (i, j, k) := by
  cases hf : findS s id with
  | none => exact absurd a.2.2 (findS_none hf i a.1 k (List.mem_of_getElem? a.2.1))
  | some x =>
    obtain ⟨i', j', k'⟩ := x
    obtain ⟨rfl, rfl, rfl⟩ := h.uniq a (findS_some hf)
    rfl
theorem noChunk_find {s : St} {id : Int} (h : NoChunk s id) : findS s id = none := by
  cases hf : findS s id with
  | none => rfl
  | some x =>
    obtain ⟨i', j', k'⟩ := x
    have := findS_some hf
    exact absurd this.2.2 (h i' this.1 k' (List.mem_of_getElem? this.2.1))
/-- find's answer, told -/
def findV (g : Nat) : Option (Nat × Nat × Chk) → Value
  | some (i, j, _) => .tuple #[.pointer (some ⟨g, 16 + i * 7, none⟩), .int .i64 (j : Int), .bool true]
  | none => .tuple #[.pointer none, .int .i64 0, .bool false]
set_option maxRecDepth 100000 in
set_option maxHeartbeats 1000000 in
theorem Vfind (g : Nat) (s : St) (id : Int) (w : World) (h : StAt w g s) (hf : StFit s) (ho : OrdS s) :
    Calls Tryz.prog 31 #[.pointer (some ⟨g, 0, none⟩), .int .i64 id] w fun e w' => e = .returned (findV g (findS s id)) ∧ Below w.heap.size w w' := by
  obtain ⟨cs, K, X, h⟩ := h
  have H := Lib.hid h; have Hf := Lib.hid hf; have Ho := Lib.hid ho
  clear h hf ho
  go_enter Tryz.func31, Tryz.ntmps31
  go_wp2
  go_loopw [4, 5, 6, 7, 8] (fun _ _ _ _ iv wr => ∃ i : Nat, i ≤ 64 ∧ iv = .int .i64 (i : Int) ∧ (∀ q, q < i → ∀ k ∈ (s.vs q).ks, k.id ≠ id) ∧ Below w.heap.size w wr) (fun _ _ _ _ iv _ => 64 - (intOf iv).toNat)
  case atStart => exact ⟨0, by omega, rfl, fun q h => by omega, Below.refl _ _⟩
  case round =>
    obtain ⟨i, hin, rfl, hno, hb⟩ := hrel
    by_cases hi : i < 64
    · have h := H.out.below hb
      have i0 : (0 : Int) ≤ (i : Int) := by omega
      have i1 : (i : Int) < 64 := by omega
      have c6 : wr.cell? ⟨g, 16 + i * 7 + 6, none⟩ = some (.slice (K i).A (K i).n (K i).c) := by rw [h.cell]; exact h.c6 i hi
      have hkl := (Hf.out.vs i hi).kl
      rw [← h.dat i hi, List.length_map] at hkl
      have hri := Ho.out.rise i hi
      rw [← h.dat i hi] at hri
      have KB := Lib.hid (VBs (K i) (X i) id wr (h.ks i hi) hkl hri)
      rw [h.dat i hi] at KB
      have Hb := Lib.hid hb; have Hno := Lib.hid hno
      clear hb hno hkl hri h
      go_wp2_with fail
      refine KB.out.mono ?_
      rintro e w2 ⟨q, b, rfl, hq, hy, hn, hb2⟩
      have Hb2 := Lib.hid (Hb.out.trans (hb2.mono Hb.out.size)); have Hy := Lib.hid hy; have Hn := Lib.hid hn
      clear hb2 hy hn
      cases b with
      | true =>
        go_wp2
        go_ret3
        obtain ⟨k, hk, he⟩ := Hy.out (by first | trivial | rfl)
        have := Ho.out.find (i := i) (j := q) (k := k) ⟨hi, hk, he⟩
        rw [this]
        exact ⟨rfl, Hb2.out⟩
      | false =>
        go_wp2
        go_roundw
        case rel =>
          refine ⟨i + 1, by omega, by go_num, fun q' hq' => ?_, Hb2.out⟩
          rcases (by omega : q' < i ∨ q' = i) with h3 | rfl
          · exact Hno.out q' h3
          · exact Hn.out (by first | trivial | rfl)
        case measure => simp [intOf]; omega
    · obtain rfl : i = 64 := by omega
      have i1 : ¬ ((64 : Nat) : Int) < 64 := by omega
      have Hb := Lib.hid hb; have Hno := Lib.hid hno
      clear hb hno
      go_wp2
      go_ret3
      rw [noChunk_find Hno.out]
      exact ⟨rfl, Hb.out⟩
end Go.Proofs.YtmdmpliiiecmlaaGreat
end

section
namespace Go.Proofs.YtmdmpliiiecmlaaGreat
open Go.ChangeShapes Go.WideShapes Go.ChangeAt Go.RowKit
set_option linter.unusedVariables false

theorem turned_cellsI {p : Nat → Prop} {a : World} {b : Nat} (hb : b < a.heap.size → p b) : ∀ (vs : List Value) (o : Nat) (w : World), Turned p a w → Turned p a (w.setCells b o vs)
  | [], o, w, h => h
  | v :: r, o, w, h => turned_cellsI hb r (o + 1) (w.setCell ⟨b, o, none⟩ v) (h.setCell (b := ⟨b, o, none⟩) hb v)
theorem set_row {b : Nat} {e : TypeId} {Z : List Value} : ∀ (vs X Y : List Value) (w : World) (o : Nat), w.heap[b]? = some (.cells (X ++ Y ++ Z).toArray e (0, 0)) → vs.length = Y.length → X.length = o → (w.setCells b o vs).heap[b]? = some (.cells (X ++ vs ++ Z).toArray e (0, 0))
  | [], X, [], w, o, h, _, _ => h
  | [], X, y :: Y, w, o, h, hl, _ => by simp at hl
  | v :: r, X, [], w, o, h, hl, _ => by simp at hl
  | v :: r, X, y :: Y, w, o, h, hl, ho => by
    have h1 := row_set h o v
    have e1 : (X ++ y :: Y ++ Z).toArray.setIfInBounds o v = ((X ++ [v]) ++ Y ++ Z).toArray := by
      subst ho
      apply Array.ext'
      simp
    rw [e1] at h1
    have := set_row r (X ++ [v]) Y (w.setCell ⟨b, o, none⟩ v) (o + 1) h1 (by simpa using hl) (by simp [ho])
    have e2 : X ++ v :: r ++ Z = X ++ [v] ++ r ++ Z := by simp
    rw [e2]
    exact this

theorem results_cell_2 {P : Program} {fn : Func} {p u : Tmp} {ty : TypeId} (h : fn.results = #[.cell p ty, .tmp u]) (tmps : Array Value) (w : World) (g : Nat) (t : TypeId) (cs : Array Value) (fr : Nat × Nat) (d : TypeDesc) (b : Value)
    (hp : tmps.getD p undef = .pointer (some ⟨g, 0, none⟩)) (hb : tmps.getD u undef = b) (hg : w.heap[g]? = some (.cells cs t fr))
    (hu : P.underlying ty = some d) (hd : (match d with | .struct _ | .array _ _ => true | _ => false) = true) (hi : (P.info? ty).map (·.size) = some cs.size) :
    (results fn tmps).run P w = .ok (.tuple #[.agg cs, b]) w := by
  rw [results_cell_tmp h, hp, hb]
  simp [asAddr, run_loadVar_row w g t ty cs fr d hg hu hd hi, Result.andThen]

/-- a struct stored whole into a row of its own -/
theorem st_row {w : World} {g : Nat} {cs new : Array Value} {T T' : TypeId} (h : w.heap[g]? = some (.cells cs T' (0, 0))) (hs : cs.size = new.size) (hi : (Tryz.prog.info? T).map (·.size) = some new.size) (h1 : new.all (·.oneCell') = true) :
    ∃ w', (Instr.storeAt T (.pointer (some ⟨g, 0, none⟩)) (.agg new)).run Tryz.prog w = .ok () w' ∧ w'.heap[g]? = some (.cells new T' (0, 0)) ∧ Turned (fun k => k = g) w w' := by
  have hth : w.there g 0 new.size := fun i hi => ⟨by rw [row_cell h, Array.getElem?_eq_getElem (by omega)]; rfl, row_frozen h _⟩
  refine ⟨_, run_storeAt_mid w g 0 T new hth hi h1, ?_, turned_cellsI (p := fun k => k = g) (fun _ => rfl) _ _ _ (Turned.refl _ _)⟩
  have := set_row (b := g) (e := T') (Z := []) new.toList [] cs.toList w 0 (by simpa using h) (by simp [hs]) rfl
  simpa using this


/-- a chunk stored whole, under a name -/
def stCk (p v : Value) : Sem Unit := Instr.storeAt 47 p v
theorem stCk_eq (p v : Value) : Instr.storeAt 47 p v = stCk p v := rfl
theorem stCk_run {w : World} {g : Nat} {cs : Array Value} {T : TypeId} (h : w.heap[g]? = some (.cells cs T (0, 0))) (hs : cs.size = 5) (k : Ck) :
    ∃ w', (stCk (.pointer (some ⟨g, 0, none⟩)) (.agg #[.int .i64 k.id, .int .i64 k.vo, .int .i64 k.ep, .slice k.m.A k.m.n k.m.c, .slice k.j.A k.j.n k.j.c])).run Tryz.prog w = .ok () w' ∧
      w'.heap[g]? = some (.cells #[.int .i64 k.id, .int .i64 k.vo, .int .i64 k.ep, .slice k.m.A k.m.n k.m.c, .slice k.j.A k.j.n k.j.c] T (0, 0)) ∧ Turned (fun k => k = g) w w' :=
  st_row (T := 47) h (by rw [hs]; rfl) ck_size (by simp [Value.oneCell'])
def ck0 : Ck := ⟨0, 0, 0, Sl.nil, Sl.nil, [], []⟩
theorem row_below {w w' : World} {g : Nat} {o : Obj} (h : w.heap[g]? = some o) (hb : Below w.heap.size w w') : w'.heap[g]? = some o := by
  rw [hb.block g (Array.getElem?_eq_some_iff.1 h).1]; exact h
/-- both lists of a chunk in a box stored anew -/
theorem ck_set2 {w : World} {g : Nat} {k : Ck} {T : TypeId} (h : w.heap[g]? = some (.cells #[.int .i64 k.id, .int .i64 k.vo, .int .i64 k.ep, .slice k.m.A k.m.n k.m.c, .slice k.j.A k.j.n k.j.c] T (0, 0))) (s1 s2 : Sl) :
    ((w.setCell ⟨g, 3, none⟩ (.slice s1.A s1.n s1.c)).setCell ⟨g, 4, none⟩ (.slice s2.A s2.n s2.c)).heap[g]? = some (.cells #[.int .i64 k.id, .int .i64 k.vo, .int .i64 k.ep, .slice s1.A s1.n s1.c, .slice s2.A s2.n s2.c] T (0, 0)) ∧
      Turned (fun k => k = g) w ((w.setCell ⟨g, 3, none⟩ (.slice s1.A s1.n s1.c)).setCell ⟨g, 4, none⟩ (.slice s2.A s2.n s2.c)) :=
  ⟨by rw [row_set (row_set h 3 _) 4 _]; rfl, ((Turned.refl (fun k => k = g) w).setCell (b := ⟨g, 3, none⟩) (fun _ => rfl) _).setCell (b := ⟨g, 4, none⟩) (fun _ => rfl) _⟩
/-- a new box into which a chunk is stored -/
theorem ck_new (w : World) (k : Ck) : ∃ wz w3, w.alloc (.cells #[.int .i64 0, .int .i64 0, .int .i64 0, .slice none 0 0, .slice none 0 0] 47) = wz ∧
    (stCk (.pointer (some ⟨w.heap.size, 0, none⟩)) (.agg #[.int .i64 k.id, .int .i64 k.vo, .int .i64 k.ep, .slice k.m.A k.m.n k.m.c, .slice k.j.A k.j.n k.j.c])).run Tryz.prog wz = .ok () w3 ∧ Below w.heap.size w w3 ∧
    w3.heap[w.heap.size]? = some (.cells #[.int .i64 k.id, .int .i64 k.vo, .int .i64 k.ep, .slice k.m.A k.m.n k.m.c, .slice k.j.A k.j.n k.j.c] 47 (0, 0)) := by
  obtain ⟨wz, hw, hb, hr⟩ := ck_box w ck0
  obtain ⟨w3, h1, h2, h3⟩ := stCk_run hr rfl k
  exact ⟨wz, w3, hw, h1, hb.trans (h3.below (fun k e => by omega) hb.size), h2⟩
end Go.Proofs.YtmdmpliiiecmlaaGreat
end

section
namespace Go.Proofs.YtmdmpliiiecmlaaGreat
open Go.ChangeShapes Go.WideShapes Go.ChangeAt Go.RowKit
set_option linter.unusedVariables false

/-- a chunk whose lists lie in rows of one's own, from B on, that aren't one -/
structure CkOwn (w : World) (B : Nat) (k : Ck) : Prop where
  m : w.ownsRow B 3 1 (.slice k.m.A k.m.n k.m.c) k.m.n (numsV k.ms)
  j : w.ownsRow B 3 1 (.slice k.j.A k.j.n k.j.c) k.j.n (numsV k.js)
  ne : ∀ b, (Value.slice k.m.A k.m.n k.m.c).ownBlock = some b → (Value.slice k.j.A k.j.n k.j.c).ownBlock ≠ some b
theorem CkOwn.below {w w' : World} {B : Nat} {k : Ck} (h : CkOwn w B k) (hb : Below w.heap.size w w') : CkOwn w' B k := ⟨own_below h.m hb, own_below h.j hb, h.ne⟩
theorem CkOwn.base {w : World} {B B' : Nat} {k : Ck} (h : CkOwn w B k) (hb : B' ≤ B) : CkOwn w B' k := ⟨own_baseM h.m hb, own_baseM h.j hb, h.ne⟩
theorem CkOwn.ok {w : World} {B : Nat} {k : Ck} (h : CkOwn w B k) : CkOk w k := by
  obtain ⟨id, vo, ep, ⟨A, n, c⟩, ⟨A2, n2, c2⟩, ms, js⟩ := k
  exact ⟨IntsT.own h.m, IntsT.own h.j⟩
theorem CkOwn.turned {p : Nat → Prop} {w w' : World} {B : Nat} {k : Ck} (h : CkOwn w B k) (ht : Turned p w w') (hp : ∀ b, p b → ∀ cs fr, w.heap[b]? ≠ some (.cells cs 3 fr)) : CkOwn w' B k := by
  refine ⟨ht.own h.m fun b hb e => ?_, ht.own h.j fun b hb e => ?_, h.ne⟩
  · obtain ⟨cs, e'⟩ := row_blockM h.m hb
    exact hp b e cs _ e'
  · obtain ⟨cs, e'⟩ := row_blockM h.j hb
    exact hp b e cs _ e'
/-- what Chunk hands back -/
def ChunkRet (o : Option (Nat × Nat × Chk)) (w : World) (e : Ending) (w' : World) : Prop :=
  match o with
  | none => e = .returned (.tuple #[.agg #[.int .i64 0, .int .i64 0, .int .i64 0, .slice none 0 0, .slice none 0 0], .bool false]) ∧ Below w.heap.size w w'
  | some (_, _, k) => ∃ r : Ck, r.dat = k ∧ e = .returned (.tuple #[ckA r, .bool true]) ∧ CkOwn w' w.heap.size r ∧ Below w.heap.size w w'
attribute [local go_sem ↓] ldCk_eq
attribute [local go_sem ↓] stCk_eq
set_option maxRecDepth 100000 in
set_option maxHeartbeats 2000000 in
theorem VChunk (g : Nat) (s : St) (id : Int) (w : World) (h : StAt w g s) (hf : StFit s) (ho : OrdS s) :
    Calls Tryz.prog 13 #[.pointer (some ⟨g, 0, none⟩), .int .i64 id] w (ChunkRet (findS s id) w) := by
  obtain ⟨w1, hw1, hb1, hr1⟩ := ck_box w ck0
  simp only [ck0, Sl.nil] at hw1 hr1
  have KF := Lib.hid (Vfind g s id w1 (h.below hb1) hf ho)
  have H := Lib.hid (h.below hb1); have Hf := Lib.hid hf; have Hb1 := Lib.hid hb1; have Hr1 := Lib.hid hr1
  have hgl := h.lt
  clear h hf ho hb1 hr1
  cases hfs : findS s id with
  | none =>
    rw [hfs] at KF
    clear hfs
    unfold findV at KF
    go_enter Tryz.func13, Tryz.ntmps13
    go_wp2_with fail
    refine KF.out.mono ?_
    rintro e w2 ⟨rfl, hb2⟩
    obtain ⟨w3, hst, hr3, ht3⟩ := stCk_run (row_below Hr1.out hb2) rfl ck0
    simp only [ck0, Sl.nil] at hst hr3
    have Hr3 := Lib.hid hr3; have Ht3 := Lib.hid ht3; have Hb2 := Lib.hid (Hb1.out.trans (hb2.mono Hb1.out.size))
    clear hb2 hr3 ht3 hw1
    go_wp2
    refine bodyPost_ret (v := .tuple #[.agg #[.int .i64 0, .int .i64 0, .int .i64 0, .slice none 0 0, .slice none 0 0], .bool false]) (results_cell_2 rfl _ _ w.heap.size 47 #[.int .i64 0, .int .i64 0, .int .i64 0, .slice none 0 0, .slice none 0 0] (0, 0) _ (.bool false) rfl rfl Hr3.out Tryz.underlying47 rfl ck_size) rfl ?_
    exact ⟨rfl, Hb2.out.trans (Ht3.out.below (fun k e => by omega) Hb2.out.size)⟩
  | some x =>
    obtain ⟨i, j, k⟩ := x
    have hat := findS_some hfs
    rw [hfs] at KF
    clear hfs
    unfold findV at KF
    obtain ⟨hi, hj, hid⟩ := hat
    obtain ⟨cs, K, X, h1⟩ := H.out
    rw [← h1.dat i hi, List.getElem?_map, Option.map_eq_some_iff] at hj
    obtain ⟨r, hj, rfl⟩ := hj
    have hck := (Hf.out.vs i hi).ks r.dat (by rw [← h1.dat i hi]; exact List.mem_map.2 ⟨r, List.mem_of_getElem? hj, rfl⟩)
    have hml : r.ms.length ≤ 16 := hck.ml
    have hjl : r.js.length ≤ 16 := hck.jl
    have H1 := Lib.hid h1; have Hj := Lib.hid hj
    have hj64 : j < 64 := by
      have e1 := (Hf.out.vs i hi).kl
      rw [← h1.dat i hi, List.length_map] at e1
      have := (List.getElem?_eq_some_iff.1 hj).1
      omega
    have hjn : (j : Int) < ((K i).n : Int) := by
      have := (List.getElem?_eq_some_iff.1 hj).1
      have := (h1.ks i hi).len
      omega
    have j0 : (0 : Int) ≤ (j : Int) := by omega
    clear h1 hj hck
    go_enter Tryz.func13, Tryz.ntmps13
    go_wp2_with fail
    refine KF.out.mono ?_
    rintro e w2 ⟨rfl, hb2⟩
    have h2 := H1.out.below hb2
    have c6 : w2.cell? ⟨g, 16 + i * 7 + 6, none⟩ = some (.slice (K i).A (K i).n (K i).c) := by rw [h2.cell]; exact h2.c6 i hi
    obtain ⟨g1, o1, hA, hat⟩ := (h2.ks i hi).get Hj.out
    have hok := (h2.ks i hi).ok r (List.mem_of_getElem? Hj.out)
    obtain ⟨S, hS⟩ : ∃ S, K i = S := ⟨_, rfl⟩
    rw [hS] at hA c6 hjn
    clear hS
    obtain ⟨A9, n9, c9⟩ := S
    simp only at hA c6 hjn
    subst hA
    have hld := ldCk_run hat
    obtain ⟨wz, w3, hwz, hst9, hb3, hr3⟩ := ck_new w2 r
    have Hr3 := Lib.hid hr3; have Hb3 := Lib.hid hb3; have Hr2 := Lib.hid (row_below Hr1.out hb2); have Hok := Lib.hid (hok.below hb3)
    have Hb2 := Lib.hid (Hb1.out.trans (hb2.mono Hb1.out.size))
    have hs2 : w.heap.size < w2.heap.size := by
      have := (Array.getElem?_eq_some_iff.1 Hr1.out).1
      have := hb2.size
      omega
    have d3 : w3.drew.cell? ⟨w2.heap.size, 3, none⟩ = some (.slice r.m.A r.m.n r.m.c) := row_cell (w := w3.drew) hr3 3
    have d4 : w3.drew.cell? ⟨w2.heap.size, 4, none⟩ = some (.slice r.j.A r.j.n r.j.c) := row_cell (w := w3.drew) hr3 4
    have KC1 := Lib.hid (VClone r.m r.ms w3.drew (Hok.out.m.below (Below.refl _ _).drew) (by omega))
    clear h2 hat hok hb2 hb3 hr3 hw1
    go_upto_region 5 with fail
    go_cut [8] (fun _ wx => ∃ q : Ck, q.dat = r.dat ∧ wx.heap[w2.heap.size]? = some (.cells #[.int .i64 q.id, .int .i64 q.vo, .int .i64 q.ep, .slice q.m.A q.m.n q.m.c, .slice q.j.A q.j.n q.j.c] 47 (0, 0)) ∧ CkOwn wx w.heap.size q ∧ Below w2.heap.size w2 wx)
    case first =>
      go_region_law (first
        | (go_simp; go_at_call 32; refine KC2.out.mono ?_; rintro e w5 ⟨s2, rfl, hown2, hb5⟩; have Hown2 := Lib.hid hown2; have Hb5 := Lib.hid hb5; have hr5 := row_below Hr4.out hb5; have f3 := row_cell hr5 3; have f4 := row_cell hr5 4; have z3 := row_frozen hr5 3; have z4 := row_frozen hr5 4; have Hr5 := Lib.hid hr5; clear hown2 hb5 hr5)
        | (go_simp; go_at_call 32; refine KC1.out.mono ?_; rintro e w4 ⟨s1, rfl, hown1, hb4⟩; have Hown1 := Lib.hid hown1; have hbb := (Below.refl w3.heap.size w3).drew.trans hb4; have Hb4 := Lib.hid hbb; have Hr4 := Lib.hid (row_below Hr3.out hbb); have e3 : w4.cell? ⟨w2.heap.size, 3, none⟩ = some (.slice r.m.A r.m.n r.m.c) := row_cell Hr4.out 3; have e4 : w4.cell? ⟨w2.heap.size, 4, none⟩ = some (.slice r.j.A r.j.n r.j.c) := row_cell Hr4.out 4; have KC2 := Lib.hid (VClone r.j r.js w4 (Hok.out.j.below hbb) (by omega)); clear hown1 hb4 hbb))
      all_goals
        go_wp2_with fail
        go_meet
        obtain ⟨h1, h2⟩ := ck_set2 Hr5.out s1 s2
        have hl3 := (Array.getElem?_eq_some_iff.1 Hr3.out).1
        have hs23 := Hb3.out.size
        have hs12 := Hb2.out.size
        have hs34 : w3.heap.size ≤ w4.heap.size := Hb4.out.size
        have lt1 : ∀ b, (Value.slice s1.A s1.n s1.c).ownBlock = some b → w3.heap.size ≤ b ∧ b < w4.heap.size := fun b hb => Hown1.out.lt b hb
        have lt2 : ∀ b, (Value.slice s2.A s2.n s2.c).ownBlock = some b → w4.heap.size ≤ b ∧ b < w5.heap.size := fun b hb => Hown2.out.lt b hb
        refine ⟨⟨r.id, r.vo, r.ep, s1, s2, r.ms, r.js⟩, rfl, h1, ⟨own_baseM (h2.own (own_below Hown1.out Hb5.out) fun b hb e => ?_) (by show w.heap.size ≤ w3.heap.size; omega), own_baseM (h2.own Hown2.out fun b hb e => ?_) (by omega), fun b hb hb' => ?_⟩, ?_⟩
        · have := lt1 b hb; omega
        · have := lt2 b hb; omega
        · have := lt1 b hb; have := lt2 b hb'; omega
        · exact ((Hb3.out.trans (Hb4.out.mono hs23)).trans (Hb5.out.mono (by omega))).trans (h2.below (fun k e => by omega) (by have := Hb5.out.size; omega))
    case rest =>
      obtain ⟨q, hq, hrq, hoq, hbq⟩ := hcut
      have hldq := ldCk_run (CkAt.of_row hrq)
      obtain ⟨w6, hst, hr6, ht6⟩ := stCk_run (row_below Hr2.out hbq) rfl q
      have Hr6 := Lib.hid hr6; have Ht6 := Lib.hid ht6; have Hq := Lib.hid hq; have Hoq := Lib.hid hoq; have Hbq := Lib.hid hbq
      clear hr6 ht6 hq hoq hbq hrq KC1 d3 d4 hst9 hwz hld c6
      go_wp2
      refine bodyPost_ret (v := .tuple #[ckA q, .bool true]) (results_cell_2 rfl _ _ w.heap.size 47 #[.int .i64 q.id, .int .i64 q.vo, .int .i64 q.ep, .slice q.m.A q.m.n q.m.c, .slice q.j.A q.j.n q.j.c] (0, 0) _ (.bool true) rfl rfl Hr6.out Tryz.underlying47 rfl ck_size) rfl ?_
      refine ⟨q, Hq.out, rfl, Hoq.out.turned Ht6.out (fun b e cs fr hb => ?_), (Hb2.out.trans (Hbq.out.mono Hb2.out.size)).trans (Ht6.out.below (fun k e => by omega) (by have := Hb2.out.size; have := Hbq.out.size; omega))⟩
      subst e
      rw [row_below Hr2.out Hbq.out] at hb
      injection hb with hb
      injection hb with _ hb
      exact absurd hb (by decide)
end Go.Proofs.YtmdmpliiiecmlaaGreat
end

section
namespace Go.Proofs.YtmdmpliiiecmlaaGreat
open Go.ChangeShapes Go.WideShapes Go.ChangeAt Go.RowKit
set_option linter.unusedVariables false

/-- a volume as api tells it, its chunks' numbers at S -/
def voA (id : Int) (v : Vol) (S : Sl) : Array Value := #[.int .i64 id, .int .i64 v.bl, .int .i64 v.p.re, .int .i64 v.p.we, .int .i64 v.p.li, .int .i64 v.p.bu, .int .i64 v.ver, .slice S.A S.n S.c]
theorem vo_size : (Tryz.prog.info? 43).map (·.size) = some 8 := by kernel_rfl
def stVo (p v : Value) : Sem Unit := Instr.storeAt 43 p v
theorem stVo_eq (p v : Value) : Instr.storeAt 43 p v = stVo p v := rfl
theorem stVo_run {w : World} {g : Nat} {cs : Array Value} {T : TypeId} (h : w.heap[g]? = some (.cells cs T (0, 0))) (hs : cs.size = 8) (id bl re we li bu ver : Int) (S : Sl) :
    ∃ w', (stVo (.pointer (some ⟨g, 0, none⟩)) (.agg #[.int .i64 id, .int .i64 bl, .int .i64 re, .int .i64 we, .int .i64 li, .int .i64 bu, .int .i64 ver, .slice S.A S.n S.c])).run Tryz.prog w = .ok () w' ∧
      w'.heap[g]? = some (.cells #[.int .i64 id, .int .i64 bl, .int .i64 re, .int .i64 we, .int .i64 li, .int .i64 bu, .int .i64 ver, .slice S.A S.n S.c] T (0, 0)) ∧ Turned (fun k => k = g) w w' :=
  st_row (T := 43) h (by rw [hs]; rfl) vo_size (by simp [Value.oneCell'])
def bdVo (parts : Array (Nat × Value)) : Sem Value := Instr.build 43 parts
theorem bdVo_eq (parts : Array (Nat × Value)) : Instr.build 43 parts = bdVo parts := rfl
theorem bdVo_run (w : World) (id bl re we li bu ver : Int) (A : Option Addr) (n c : Nat) :
    (bdVo #[(0, .int .i64 id), (1, .int .i64 bl), (2, .agg #[.int .i64 re, .int .i64 we, .int .i64 li, .int .i64 bu]), (3, .int .i64 ver), (4, .slice A n c)]).run Tryz.prog w = .ok (.agg #[.int .i64 id, .int .i64 bl, .int .i64 re, .int .i64 we, .int .i64 li, .int .i64 bu, .int .i64 ver, .slice A n c]) w := by
  kernel_rfl
theorem bdVo_run0 (w : World) : (bdVo #[]).run Tryz.prog w = .ok (.agg #[.int .i64 0, .int .i64 0, .int .i64 0, .int .i64 0, .int .i64 0, .int .i64 0, .int .i64 0, .slice none 0 0]) w := by kernel_rfl
theorem noCk_box {w : World} {g : Nat} {cs : Array Value} {T : TypeId} {fr : Nat × Nat} (h : w.heap[g]? = some (.cells cs T fr)) (h1 : T ≠ 3) (h2 : T ≠ 47) : NoCk w (fun k => k = g) := by
  refine ⟨fun k cs' fr hk e => ?_, fun k cs' fr hk e => ?_⟩
  · subst hk
    rw [h] at e
    injection e with e
    injection e with _ e
    exact h1 e
  · subst hk
    rw [h] at e
    injection e with e
    injection e with _ e
    exact h2 e
/-- what Volume hands back -/
def VolumeRet (id : Int) (v : Vol) (w : World) (e : Ending) (w' : World) : Prop :=
  ∃ S : Sl, e = .returned (.tuple #[.agg #[.int .i64 id, .int .i64 v.bl, .int .i64 v.p.re, .int .i64 v.p.we, .int .i64 v.p.li, .int .i64 v.p.bu, .int .i64 v.ver, .slice S.A S.n S.c], .bool true]) ∧ w'.ownsRow w.heap.size 3 1 (.slice S.A S.n S.c) S.n (numsV (idsK v.ks)) ∧ Below w.heap.size w w'
attribute [local go_sem ↓] ldPol_eq
attribute [local go_sem ↓] stVo_eq
attribute [local go_sem ↓] bdVo_eq
set_option maxRecDepth 100000 in
set_option maxHeartbeats 2000000 in
theorem VVolume_yes (g : Nat) (s : St) (a : Nat) (w : World) (h : StAt w g s) (hf : StFit s) (hv : isVol s (a : Int) = true) :
    Calls Tryz.prog 12 #[.pointer (some ⟨g, 0, none⟩), .int .i64 (a : Int)] w (VolumeRet (a : Int) (s.vs a) w) := by
  obtain ⟨w1, hw1⟩ : ∃ w1, w.alloc (.cells #[.int .i64 0, .int .i64 0, .int .i64 0, .int .i64 0, .int .i64 0, .int .i64 0, .int .i64 0, .slice none 0 0] 43) = w1 := ⟨_, rfl⟩
  have hb1 : Below w.heap.size w w1 := by rw [← hw1]; exact below_box _ _
  have hr1 : w1.heap[w.heap.size]? = some (.cells #[.int .i64 0, .int .i64 0, .int .i64 0, .int .i64 0, .int .i64 0, .int .i64 0, .int .i64 0, .slice none 0 0] 43 (0, 0)) := by rw [← hw1]; exact heap_alloc_new _ _
  have H := Lib.hid (h.below hb1); have Hb1 := Lib.hid hb1; have Hr1 := Lib.hid hr1; have Hf := Lib.hid hf
  clear h hf hb1 hr1
  · have ha : a < 64 := by simp only [isVol, Bool.and_eq_true, decide_eq_true_eq] at hv; omega
    have KV := Lib.hid (Vvolume_yes g s a w1 H.out hv)
    have hkl := (Hf.out.vs a ha).kl
    have KN := Lib.hid (fun W (hb : Below w1.heap.size w1 W) => Vnumbers g a s W (H.out.below hb) ha hkl)
    obtain ⟨cs, K, X, h1⟩ := H.out
    obtain ⟨v, hve⟩ : ∃ v, s.vs a = v := ⟨_, rfl⟩
    have hS : ∀ W, StC W g cs s K X → W.cell? ⟨g, 16 + a * 7, none⟩ = some (.int .i64 v.bl) ∧ (ldPol (.pointer (some ⟨g, 16 + a * 7 + 1, none⟩))).run Tryz.prog W = .ok (.agg #[.int .i64 v.p.re, .int .i64 v.p.we, .int .i64 v.p.li, .int .i64 v.p.bu]) W ∧ W.cell? ⟨g, 16 + a * 7 + 5, none⟩ = some (.int .i64 v.ver) := fun W h2 => by
      refine ⟨by rw [h2.cell, ← hve]; exact h2.c0 a ha, ?_, by rw [h2.cell, ← hve]; exact h2.c5 a ha⟩
      refine ldPol_run (p := v.p) ⟨?_, ?_, ?_, ?_, by rw [← hve]; exact (Hf.out.vs a ha).p⟩
      · rw [h2.cell, ← hve]; exact h2.c1 a ha
      · rw [h2.cell, ← hve]; exact h2.c2 a ha
      · rw [h2.cell, ← hve]; exact h2.c3 a ha
      · rw [h2.cell, ← hve]; exact h2.c4 a ha
    have HS := Lib.hid hS; have H1 := Lib.hid h1; have hgl := h1.lt
    have hne : g ≠ w.heap.size := fun e => by
      have := h1.row
      rw [e, Hr1.out] at this
      injection this with this
      injection this with _ this
      exact absurd this (by decide)
    rw [hve] at KN ⊢
    have hbd := bdVo_run
    clear h1 hve hv hkl hS
    obtain ⟨bl, ⟨re, we, li, bu⟩, ver, ks⟩ := v
    simp only at HS KN ⊢
    have Hbd := Lib.hid hbd
    clear hbd
    go_enter Tryz.func12, Tryz.ntmps12
    go_upto_region 4 with (go_at_call 29; refine KV.out.mono ?_; rintro e w2 ⟨rfl, rfl⟩)
    have hbd := Hbd.out
    go_region_held3 (fun W => W.cell? ⟨g, 16 + a * 7, none⟩ = some (.int .i64 bl) ∧ (ldPol (.pointer (some ⟨g, 16 + a * 7 + 1, none⟩))).run Tryz.prog W = .ok (.agg #[.int .i64 re, .int .i64 we, .int .i64 li, .int .i64 bu]) W ∧ W.cell? ⟨g, 16 + a * 7 + 5, none⟩ = some (.int .i64 ver))
      (first | exact HS.out _ (H1.out.below (Below.refl _ _).drew) | exact HS.out _ H3.out | exact HS.out _ H4.out)
      (first
        | (go_at_call 30; refine (KN.out _ (Below.refl _ _).drew).mono ?_; rintro e w3 ⟨A, c, rfl, hown, hb3⟩; have Hb3 := Lib.hid ((Below.refl w1.heap.size w1).drew.trans hb3); have H3 := Lib.hid (H1.out.below Hb3.out); have Hown := Lib.hid hown; obtain ⟨w4, hst, hr4, ht4⟩ := stVo_run (row_below Hr1.out Hb3.out) rfl (a : Int) bl re we li bu ver ⟨A, (numsV (idsK ks)).length, c⟩; have Hr4 := Lib.hid hr4; have Ht4 := Lib.hid ht4; have H4 := Lib.hid (H3.out.turned ht4 hne (noCk_box (row_below Hr1.out Hb3.out) (by decide) (by decide))); clear hown hb3 hr4 ht4))
    go_wp2
    refine bodyPost_ret (v := .tuple #[.agg #[.int .i64 (a : Int), .int .i64 bl, .int .i64 re, .int .i64 we, .int .i64 li, .int .i64 bu, .int .i64 ver, .slice A (numsV (idsK ks)).length c], .bool true]) (results_cell_2 rfl _ _ w.heap.size 43 #[.int .i64 (a : Int), .int .i64 bl, .int .i64 re, .int .i64 we, .int .i64 li, .int .i64 bu, .int .i64 ver, .slice A (numsV (idsK ks)).length c] (0, 0) _ (.bool true) rfl rfl Hr4.out Tryz.underlying43 rfl vo_size) rfl ?_
    have hlt := (Array.getElem?_eq_some_iff.1 Hr1.out).1
    refine ⟨⟨A, (numsV (idsK ks)).length, c⟩, rfl, own_baseM (Ht4.out.own Hown.out fun b hb e => ?_) Hb1.out.size, (Hb1.out.trans (Hb3.out.mono Hb1.out.size)).trans (Ht4.out.below (fun k e => by omega) (by have := Hb1.out.size; have := Hb3.out.size; omega))⟩
    have : w1.heap.size ≤ b := (Hown.out.lt b hb).1
    omega
set_option maxRecDepth 100000 in
set_option maxHeartbeats 2000000 in
theorem VVolume_no (g : Nat) (s : St) (id : Int) (w : World) (h : StAt w g s) (hv : isVol s id = false) :
    Calls Tryz.prog 12 #[.pointer (some ⟨g, 0, none⟩), .int .i64 id] w fun e w' => e = .returned (.tuple #[.agg #[.int .i64 0, .int .i64 0, .int .i64 0, .int .i64 0, .int .i64 0, .int .i64 0, .int .i64 0, .slice none 0 0], .bool false]) ∧ Below w.heap.size w w' := by
  obtain ⟨w1, hw1⟩ : ∃ w1, w.alloc (.cells #[.int .i64 0, .int .i64 0, .int .i64 0, .int .i64 0, .int .i64 0, .int .i64 0, .int .i64 0, .slice none 0 0] 43) = w1 := ⟨_, rfl⟩
  have hb1 : Below w.heap.size w w1 := by rw [← hw1]; exact below_box _ _
  have hr1 : w1.heap[w.heap.size]? = some (.cells #[.int .i64 0, .int .i64 0, .int .i64 0, .int .i64 0, .int .i64 0, .int .i64 0, .int .i64 0, .slice none 0 0] 43 (0, 0)) := by rw [← hw1]; exact heap_alloc_new _ _
  have KV := Lib.hid (Vvolume_no g s id w1 (h.below hb1) hv)
  obtain ⟨w4, hst, hr4, ht4⟩ := stVo_run hr1 rfl 0 0 0 0 0 0 0 Sl.nil
  simp only [Sl.nil] at hst hr4
  have Hb1 := Lib.hid hb1; have Hr4 := Lib.hid hr4; have Ht4 := Lib.hid ht4
  have hbd := bdVo_run0
  clear h hv hb1 hr1 hr4 ht4
  go_enter Tryz.func12, Tryz.ntmps12
  go_wp2_with (go_at_call 29; refine KV.out.mono ?_; rintro e w2 ⟨rfl, rfl⟩)
  refine bodyPost_ret (v := .tuple #[.agg #[.int .i64 0, .int .i64 0, .int .i64 0, .int .i64 0, .int .i64 0, .int .i64 0, .int .i64 0, .slice none 0 0], .bool false]) (results_cell_2 rfl _ _ w.heap.size 43 #[.int .i64 0, .int .i64 0, .int .i64 0, .int .i64 0, .int .i64 0, .int .i64 0, .int .i64 0, .slice none 0 0] (0, 0) _ (.bool false) rfl rfl Hr4.out Tryz.underlying43 rfl vo_size) rfl ?_
  exact ⟨rfl, Hb1.out.trans (Ht4.out.below (fun k e => by omega) Hb1.out.size)⟩

theorem chunks_more (s : St) (n : Nat) : idsK (allKs s (n + 1)) = idsK (allKs s n) ++ idsK (s.vs n).ks := by rw [allKs_succ]; simp [idsK]
theorem allKs_len {s : St} (h : StFit s) : ∀ n, n ≤ 64 → (allKs s n).length ≤ n * 64
  | 0, _ => by simp [allKs]
  | n + 1, hn => by
    rw [allKs_succ, List.length_append]
    have := allKs_len h n (by omega)
    have := (h.vs n (by omega)).kl
    omega
set_option maxRecDepth 100000 in
set_option maxHeartbeats 1000000 in
theorem VChunks (g : Nat) (s : St) (w : World) (h : StAt w g s) (hf : StFit s) :
    Calls Tryz.prog 23 #[.pointer (some ⟨g, 0, none⟩)] w (OwnRet 3 (numsV (sortI (idsK (allKs s 64)))) w) := by
  have H := Lib.hid h; have Hf := Lib.hid hf
  clear h hf
  go_enter Tryz.func23, Tryz.ntmps23
  go_wp2
  go_loopw [3, 5] (fun sv iv wr => ∃ (i n : Nat) (A' : Option Addr) (c' : Nat), i ≤ 64 ∧ iv = .int .i64 (i : Int) ∧ sv = .slice A' n c' ∧ (idsK (allKs s i)).length = n ∧ n ≤ i * 64 ∧ wr.ownsRow w.heap.size 3 1 (.slice A' n c') n (numsV (idsK (allKs s i))) ∧ Below w.heap.size w wr) (fun _ iv _ => 64 - (intOf iv).toNat)
  case atStart => exact ⟨0, 0, _, _, by omega, rfl, rfl, rfl, by omega, World.ownsRow_nil _ _ _ _, Below.refl _ _⟩
  case round =>
    obtain ⟨i, n, A', c', hin, rfl, rfl, hn, hn64, ho, hb⟩ := hrel
    by_cases hi : i < 64
    · have i0 : (0 : Int) ≤ (i : Int) := by omega
      have i1 : (i : Int) < 64 := by omega
      have hkl := (Hf.out.vs i hi).kl
      have KN := Lib.hid (Vnumbers g i s wr (H.out.below hb) hi hkl)
      obtain ⟨m, hm⟩ : ∃ m, (numsV (idsK (s.vs i).ks)).length = m := ⟨_, rfl⟩
      have hm6 : m ≤ 64 := by rw [← hm]; simp [numsV, idsK]; exact hkl
      have Hm := Lib.hid hm; have Hb := Lib.hid hb; have Ho := Lib.hid ho; have Hn := Lib.hid hn
      clear hm hb ho hn hkl
      unfold OwnRet at KN
      rw [Hm.out] at KN
      go_wp2_with (first
        | (go_at_call 30; refine KN.out.mono ?_; rintro e w2 ⟨A2, c2, rfl, hown2, hb2⟩; have Ho2 := Lib.hid (own_belowM Ho.out hb2); have Hs2 := Lib.hid (Seen.of_own hown2); have Hb2 := Lib.hid (Hb.out.trans (hb2.mono Hb.out.size)); clear hown2 hb2)
        | (at_builtin; refine wpList_app2 rfl (.tmp 8) (.tmp 14) _ rfl 3 _ 8 Tryz.underlying27 int_info rfl w.heap.size A' n c' (numsV (idsK (allKs s i))) rfl Ho2.out A2 m c2 (numsV (idsK (s.vs i).ks)) rfl Hm.out Hs2.out (numsV_one _) (by unfold maxLen; omega) (by omega) Hb2.out.size ?_; intro A4 c4 w4 hown4 hg4 hbk4; have Hown4 := Lib.hid hown4; have Hg4 := Lib.hid hg4; clear hown4 hg4 hbk4))
      go_roundw
      case rel =>
        have tg : Turned (fun k => (Value.slice A' n c').ownBlock = some k) w2 w4 := Turned.of_grown Hg4.out fun k e => e
        have hl : (idsK (s.vs i).ks).length = m := by have := Hm.out; rwa [numsV_length] at this
        refine ⟨i + 1, n + m, A4, c4, by omega, by go_num, rfl, by rw [chunks_more, List.length_append, Hn.out, hl], by omega, ?_, ?_⟩
        · rw [chunks_more, numsV_append]
          exact Hown4.out
        · exact Hb2.out.trans (tg.below (fun k e => (Ho2.out.lt k e).1) Hb2.out.size)
      case measure => simp [intOf]; omega
    · obtain rfl : i = 64 := by omega
      have i1 : ¬ ((64 : Nat) : Int) < 64 := by omega
      have Ho := Lib.hid ho; have Hb := Lib.hid hb; have Hn := Lib.hid hn
      have KS := Lib.hid (VSort w.heap.size A' n c' (idsK (allKs s 64)) wr (by omega) ho)
      clear ho hb hn
      go_wp2_with (go_at_call 60; refine KS.out.mono ?_; rintro e w2 ⟨rfl, hown2, ht2⟩; have Hown2 := Lib.hid hown2; have Ht2 := Lib.hid ht2; clear hown2 ht2)
      go_ret
      have el : (numsV (sortI (idsK (allKs s 64)))).length = n := by rw [numsV_length, sortI_length, Hn.out]
      unfold OwnRet
      rw [el]
      exact ⟨A', c', rfl, Hown2.out, Hb.out.trans (Ht2.out.below (fun k e => (Ho.out.lt k e).1) Hb.out.size)⟩

/-! ### admitted -/
theorem adm_eq (s : St) (n : Nat) : ((srvL s.pk (n + 1)).all fun i => admitsP (s.pk i) (polsS s i)) = (((srvL s.pk n).all fun i => admitsP (s.pk i) (polsS s i)) && (!(decide (0 < s.pk n)) || admitsP (s.pk n) (polsS s n))) := by
  by_cases h : 0 < s.pk n
  · rw [srvL_yes h]; simp [h]
  · rw [srvL_no h]; simp [h]
set_option maxRecDepth 100000 in
set_option maxHeartbeats 2000000 in
theorem Vadmitted (g : Nat) (s : St) (w : World) (h : StAt w g s) (hf : StFit s) :
    Calls Tryz.prog 21 #[.pointer (some ⟨g, 0, none⟩)] w fun e w' => e = .returned (.bool (admS s)) ∧ Below w.heap.size w w' := by
  have H := Lib.hid h; have Hf := Lib.hid hf
  have KS := Lib.hid (Servers_any g s w h)
  have hlen : (serversL s.pk).length ≤ 16 := srvL_len s.pk 16
  obtain ⟨l, hl⟩ : ∃ l, serversL s.pk = l := ⟨_, rfl⟩
  have hmem : ∀ x ∈ l, x < 16 ∧ 0 < s.pk x := fun x hx => by
    rw [← hl] at hx
    have := List.mem_filter.1 hx
    exact ⟨List.mem_range.1 this.1, by simpa using this.2⟩
  have he : admS s = l.all fun i => admitsP (s.pk i) (polsS s i) := by rw [← hl]; rfl
  rw [he]
  rw [hl] at KS hlen
  obtain ⟨n, hn⟩ : ∃ n, l.length = n := ⟨_, rfl⟩
  rw [hn] at KS hlen
  have Hn := Lib.hid hn; have Hm := Lib.hid hmem
  clear h hf hl he hn hmem
  go_enter Tryz.func21, Tryz.ntmps21
  go_wp2_with (go_at_call 24; refine KS.out.mono ?_; rintro e w1 ⟨A1, c1, rfl, hown1, hb1⟩; have Ho1 := Lib.hid hown1; have Hb1 := Lib.hid hb1; clear hown1 hb1)
  go_loopw [8] (fun iv wr => ∃ i : Nat, i ≤ n ∧ iv = .int .i64 (i : Int) ∧ ((l.take i).all fun i => admitsP (s.pk i) (polsS s i)) = true ∧ Below w1.heap.size w1 wr) (fun iv _ => n - (intOf iv).toNat)
  case atStart => exact ⟨0, by omega, rfl, rfl, Below.refl _ _⟩
  case round =>
    obtain ⟨i, hin, rfl, hall, hb⟩ := hrel
    by_cases hi : i < n
    · obtain ⟨x, hx⟩ : ∃ x, l[i]? = some x := ⟨_, List.getElem?_eq_getElem (by have := Hn.out; omega)⟩
      have i0 : (0 : Int) ≤ (i : Int) := by omega
      have i1 : (i : Int) < (n : Int) := by omega
      have hxm := Hm.out x (List.mem_of_getElem? hx)
      obtain ⟨e0, e1⟩ := loadsV_get s.pk hx
      have ho := own_belowM Ho1.out hb
      rcases own_seenM ho with h0 | ⟨g1, o1, hA, hc⟩
      · rw [h0] at e0; cases e0
      subst hA
      have d0 := hc _ _ e0
      have d1 := hc _ _ e1
      rw [← Nat.add_assoc] at d1
      obtain ⟨W, hW⟩ : ∃ W, wr.alloc (.cells #[.int .i64 (x : Int), .int .i64 (s.pk x)] 74) = W := ⟨_, rfl⟩
      have hbW : Below wr.heap.size wr W := by rw [← hW]; exact below_box _ _
      have hrW : W.heap[wr.heap.size]? = some (.cells #[.int .i64 (x : Int), .int .i64 (s.pk x)] 74 (0, 0)) := by rw [← hW]; exact heap_alloc_new _ _
      have f0 : W.cell? ⟨wr.heap.size, 0, none⟩ = some (.int .i64 (x : Int)) := row_cell hrW 0
      have f1 : W.cell? ⟨wr.heap.size, 1, none⟩ = some (.int .i64 (s.pk x)) := row_cell hrW 1
      have hpk := Hf.out.pk x hxm.1
      have hWb := (hb.trans (hbW.mono hb.size))
      have HW := Lib.hid (H.out.below (Hb1.out.trans (hWb.mono Hb1.out.size)))
      have F0 := Lib.hid f0; have F1 := Lib.hid f1; have HWb := Lib.hid hWb; have Hall := Lib.hid hall; have Hx := Lib.hid hx
      have htk : l.take (i + 1) = l.take i ++ [x] := by
        obtain ⟨h1, h2⟩ := List.getElem?_eq_some_iff.1 hx
        rw [List.take_succ_eq_append_getElem h1, h2]
      have Htk := Lib.hid htk
      have KP := Lib.hid (fun V (hv : Below W.heap.size W V) => Policies_any g s (x : Int) V (HW.out.below hv) Hf.out)
      obtain ⟨ps, hps⟩ : ∃ ps, polsS s (x : Int) = ps := ⟨_, rfl⟩
      have hpl : ps.length ≤ 64 := by rw [← hps]; exact polsN_len s x 64
      have hpi : ∀ p ∈ ps, InP p := by rw [← hps]; exact polsN_in Hf.out x (Nat.le_refl _)
      have KA := Lib.hid (fun V A c (hv : V.ownsRow W.heap.size 36 4 (.slice A ps.length c) ps.length (polsV ps)) => Admits_any (s.pk x) A ps.length c ps V rfl (by unfold maxLen; omega) (pols_own hv hpi) ⟨by omega, by omega⟩)
      rw [hps] at KP
      have Hps := Lib.hid hps
      obtain ⟨b, hbe⟩ : ∃ b, admitsP (s.pk x) ps = b := ⟨_, rfl⟩
      rw [hbe] at KA
      have Hbe := Lib.hid hbe
      have Hpl := Lib.hid hpl
      clear hb hall hx htk hps hpl hpi hbe ho hc e0 e1 hbW hrW hWb
      have Hc := Lib.hid (fun V (hv : Below W.heap.size W V) => (⟨(hv.cell (p := ⟨wr.heap.size, 0, none⟩) (block_lt_of_cell F0.out)).trans F0.out, (hv.cell (p := ⟨wr.heap.size, 1, none⟩) (block_lt_of_cell F1.out)).trans F1.out⟩ : V.cell? ⟨wr.heap.size, 0, none⟩ = some (.int .i64 (x : Int)) ∧ V.cell? ⟨wr.heap.size, 1, none⟩ = some (.int .i64 (s.pk x))))
      have hls : ∀ k : Nat, ((l.take (i + 1)).all fun i => admitsP (s.pk i) (polsS s i)) = b ∧ (b = false → (l.all fun i => admitsP (s.pk i) (polsS s i)) = false) := fun _ => by
        have h1 : ((l.take (i + 1)).all fun i => admitsP (s.pk i) (polsS s i)) = b := by
          rw [Htk.out, List.all_append, Hall.out]
          simp only [List.all_cons, List.all_nil, Bool.and_true, Bool.true_and]
          rw [Hps.out, Hbe.out]
        refine ⟨h1, fun hb => ?_⟩
        rw [← List.take_append_drop (i + 1) l, List.all_append, h1, hb]
        rfl
      have Hls := Lib.hid (hls 0)
      clear hls
      cases b with
      | true =>
        go_upto_region 4 with fail
        go_region_held3 (fun V => V.cell? ⟨wr.heap.size, 0, none⟩ = some (.int .i64 (x : Int)) ∧ V.cell? ⟨wr.heap.size, 1, none⟩ = some (.int .i64 (s.pk x)))
          (first | exact Hc.out _ (Below.refl _ _).drew | exact Hc.out _ Hb2.out | exact Hc.out _ Hb3.out)
          (first
            | (go_at_call 59; (with_reducible refine (KA.out _ _ _ Ho2.out).mono ?_); rintro e w3 ⟨rfl, hb3⟩; have Hb3 := Lib.hid (Hb2.out.trans (hb3.mono Hb2.out.size)); clear hb3)
            | (go_at_call 27; (with_reducible refine (KP.out _ (Below.refl _ _).drew).mono ?_); rintro e w2 ⟨A2, c2, rfl, hown2, hb2⟩; have Ho2 := Lib.hid hown2; have Hb2 := Lib.hid ((Below.refl W.heap.size W).drew.trans hb2); clear hown2 hb2))
        go_wp2
        go_roundw
        case rel => exact ⟨i + 1, by omega, by go_num, Hls.out.1, HWb.out.trans (Hb3.out.mono HWb.out.size)⟩
        case measure => simp [intOf]; omega
      | false =>
        go_upto_region 4 with fail
        go_region_held3 (fun V => V.cell? ⟨wr.heap.size, 0, none⟩ = some (.int .i64 (x : Int)) ∧ V.cell? ⟨wr.heap.size, 1, none⟩ = some (.int .i64 (s.pk x)))
          (first | exact Hc.out _ (Below.refl _ _).drew | exact Hc.out _ Hb2.out | exact Hc.out _ Hb3.out)
          (first
            | (go_at_call 59; (with_reducible refine (KA.out _ _ _ Ho2.out).mono ?_); rintro e w3 ⟨rfl, hb3⟩; have Hb3 := Lib.hid (Hb2.out.trans (hb3.mono Hb2.out.size)); clear hb3)
            | (go_at_call 27; (with_reducible refine (KP.out _ (Below.refl _ _).drew).mono ?_); rintro e w2 ⟨A2, c2, rfl, hown2, hb2⟩; have Ho2 := Lib.hid hown2; have Hb2 := Lib.hid ((Below.refl W.heap.size W).drew.trans hb2); clear hown2 hb2))
        go_wp2
        go_ret
        exact ⟨bool_eq (Hls.out.2 (by first | trivial | rfl)).symm, Hb1.out.trans ((HWb.out.trans (Hb3.out.mono HWb.out.size)).mono Hb1.out.size)⟩
    · obtain rfl : i = n := by omega
      have i1 : ¬ (i : Int) < (i : Int) := by omega
      have hty : l.take i = l := List.take_of_length_le (by rw [Hn.out]; exact Nat.le_refl _)
      rw [hty] at hall
      have Hall := Lib.hid hall; have Hb := Lib.hid hb
      clear hall hb hty
      go_wp2
      go_ret
      exact ⟨bool_eq Hall.out.symm, Hb1.out.trans (Hb.out.mono Hb1.out.size)⟩
end Go.Proofs.YtmdmpliiiecmlaaGreat
end

section
namespace Go.Proofs.YtmdmpliiiecmlaaGreat
open Go.ChangeShapes Go.WideShapes Go.ChangeAt Go.RowKit
set_option linter.unusedVariables false

/-- chunks in a row of the call's own -/
def CloneKRet (X : List Ck) (w : World) (e : Ending) (w' : World) : Prop :=
  ∃ (g c : Nat), e = .returned (.slice (some ⟨g, 0, none⟩) X.length c) ∧ w'.ownsRow w.heap.size 47 5 (.slice (some ⟨g, 0, none⟩) X.length c) X.length (cksV X) ∧ Below w.heap.size w w'
theorem VCloneK (S : Sl) (X : List Ck) (w : World) (h : KsT w S X) (h0 : 0 < X.length) (hl : X.length ≤ 64) :
    Calls Tryz.prog 87 #[.slice S.A S.n S.c] w (CloneKRet X w) := by
  obtain ⟨A, n, c⟩ := S
  have hn := h.len
  simp only at hn ⊢
  obtain ⟨i0, hi, hz0, hz1, hz2⟩ := info_parts ck_info
  rcases h.see.1 with he | ⟨g, o, hA, hc⟩
  · have := cksV_length X
    rw [he] at this
    simp at this
    omega
  · simp only at hA
    subst hA
    have z : ∀ w, (Go.sizeOf 47).run Tryz.prog w = .ok 5 w := Tryz.sizeOf47
    have hC := AnyE.slices_Clone Tryz.cloneK i0 _ 5 72 hi hz0 hz1 hz2 rfl (by omega) z g o n c (cksV X) w (by rw [cksV_length, hn]) (by unfold maxLen; omega) (by omega) hc (cksV_oneCell X)
    refine hC.mono ?_
    rintro e w' ⟨v', rfl, h1, h2, h3⟩
    subst hn
    rcases h1.2 with ⟨hv, hn⟩ | ⟨g', cap, cur, hv, hg, r⟩
    · omega
    · subst hv
      exact ⟨g', cap, rfl, h1, h3⟩
/-- the j-th chunk of a row stored anew -/
theorem ks_set {w : World} {B g n c j : Nat} {X : List Ck} (h : w.ownsRow B 47 5 (.slice (some ⟨g, 0, none⟩) n c) n (cksV X)) (hj : j < X.length) (r : Ck) :
    ∃ w', (stCk (.pointer (some ⟨g, j * 5, none⟩)) (.agg #[.int .i64 r.id, .int .i64 r.vo, .int .i64 r.ep, .slice r.m.A r.m.n r.m.c, .slice r.j.A r.j.n r.j.c])).run Tryz.prog w = .ok () w' ∧
      w'.ownsRow B 47 5 (.slice (some ⟨g, 0, none⟩) n c) n (cksV (X.set j r)) ∧ Turned (fun k => k = g) w w' := by
  have hlen := h.1
  rw [cksV_length] at hlen
  rcases h.2 with ⟨hv, _⟩ | ⟨g', cap, cur, hv, hg, hh, h1, h2, h3, h4⟩
  · cases hv
  injection hv with hv _ hc
  injection hv with hv
  injection hv with hv
  subst hv; subst hc
  have hsp : X = X.take j ++ [X[j]] ++ X.drop (j + 1) := by rw [← List.take_succ_eq_append_getElem hj, List.take_append_drop]
  have hset : X.set j r = X.take j ++ [r] ++ X.drop (j + 1) := by rw [List.set_eq_take_append_cons_drop, if_pos hj]; simp
  obtain ⟨Z, hZ⟩ : ∃ Z, cur.toList.drop (n * 5) = Z := ⟨_, rfl⟩
  have ecur : cur = (cksV (X.take j) ++ ckC X[j] ++ (cksV (X.drop (j + 1)) ++ Z)).toArray := by
    have e1 : cksV X = cksV (X.take j) ++ ckC X[j] ++ cksV (X.drop (j + 1)) := by
      conv => lhs; rw [hsp]
      rw [cksV_append, cksV_append, cksV_one1]
    have e2 : cur.toList = cksV X ++ Z := by rw [← h4, ← hZ, List.take_append_drop]
    apply Array.ext'
    rw [e2, e1]
    simp [List.append_assoc]
  have hrow : w.heap[g]? = some (.cells (cksV (X.take j) ++ ckC X[j] ++ (cksV (X.drop (j + 1)) ++ Z)).toArray 47 (0, 0)) := by rw [← ecur]; exact hh
  have hl1 : (cksV (X.take j)).length = j * 5 := by rw [cksV_length, List.length_take]; omega
  have hs := set_row (b := g) (e := 47) (Z := cksV (X.drop (j + 1)) ++ Z) (ckC r) (cksV (X.take j)) (ckC X[j]) w (j * 5) hrow rfl hl1
  have hth : w.there g (j * 5) 5 := fun q hq => ⟨by
    rw [row_cell hh, Array.getElem?_eq_getElem (by rw [h3]; omega)]; rfl, row_frozen hh _⟩
  refine ⟨_, run_storeAt_mid w g (j * 5) 47 #[.int .i64 r.id, .int .i64 r.vo, .int .i64 r.ep, .slice r.m.A r.m.n r.m.c, .slice r.j.A r.j.n r.j.c] hth ck_size (by simp [Value.oneCell']), ?_, turned_cellsI (p := fun k => k = g) (fun _ => rfl) _ _ _ (Turned.refl _ _)⟩
  have e3 : cksV (X.set j r) = cksV (X.take j) ++ ckC r ++ cksV (X.drop (j + 1)) := by rw [hset, cksV_append, cksV_append, cksV_one1]
  have hl3 : (cksV (X.set j r)).length = n * 5 := by rw [cksV_length, List.length_set]; omega
  refine ⟨hl3, .inr ⟨g, c, _, rfl, hg, hs, h1, h2, ?_, ?_⟩⟩
  · have := congrArg Array.size ecur
    simp only [List.size_toArray, List.length_append] at this ⊢
    have e5 : (ckC r).length = (ckC X[j]).length := rfl
    omega
  · show List.take (n * 5) (cksV (X.take j) ++ ckC r ++ (cksV (X.drop (j + 1)) ++ Z)) = _
    rw [← List.append_assoc, ← e3, ← hl3, List.take_left]

attribute [local go_sem ↓] ldCk_eq
attribute [local go_sem ↓] stCk_eq
/-- what inEpoch hands back: an error, or a chunk by itself -/
def EpochNo (x : Int) (w : World) (e : Ending) (w' : World) : Prop :=
  e = .returned (.tuple #[.agg #[.int .i64 0, .int .i64 0, .int .i64 0, .slice none 0 0, .slice none 0 0], .int .i64 x]) ∧ Below w.heap.size w w'
def EpochYes (k : Chk) (w : World) (e : Ending) (w' : World) : Prop :=
  ∃ r : Ck, r.dat = k ∧ e = .returned (.tuple #[ckA r, .int .i64 0]) ∧ CkOwn w' w.heap.size r ∧ Below w.heap.size w w'
set_option maxRecDepth 100000 in
set_option maxHeartbeats 2000000 in
theorem VinEpoch_none (g : Nat) (s : St) (id ep : Int) (w : World) (h : StAt w g s) (hf : StFit s) (ho : OrdS s) (hn : findS s id = none) :
    Calls Tryz.prog 88 #[.pointer (some ⟨g, 0, none⟩), .int .i64 id, .int .i64 ep] w (EpochNo 7 w) := by
  obtain ⟨w1, hw1, hb1, hr1⟩ := ck_box w ck0
  simp only [ck0, Sl.nil] at hw1 hr1
  have KC := Lib.hid (VChunk g s id w1 (h.below hb1) hf ho)
  rw [hn] at KC
  have Hb1 := Lib.hid hb1; have Hr1 := Lib.hid hr1
  clear h hf ho hn hb1 hr1
  unfold ChunkRet at KC
  simp only at KC
  go_enter Tryz.func88, Tryz.ntmps88
  go_wp2_with fail
  refine KC.out.mono ?_
  rintro e w2 ⟨rfl, hb2⟩
  obtain ⟨wz, w3, hwz, hst9, hb3, hr3⟩ := ck_new w2 ck0
  simp only [ck0, Sl.nil] at hst9 hr3
  obtain ⟨w4, hst, hr4, ht4⟩ := stCk_run (row_below (row_below Hr1.out hb2) hb3) rfl ck0
  simp only [ck0, Sl.nil] at hst hr4
  have Hb3 := Lib.hid (Hb1.out.trans ((hb2.trans (hb3.mono hb2.size)).mono Hb1.out.size)); have Hr4 := Lib.hid hr4; have Ht4 := Lib.hid ht4
  clear hb2 hb3 hr3 hr4 ht4 hw1
  go_wp2
  refine bodyPost_ret (v := .tuple #[.agg #[.int .i64 0, .int .i64 0, .int .i64 0, .slice none 0 0, .slice none 0 0], .int .i64 7]) (results_cell_2 rfl _ _ w.heap.size 47 #[.int .i64 0, .int .i64 0, .int .i64 0, .slice none 0 0, .slice none 0 0] (0, 0) _ (.int .i64 7) rfl rfl Hr4.out Tryz.underlying47 rfl ck_size) rfl ?_
  exact ⟨rfl, Hb3.out.trans (Ht4.out.below (fun k e => by omega) Hb3.out.size)⟩
set_option maxRecDepth 100000 in
set_option maxHeartbeats 2000000 in
theorem VinEpoch_old (g : Nat) (s : St) (id ep : Int) (i j : Nat) (k : Chk) (w : World) (h : StAt w g s) (hf : StFit s) (ho : OrdS s) (hn : findS s id = some (i, j, k)) (he : k.ep ≠ ep) :
    Calls Tryz.prog 88 #[.pointer (some ⟨g, 0, none⟩), .int .i64 id, .int .i64 ep] w (EpochNo 10 w) := by
  obtain ⟨w1, hw1, hb1, hr1⟩ := ck_box w ck0
  simp only [ck0, Sl.nil] at hw1 hr1
  have KC := Lib.hid (VChunk g s id w1 (h.below hb1) hf ho)
  rw [hn] at KC
  have Hb1 := Lib.hid hb1; have Hr1 := Lib.hid hr1
  clear h hf ho hn hb1 hr1
  unfold ChunkRet at KC
  simp only at KC
  go_enter Tryz.func88, Tryz.ntmps88
  go_wp2_with fail
  refine KC.out.mono ?_
  rintro e w2 ⟨r, rfl, rfl, hown, hb2⟩
  unfold ckA
  obtain ⟨wz, w3, hwz, hst9, hb3, hr3⟩ := ck_new w2 r
  have d2 : w3.cell? ⟨w2.heap.size, 2, none⟩ = some (.int .i64 r.ep) := row_cell hr3 2
  obtain ⟨w4, hst, hr4, ht4⟩ := stCk_run (row_below (row_below Hr1.out hb2) hb3) rfl ck0
  simp only [ck0, Sl.nil] at hst hr4
  have Hb3 := Lib.hid (Hb1.out.trans ((hb2.trans (hb3.mono hb2.size)).mono Hb1.out.size)); have Hr4 := Lib.hid hr4; have Ht4 := Lib.hid ht4
  have hd : (r.ep != ep) = true := by simpa [Ck.dat] using he
  clear hb2 hb3 hr3 hr4 ht4 hw1 hown he
  go_wp2
  refine bodyPost_ret (v := .tuple #[.agg #[.int .i64 0, .int .i64 0, .int .i64 0, .slice none 0 0, .slice none 0 0], .int .i64 10]) (results_cell_2 rfl _ _ w.heap.size 47 #[.int .i64 0, .int .i64 0, .int .i64 0, .slice none 0 0, .slice none 0 0] (0, 0) _ (.int .i64 10) rfl rfl Hr4.out Tryz.underlying47 rfl ck_size) rfl ?_
  exact ⟨rfl, Hb3.out.trans (Ht4.out.below (fun k e => by omega) Hb3.out.size)⟩
set_option maxRecDepth 100000 in
set_option maxHeartbeats 2000000 in
theorem VinEpoch_yes (g : Nat) (s : St) (id : Int) (i j : Nat) (k : Chk) (w : World) (h : StAt w g s) (hf : StFit s) (ho : OrdS s) (hn : findS s id = some (i, j, k)) :
    Calls Tryz.prog 88 #[.pointer (some ⟨g, 0, none⟩), .int .i64 id, .int .i64 k.ep] w (EpochYes k w) := by
  obtain ⟨w1, hw1, hb1, hr1⟩ := ck_box w ck0
  simp only [ck0, Sl.nil] at hw1 hr1
  have KC := Lib.hid (VChunk g s id w1 (h.below hb1) hf ho)
  rw [hn] at KC
  have Hb1 := Lib.hid hb1; have Hr1 := Lib.hid hr1
  clear h hf ho hn hb1 hr1
  unfold ChunkRet at KC
  simp only at KC
  go_enter Tryz.func88, Tryz.ntmps88
  go_wp2_with fail
  refine KC.out.mono ?_
  rintro e w2 ⟨r, rfl, rfl, hown, hb2⟩
  unfold ckA
  obtain ⟨wz, w3, hwz, hst9, hb3, hr3⟩ := ck_new w2 r
  have d2 : w3.cell? ⟨w2.heap.size, 2, none⟩ = some (.int .i64 r.ep) := row_cell hr3 2
  have hld := ldCk_run (CkAt.of_row hr3)
  have hr31 := row_below (row_below Hr1.out hb2) hb3
  obtain ⟨w4, hst, hr4, ht4⟩ := stCk_run hr31 rfl r
  have Hb3 := Lib.hid (Hb1.out.trans ((hb2.trans (hb3.mono hb2.size)).mono Hb1.out.size)); have Hr4 := Lib.hid hr4; have Ht4 := Lib.hid ht4; have Hr31 := Lib.hid hr31
  have Hown := Lib.hid ((hown.below hb3).base Hb1.out.size)
  have hd : (r.ep != r.ep) = false := by simp
  have hd2 : (r.dat.ep) = r.ep := rfl
  clear hb2 hb3 hr3 hr4 ht4 hw1 hown hr31
  go_wp2
  refine bodyPost_ret (v := .tuple #[ckA r, .int .i64 0]) (results_cell_2 rfl _ _ w.heap.size 47 #[.int .i64 r.id, .int .i64 r.vo, .int .i64 r.ep, .slice r.m.A r.m.n r.m.c, .slice r.j.A r.j.n r.j.c] (0, 0) _ (.int .i64 0) rfl rfl Hr4.out Tryz.underlying47 rfl ck_size) rfl ?_
  refine ⟨r, rfl, rfl, Hown.out.turned Ht4.out (fun b e cs fr hb => ?_), Hb3.out.trans (Ht4.out.below (fun k e => by omega) Hb3.out.size)⟩
  subst e
  rw [Hr31.out] at hb
  injection hb with hb
  injection hb with _ hb
  exact absurd hb (by decide)
end Go.Proofs.YtmdmpliiiecmlaaGreat
end

section
namespace Go.Proofs.YtmdmpliiiecmlaaGreat
open Go.ChangeShapes Go.WideShapes Go.ChangeAt Go.RowKit
set_option linter.unusedVariables false

def updN {α : Type} (F : Nat → α) (i : Nat) (x : α) : Nat → α := fun j => if j = i then x else F j
theorem updN_same {α : Type} {F : Nat → α} {i : Nat} {x : α} : updN F i x i = x := if_pos rfl
theorem updN_other {α : Type} {F : Nat → α} {i j : Nat} {x : α} (h : j ≠ i) : updN F i x j = F j := if_neg h
theorem set_get {cs : Array Value} {i j : Nat} {v : Value} (h : j ≠ i) : (cs.setIfInBounds i v)[j]? = cs[j]? := by
  rw [Array.getElem?_setIfInBounds, if_neg (fun e => h e.symm)]
theorem set_get_same {cs : Array Value} {i : Nat} {v : Value} (h : i < cs.size) : (cs.setIfInBounds i v)[i]? = some v := by
  rw [Array.getElem?_setIfInBounds, if_pos rfl, if_pos h]
/-- other chunks of a volume -/
theorem StC.setKs {w w' : World} {g : Nat} {cs : Array Value} {s : St} {K : Nat → Sl} {X : Nat → List Ck} (h : StC w g cs s K X) {i : Nat} (hi : i < 64) {S : Sl} {Y : List Ck}
    (hr : w'.heap[g]? = some (.cells (cs.setIfInBounds (16 + i * 7 + 6) (.slice S.A S.n S.c)) 61 (0, 0))) (hY : KsT w' S Y) (hk : ∀ q, q < 64 → q ≠ i → KsT w' (K q) (X q)) :
    StC w' g (cs.setIfInBounds (16 + i * 7 + 6) (.slice S.A S.n S.c)) (setV s i { s.vs i with ks := Y.map Ck.dat }) (updN K i S) (updN X i Y) := by
  have e : ∀ q, ((setV s i { s.vs i with ks := Y.map Ck.dat }).vs q).bl = (s.vs q).bl ∧ ((setV s i { s.vs i with ks := Y.map Ck.dat }).vs q).p = (s.vs q).p ∧ ((setV s i { s.vs i with ks := Y.map Ck.dat }).vs q).ver = (s.vs q).ver := fun q => by
    by_cases hq : q = i
    · subst hq; rw [setV_same]; exact ⟨rfl, rfl, rfl⟩
    · rw [setV_other hq]; exact ⟨rfl, rfl, rfl⟩
  refine ⟨hr, by rw [Array.size_setIfInBounds]; exact h.size, fun q hq => ?_, fun q hq => ?_, fun q hq => ?_, fun q hq => ?_, fun q hq => ?_, fun q hq => ?_, fun q hq => ?_, fun q hq => ?_, ?_, fun q hq => ?_, fun q hq => ?_⟩
  · rw [set_get (by omega)]; exact h.pk q hq
  · rw [set_get (by omega), (e q).1]; exact h.c0 q hq
  · rw [set_get (by omega), (e q).2.1]; exact h.c1 q hq
  · rw [set_get (by omega), (e q).2.1]; exact h.c2 q hq
  · rw [set_get (by omega), (e q).2.1]; exact h.c3 q hq
  · rw [set_get (by omega), (e q).2.1]; exact h.c4 q hq
  · rw [set_get (by omega), (e q).2.2]; exact h.c5 q hq
  · by_cases hqi : q = i
    · subst hqi
      rw [set_get_same (by rw [h.size]; omega), updN_same]
    · rw [set_get (by omega), updN_other hqi]; exact h.c6 q hq
  · rw [set_get (by omega)]; exact h.md
  · by_cases hqi : q = i
    · subst hqi; rw [updN_same, updN_same]; exact hY
    · rw [updN_other hqi, updN_other hqi]; exact hk q hq hqi
  · by_cases hqi : q = i
    · subst hqi; rw [updN_same, setV_same]
    · rw [updN_other hqi, setV_other hqi]; exact h.dat q hq
theorem KsT.own {w : World} {B n c : Nat} {A : Option Addr} {X : List Ck} (h : w.ownsRow B 47 5 (.slice A n c) n (cksV X)) (hk : ∀ k ∈ X, CkOk w k) : KsT w ⟨A, n, c⟩ X := by
  refine ⟨?_, (own_capL h).1, (own_capL h).2, SeenT.own h, hk⟩
  have := h.1
  rw [cksV_length] at this
  simp only
  omega
theorem noCk_own {w : World} {p : Nat → Prop} (h : ∀ b, p b → ∀ cs T fr, w.heap[b]? = some (.cells cs T fr) → T ≠ 3 ∧ T ≠ 47) : NoCk w p :=
  ⟨fun k cs fr hk e => (h k hk cs _ fr e).1 rfl, fun k cs fr hk e => (h k hk cs _ fr e).2 rfl⟩
attribute [local go_sem ↓] ldCk_eq
attribute [local go_sem ↓] stCk_eq
set_option maxRecDepth 100000 in
set_option maxHeartbeats 2000000 in
theorem Vrenew (g : Nat) (s : St) (i j : Nat) (k0 : Chk) (r : Ck) (w : World) (h : StAt w g s) (hf : StFit s) (ho : OrdS s) (hat : FoundAt s r.id i j k0) (hok : CkOk w r) (h0 : 0 ≤ r.ep) (h1 : r.ep ≤ 35184372088832) :
    Calls Tryz.prog 91 #[.pointer (some ⟨g, 0, none⟩), ckA r] w fun e w' => e = .returned (.tuple #[]) ∧ StAt w' g (renewS s i j r.dat) ∧ Turned (fun k => k = g) w w' := by
  unfold ckA
  obtain ⟨w1, hw1, hb1, hr1⟩ := ck_box w r
  have KF := Lib.hid (Vfind g s r.id w1 (h.below hb1) hf ho)
  rw [ho.find hat] at KF
  unfold findV at KF
  obtain ⟨cs, K, X, h⟩ := h
  have hgl := h.lt
  obtain ⟨hi, hj, hid⟩ := hat
  have hXl : j < (X i).length := by
    rw [← h.dat i hi, List.getElem?_map, Option.map_eq_some_iff] at hj
    obtain ⟨q, hq, _⟩ := hj
    exact (List.getElem?_eq_some_iff.1 hq).1
  have hX64 : (X i).length ≤ 64 := by
    have := (hf.vs i hi).kl
    rwa [← h.dat i hi, List.length_map] at this
  obtain ⟨N, hN⟩ : ∃ N, (X i).length = N := ⟨_, rfl⟩
  have HX := Lib.hid hXl
  rw [hN] at hXl hX64
  have HN := Lib.hid hN
  clear hN
  have H := Lib.hid h; have Hb1 := Lib.hid hb1; have Hr1 := Lib.hid hr1; have Hok := Lib.hid hok
  have x0 : w1.cell? ⟨w.heap.size, 0, none⟩ = some (.int .i64 r.id) := row_cell hr1 0
  clear h hf ho hid hj hok hr1 hb1
  go_enter Tryz.func91, Tryz.ntmps91
  go_wp2_with fail
  refine KF.out.mono ?_
  rintro e w2 ⟨rfl, hb2⟩
  have hr2 := row_below Hr1.out hb2
  have x2 : w2.cell? ⟨w.heap.size, 2, none⟩ = some (.int .i64 r.ep) := row_cell hr2 2
  have z2 := row_frozen hr2 2
  obtain ⟨w3, hw3⟩ : ∃ w3, w2.setCell ⟨w.heap.size, 2, none⟩ (.int .i64 (r.ep + 1)) = w3 := ⟨_, rfl⟩
  have hr3 : w3.heap[w.heap.size]? = some (.cells #[.int .i64 r.id, .int .i64 r.vo, .int .i64 (r.ep + 1), .slice r.m.A r.m.n r.m.c, .slice r.j.A r.j.n r.j.c] 47 (0, 0)) := by rw [← hw3, row_set hr2]; rfl
  have hb12 := Hb1.out.trans (hb2.mono Hb1.out.size)
  have hb3 : Below w.heap.size w w3 := by rw [← hw3]; exact hb12.setCell (p := ⟨w.heap.size, 2, none⟩) (Nat.le_refl _) _
  have h3 := H.out.below hb3
  have c6 : w3.cell? ⟨g, 16 + i * 7 + 6, none⟩ = some (.slice (K i).A (K i).n (K i).c) := by rw [h3.cell]; exact h3.c6 i hi
  have KK0 := VCloneK (K i) (X i) w3 (h3.ks i hi) (by have := HN.out; omega) (by have := HN.out; omega)
  unfold CloneKRet at KK0
  rw [HN.out] at KK0
  have KK := Lib.hid KK0
  clear KK0
  have Hr3 := Lib.hid hr3; have Hb3 := Lib.hid hb3; have H3 := Lib.hid h3
  clear hb2 hr2 hr3 hb12 hb3 h3
  go_upto_region 3 with fail
  go_wp2_with fail
  refine KK.out.mono ?_
  rintro e w4 ⟨gr, cr, rfl, hown4, hb4⟩
  have h4 := H3.out.below hb4
  have z6 : w4.frozen? ⟨g, 16 + i * 7 + 6, none⟩ = false := row_frozen h4.row _
  have c64 : w4.cell? ⟨g, 16 + i * 7 + 6, none⟩ = some (.slice (K i).A (K i).n (K i).c) := by rw [h4.cell]; exact h4.c6 i hi
  have hgr := (hown4.lt gr rfl).1
  have hlt3 := (Array.getElem?_eq_some_iff.1 Hr3.out).1
  have hg3 : g < w3.heap.size := H3.out.lt
  obtain ⟨w5, hw5⟩ : ∃ w5, w4.setCell ⟨g, 16 + i * 7 + 6, none⟩ (.slice (some ⟨gr, 0, none⟩) N cr) = w5 := ⟨_, rfl⟩
  have ht5 : Turned (fun k => k = g) w4 w5 := by rw [← hw5]; exact (Turned.refl (fun k => k = g) w4).setCell (b := ⟨g, 16 + i * 7 + 6, none⟩) (fun _ => rfl) _
  have hr5 : w5.heap[g]? = some (.cells (cs.setIfInBounds (16 + i * 7 + 6) (.slice (some ⟨gr, 0, none⟩) N cr)) 61 (0, 0)) := by rw [← hw5]; exact row_set h4.row _ _
  have d6 : w5.cell? ⟨g, 16 + i * 7 + 6, none⟩ = some (.slice (some ⟨gr, 0, none⟩) N cr) := by
    rw [row_cell hr5, set_get_same (by rw [h4.size]; omega)]
  have hown5 := own_turnedM ht5 hown4 (fun k hk e => by injection hk with hk; simp only at hk; omega)
  have hbox5 := ht5.heap (row_below Hr3.out hb4) (by omega)
  have hldb := ldCk_run (k := { r with ep := r.ep + 1 }) (CkAt.of_row (w := w5.drew) hbox5)
  obtain ⟨w6, hst, hown6, ht6⟩ := ks_set (w := w5.drew) (j := j) hown5 HX.out { r with ep := r.ep + 1 }
  simp only at hldb hst
  have Hst := Lib.hid hst; have Hld := Lib.hid hldb; have H4 := Lib.hid h4; have Hb4 := Lib.hid hb4; have Ht5 := Lib.hid ht5; have Hr5 := Lib.hid hr5; have Hown6 := Lib.hid hown6; have Ht6 := Lib.hid ht6
  have d6' : w5.drew.cell? ⟨g, 16 + i * 7 + 6, none⟩ = some (.slice (some ⟨gr, 0, none⟩) N cr) := d6
  clear hown4 hb4 h4 ht5 hr5 hown5 hown6 ht6 hbox5 hst hldb d6 x0 x2 z2 hw1
  have j0 : (0 : Int) ≤ (j : Int) := by omega
  have j1 : (j : Int) < (N : Int) := by omega
  go_upto_region 4 with fail
  have hst := Hst.out; have hldb := Hld.out
  go_region
  all_goals
    go_wp2
    go_end0
    have t1 : Turned (fun k => k = g) w3 w6 :=
      (((Turned.of_below (p := fun k => k = g) Hb4.out).trans Ht5.out (r := fun k => k = g) (fun _ e => e) (fun _ _ e => e)).trans (r := fun k => k = g) (Turned.of_below (p := fun k => k = g) (Below.refl _ _).drew) (fun _ e => e) (fun _ _ e => e)).trans Ht6.out (fun _ e => e) (fun k hk e => by omega)
    have hks : ∀ q, q < 64 → KsT w6 (K q) (X q) := fun q hq => (H3.out.ks q hq).turned t1 H3.out.noCk.1 H3.out.noCk.2
    have hr6 : w6.heap[g]? = some (.cells (cs.setIfInBounds (16 + i * 7 + 6) (.slice (some ⟨gr, 0, none⟩) N cr)) 61 (0, 0)) := Ht6.out.heap (w := w5.drew) Hr5.out (by omega)
    have hrn : CkOk w6 { r with ep := r.ep + 1 } := by
      have := (Hok.out.below Hb3.out).turned t1 H3.out.noCk.1
      exact ⟨this.m, this.j⟩
    have hown : w6.ownsRow w3.heap.size 47 5 (.slice (some ⟨gr, 0, none⟩) N cr) N (cksV ((X i).set j { r with ep := r.ep + 1 })) := Hown6.out
    have hst6 := H4.out.setKs (w' := w6) hi (S := ⟨some ⟨gr, 0, none⟩, N, cr⟩) (Y := (X i).set j { r with ep := r.ep + 1 }) hr6 (KsT.own hown (fun k hk => by
      rcases List.mem_or_eq_of_mem_set hk with hk | rfl
      · exact (hks i hi).ok k hk
      · exact hrn)) (fun q hq _ => hks q hq)
    have e1 : renewS s i j r.dat = setV s i { s.vs i with ks := ((X i).set j { r with ep := r.ep + 1 }).map Ck.dat } := by
      unfold renewS
      rw [List.map_set, H3.out.dat i hi]
      rfl
    rw [e1]
    exact ⟨rfl, ⟨_, _, _, hst6⟩, (Turned.of_below (p := fun k => k = g) Hb3.out).trans t1 (fun _ e => e) (fun _ _ e => e)⟩
end Go.Proofs.YtmdmpliiiecmlaaGreat
end
