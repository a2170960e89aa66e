/-
  Contracts of slices.Contains, Clone, Equal, Sort and DeleteFunc at []int, of slices.Clone at chunks, in the words of this program's lists; of has and without. Conditions: how the slices lie.
-/
import Derived.Test.YtcaaakoahaoooaaVolBs
import Derived.Test.YtcaaakoahaoooaaShelf
import Derived.Lib.OwnBridge
import Derived.Sort.OwnSortedInts
namespace Go.Proofs.Ytcaaakoahaoooaa
open Go.ChangeShapes Go.WideShapes Go.ChangeAt Go.RowKit Go.Sort
set_option linter.unusedVariables false

theorem seen_ints {w : World} {A : Option Addr} {xs : List Int} (h : Seen w A (numsV xs)) (h0 : 0 < xs.length) :
    ∃ b off, A = some ⟨b, off, none⟩ ∧ ∀ j, j < xs.length → w.cell? ⟨b, off + j, none⟩ = some (.int .i64 (xs.getD j 0)) := by
  rcases h with h | ⟨g, o, hA, hc⟩
  · have : xs = [] := by simpa [numsV] using h
    subst this; simp at h0
  · refine ⟨g, o, hA, fun j hj => hc j _ ?_⟩
    simp only [numsV, List.getElem?_map, List.getElem?_eq_getElem hj, Option.map_some, List.getD_eq_getElem?_getD, Option.getD_some]
theorem VContains (s : Sl) (us : List Int) (x : Int) (w : World) (h : IntsT w s us) (hl : us.length ≤ 1000000) :
    Calls Try.prog 57 #[.slice s.A s.n s.c, .int .i64 x] w fun e w' => e = .returned (.bool (decide (x ∈ us))) ∧ w = w' := by
  obtain ⟨A, n, c⟩ := s
  have h1 := h.len; have h3 := h.see.1
  simp only at h1 h3 hl ⊢
  have hc : us.contains x = decide (x ∈ us) := by rw [List.contains_eq_mem]
  rw [← hc]
  by_cases h0 : n = 0
  · subst h0
    obtain rfl := List.length_eq_zero_iff.1 h1
    exact (Any.slices_Contains_int_empty Try.intsContains A c x w).mono fun e w' h => ⟨h.1, h.2.symm⟩
  · obtain ⟨b, off, rfl, hcl⟩ := seen_ints h3 (by omega)
    have := Any.slices_Contains_int Try.intsContains b off n c us x w (by omega) (by omega) hcl
    rw [List.take_of_length_le (by omega)] at this
    exact this.mono fun e w' h => ⟨h.1, h.2.symm⟩
/-- a slice of ints that the call laid itself, or none -/
def IntsRet (us : List Int) (w : World) (e : Ending) (w' : World) : Prop :=
  ∃ s : Sl, e = .returned (.slice s.A s.n s.c) ∧ w'.ownsRow w.heap.size 3 1 (.slice s.A s.n s.c) s.n (numsV us) ∧ Below w.heap.size w w'
theorem VClone (s : Sl) (us : List Int) (w : World) (h : IntsT w s us) (hl : us.length ≤ 1000000) :
    Calls Try.prog 36 #[.slice s.A s.n s.c] w (IntsRet us w) := by
  obtain ⟨A, n, c⟩ := s
  have h1 := h.len; have h3 := h.see.1
  simp only at h1 h3 hl ⊢
  by_cases h0 : n = 0
  · subst h0
    obtain rfl := List.length_eq_zero_iff.1 h1
    cases A with
    | none =>
      refine (Any.slices_Clone_int_nil Try.intsClone 0 c w).mono ?_
      rintro e w' ⟨rfl, rfl⟩
      exact ⟨Sl.nil, rfl, World.ownsRow_nil _ _ _ _, Below.refl _ _⟩
    | some a =>
      refine (Any.slices_Clone_int_zero Try.intsClone a c w).mono ?_
      rintro e w' ⟨v, rfl, hown, hne, hb⟩
      rcases hown.2 with ⟨hv, _⟩ | ⟨g, cap, cur, hv, _⟩
      · exact absurd hv hne
      · subst hv
        exact ⟨⟨some ⟨g, 0, none⟩, 0, cap⟩, rfl, hown, hb⟩
  · obtain ⟨b, off, rfl, hc⟩ := seen_ints h3 (by omega)
    refine (Any.slices_Clone_int Try.intsClone b off n c us w (by omega) (by omega) hc).mono ?_
    rintro e w' ⟨v, rfl, hown, hne, hb⟩
    rw [List.take_of_length_le (by omega)] at hown
    have hown : w'.ownsRow w.heap.size 3 1 v n (numsV us) := hown
    obtain ⟨g, cap, rfl, hg, _⟩ := hown.form (by omega)
    exact ⟨⟨some ⟨g, 0, none⟩, n, cap⟩, rfl, hown, hb⟩
theorem VEqual (s t : Sl) (us vs : List Int) (w : World) (h : IntsT w s us) (k : IntsT w t vs) (hl : us.length ≤ 1000000) :
    Calls Try.prog 72 #[.slice s.A s.n s.c, .slice t.A t.n t.c] w fun e w' => e = .returned (.bool (decide (us = vs))) ∧ Below w.heap.size w w' := by
  obtain ⟨A, n, c⟩ := s
  obtain ⟨A2, m, c2⟩ := t
  have h1 := h.len; have h3 := h.see.1
  have k1 := k.len; have k3 := k.see.1
  simp only at h1 h3 k1 k3 hl ⊢
  by_cases hnm : n = m
  · subst hnm
    by_cases h0 : n = 0
    · subst h0
      obtain rfl := List.length_eq_zero_iff.1 h1
      obtain rfl := List.length_eq_zero_iff.1 k1
      refine (Any.slices_Equal_int_empty Try.intsEqual A A2 c 0 c2 w (by omega)).mono ?_
      rintro e w' ⟨rfl, rfl⟩
      exact ⟨bool_eq (by simp), Below.refl _ _⟩
    · obtain ⟨b, off, rfl, hc⟩ := seen_ints h3 (by omega)
      obtain ⟨b2, off2, rfl, hc2⟩ := seen_ints k3 (by omega)
      refine (Any.slices_Equal_int Try.intsEqual b off n c b2 off2 n c2 us vs w (by omega) (by omega) (by omega) (by omega) hc hc2).mono ?_
      rintro e w' ⟨rfl, q, rfl⟩
      rw [List.take_of_length_le (by omega), List.take_of_length_le (by omega)]
      refine ⟨bool_eq ?_, below_drewN (Below.refl _ _) _⟩
      rw [Bool.eq_iff_iff]; simp
  · refine (Any.slices_Equal_int_lens Try.intsEqual A A2 n c m c2 w hnm).mono ?_
    rintro e w' ⟨rfl, rfl⟩
    refine ⟨bool_eq ?_, Below.refl _ _⟩
    rw [eq_comm, decide_eq_false_iff_not]
    rintro rfl
    omega
/-- numbers in their order -/
def sortI (xs : List Int) : List Int := xs.mergeSort fun x y => decide (x ≤ y)
theorem sortI_length (xs : List Int) : (sortI xs).length = xs.length := List.length_mergeSort _
theorem VSort (B : Nat) (A : Option Addr) (n c : Nat) (xs : List Int) (w : World) (hl : n ≤ 1000000) (h : w.ownsRow B 3 1 (.slice A n c) n (numsV xs)) :
    Calls Try.prog 34 #[.slice A n c] w fun e w' => e = .returned (.tuple #[]) ∧ w'.ownsRow B 3 1 (.slice A n c) n (numsV (sortI xs)) ∧ Turned (fun k => (Value.slice A n c).ownBlock = some k) w w' := by
  have hlen : xs.length = n := by have := h.1; rw [numsV_length] at this; omega
  subst hlen
  by_cases h0 : xs.length = 0
  · obtain rfl := List.length_eq_zero_iff.1 h0
    refine (Any.slices_Sort_int_none Try.intsSort A c w).mono ?_
    rintro e w' ⟨rfl, rfl⟩
    exact ⟨rfl, by simpa [sortI] using h, Turned.refl _ _⟩
  rcases h.2 with ⟨e0, e1⟩ | ⟨g, cap, cur, e0, hb, hg, hn, hm, hs, ht⟩
  · exact absurd e1 h0
  injection e0 with e1 _ e3
  subst e1; subst e3
  rw [Nat.mul_one] at ht
  have hH := holds_of_blockI (ss := xs) hg ht
  refine (Any.slices_Sort_int Try.intsSort g 0 c xs w hH (Array.getElem?_eq_some_iff.1 hg).1 (by omega)).mono ?_
  rintro e w' ⟨rfl, n, os, rfl⟩
  refine ⟨rfl, ownsRow_sortedI (ss := xs) (List.length_mergeSort _) hb hg hn hm hs, Turned.of_grown (grownBy_sortedI _) fun k e => ?_⟩
  injection e with e
  subst e
  rfl

theorem turned_putRow {α : Type} [Inhabited α] {enc : α → Value} {w : World} {g q : Nat} {d : Array α} : Turned (fun k => k = g) w (putRow enc (Sort.ahead w q) g 0 d) :=
  ⟨rfl, rfl, rfl, by simp [putRow, mapBlock, Sort.ahead], fun k hk hn => by
    show (w.heap.modify g _)[k]? = _
    rw [Array.getElem?_modify, if_neg (fun e => hn e.symm)]⟩
/-- a row of which what the predicate tells is struck -/
theorem IDeleteFunc (B g n c : Nat) (fn : Nat) (lb : Array Value) (p : Int → Bool) (xs : List Int) (w : World) (hB : B ≤ g) (h : w.ownsRow B 3 1 (.slice (some ⟨g, 0, none⟩) n c) n (numsV xs))
    (eg : ∀ args w, (callFunc fn args).run Try.prog w = .ok (.enter fn args) w) (hp : PredAt Try.prog fn lb (Value.int .i64) p w) (hpo : PredOver Try.prog fn lb (Value.int .i64) p g 0 n w) :
    Calls Try.prog 94 #[.slice (some ⟨g, 0, none⟩) n c, .func (.func fn) #[] lb] w fun e w' => e = .returned (.slice (some ⟨g, 0, none⟩) (xs.filter fun x => !p x).length c) ∧ w'.ownsRow B 3 1 (.slice (some ⟨g, 0, none⟩) (xs.filter fun x => !p x).length c) (xs.filter fun x => !p x).length (numsV (xs.filter fun x => !p x)) ∧ Turned (fun k => k = g) w w' := by
  have hlen : xs.length = n := by have := h.1; rw [numsV_length] at this; omega
  obtain ⟨g', cap, e0, hb, hlt, hn, hm, _, hH⟩ := Lib.holds_of_ownsRow (enc := Value.int .i64) (zs := xs) h (by simp)
  injection e0 with e1 _ e3
  injection e1 with e1
  injection e1 with e1
  subst e1; subst e3
  have hsz : xs.toArray.size = n := by simpa using hlen
  have hC := AnyE.slices_DeleteFunc Try.deleteFuncA (Value.int .i64) (fun _ => rfl) p fn lb eg 0 Try.zeroValue3 g 0 c xs.toArray w hp (by rw [hsz]; exact hpo) hH (by rw [hsz]; unfold maxLen at hm; omega) (by rw [hsz]; omega)
  rw [hsz] at hC
  refine hC.mono ?_
  rintro e w' ⟨rfl, q, rfl⟩
  refine ⟨rfl, ?_, turned_putRow⟩
  have hk := List.length_filter_le (fun x => !p x) xs
  have hy : ((xs.filter fun x => !p x) ++ List.replicate (n - (xs.filter fun x => !p x).length) 0).length = n := by
    simp only [List.length_append, List.length_replicate]; omega
  have := Lib.ownsRow_putRow (enc := Value.int .i64) (zs := xs) (ys := (xs.filter fun x => !p x) ++ List.replicate (n - (xs.filter fun x => !p x).length) 0) (q := q) (k := (xs.filter fun x => !p x).length) h hy (by omega)
  rw [List.take_left] at this
  exact this


/-- the closure of without -/
theorem gives_eq (g : Nat) (id x : Int) (W : World) (hg : W.cell? ⟨g, 0, none⟩ = some (.int .i64 id)) :
    FnGives Try.prog 95 #[.pointer (some ⟨g, 0, none⟩)] #[.int .i64 x] (.bool (decide (x = id))) W := by
  show Calls Try.prog 95 #[.int .i64 x, .pointer (some ⟨g, 0, none⟩)] W _
  go_enter Try.func95, Try.ntmps95
  go_wp2
  all_goals (go_ret; exact ⟨by congr 2, 0, rfl⟩)
/-- what without hands back: the same row, but id is struck -/
def WithoutRet (B : Nat) (v : Value) (us : List Int) (w : World) (e : Ending) (w' : World) : Prop :=
  ∃ s : Sl, e = .returned (.slice s.A s.n s.c) ∧ w'.ownsRow B 3 1 (.slice s.A s.n s.c) s.n (numsV us) ∧ (∀ b, (Value.slice s.A s.n s.c).ownBlock = some b → v.ownBlock = some b) ∧ Turned (fun k => v.ownBlock = some k) w w'
set_option maxRecDepth 100000 in
theorem Vwithout (B : Nat) (s : Sl) (us : List Int) (id : Int) (w : World) (h : w.ownsRow B 3 1 (.slice s.A s.n s.c) s.n (numsV us)) (hB : B ≤ w.heap.size) :
    Calls Try.prog 73 #[.slice s.A s.n s.c, .int .i64 id] w (WithoutRet B (.slice s.A s.n s.c) (withoutL us id) w) := by
  have hmk : ∀ (fn : Fn) (first cap : Array Value) (w : World), (Instr.makeFunc fn first cap).run Try.prog w = .ok (.func fn first cap) w := fun _ _ _ _ => rfl
  obtain ⟨A, n, c⟩ := s
  simp only at h ⊢
  obtain ⟨w1, hw1⟩ : ∃ w1, w.alloc (.cells #[.int .i64 id] 3) = w1 := ⟨_, rfl⟩
  have hb1 : Below w.heap.size w w1 := by rw [← hw1]; exact below_box _ _
  have hg1 : w1.heap[w.heap.size]? = some (.cells #[.int .i64 id] 3 (0, 0)) := by rw [← hw1]; exact heap_alloc_new _ _
  have h1 := own_belowM h hb1
  have Hb1 := Lib.hid hb1
  have eg : ∀ args w, (callFunc 95 args).run Try.prog w = .ok (.enter 95 args) w := enters_of Try.func95 (by kernel_rfl) rfl
  have eg5 : ∀ args w, (callFunc 105 args).run Try.prog w = .ok (.enter 105 args) w := enters_of Try.func105 (by kernel_rfl) rfl
  have KD : Calls Try.prog 94 #[.slice A n c, .func (.func 95) #[] #[.pointer (some ⟨w.heap.size, 0, none⟩)]] w1 (WithoutRet B (.slice A n c) (withoutL us id) w1) := by
    rcases h1.2 with ⟨hv, hn⟩ | ⟨g, cap, cur, hv, hg, hh, r1, r2, r3, r4⟩
    · injection hv with e1 e2 e3
      subst e1; subst e2; subst e3
      have hus : us = [] := by have := h1.1; rw [numsV_length] at this; exact List.length_eq_zero_iff.1 (by omega)
      subst hus
      have KI := Lib.hid (fun fv => AnyE.slices_IndexFunc_empty Try.indexFuncA none 0 fv w1)
      clear h h1 hw1 hb1 hg1
      go_enter Try.func94, Try.ntmps94
      go_wp2_with (go_at_call 105; refine (KI.out _).mono ?_; rintro e w' ⟨rfl, rfl⟩)
      go_ret
      exact ⟨Sl.nil, rfl, World.ownsRow_nil _ _ _ _, fun b hb => hb, Turned.refl _ _⟩
    · injection hv with e1 _ e3
      subst e1; subst e3
      have hcell : ∀ W, Below w1.heap.size w1 W → W.cell? ⟨w.heap.size, 0, none⟩ = some (.int .i64 id) := fun W hb => by
        rw [hb.cell (Array.getElem?_eq_some_iff.1 hg1).1]
        exact row_cell hg1 0
      have hne : g ≠ w.heap.size := fun e => by
        have := (h.lt g rfl).2
        omega
      have hpa : PredAt Try.prog 95 #[.pointer (some ⟨w.heap.size, 0, none⟩)] (Value.int .i64) (fun x => decide (x = id)) w1 := fun W x hb => gives_eq w.heap.size id x W (hcell W hb)
      have hpo : PredOver Try.prog 95 #[.pointer (some ⟨w.heap.size, 0, none⟩)] (Value.int .i64) (fun x => decide (x = id)) g 0 n w1 := fun m os dk x _ => gives_eq w.heap.size id x _ (by
        unfold sortWorld
        rw [cell?_grow _ _ _ (by show w.heap.size < (putRow _ _ _ _ _).heap.size; rw [size_putRow]; exact (Array.getElem?_eq_some_iff.1 hg1).1), cell?_putRow_other _ _ g 0 _ _ (Or.inl (by show w.heap.size ≠ g; omega))]
        exact hcell w1 (Below.refl _ _))
      refine (IDeleteFunc B g n c _ _ _ us w1 hg h1 eg hpa hpo).mono ?_
      rintro e w' ⟨rfl, hown, hb⟩
      exact ⟨⟨some ⟨g, 0, none⟩, _, c⟩, rfl, hown, fun b hb => hb, hb.mono fun k _ e => by subst e; rfl⟩
  have KD := Lib.hid KD
  clear h h1 hb1 hg1 eg eg5
  go_enter Try.func73, Try.ntmps73
  go_wp2_with (go_at_call 94; refine KD.out.mono ?_; rintro e w' ⟨s', rfl, hown, hbk, hb⟩; have Hown := Lib.hid hown; have Hb := Lib.hid hb; have Hbk := Lib.hid hbk; clear hown hb hbk)
  go_ret
  exact ⟨s', rfl, Hown.out, Hbk.out, (Turned.of_below Hb1.out).trans Hb.out (fun _ e => e) (fun _ _ e => e)⟩

/-! ### has -/
set_option maxRecDepth 100000 in
theorem Vhas (k : Ck) (x : Int) (w : World) (h : CkOk w k) (hm : k.ms.length ≤ 1000000) (hj : k.js.length ≤ 1000000) :
    Calls Try.prog 33 #[ckA k, .int .i64 x] w fun e w' => e = .returned (.bool (hasK x k.dat)) ∧ Below w.heap.size w w' := by
  unfold ckA
  obtain ⟨w1, hw1, hb1, hr⟩ := ck_box w k
  have C1 := Lib.hid (VContains k.m k.ms x w1 (h.m.below hb1) hm)
  have C2 := Lib.hid (VContains k.j k.js x w1 (h.j.below hb1) hj)
  have c3 : w1.cell? ⟨w.heap.size, 3, none⟩ = some (.slice k.m.A k.m.n k.m.c) := row_cell hr 3
  have c4 : w1.cell? ⟨w.heap.size, 4, none⟩ = some (.slice k.j.A k.j.n k.j.c) := row_cell hr 4
  have Hb := Lib.hid hb1
  have e0 : hasK x k.dat = (decide (x ∈ k.ms) || decide (x ∈ k.js)) := rfl
  rw [e0]
  obtain ⟨b1, e1⟩ : ∃ b, decide (x ∈ k.ms) = b := ⟨_, rfl⟩
  obtain ⟨b2, e2⟩ : ∃ b, decide (x ∈ k.js) = b := ⟨_, rfl⟩
  rw [e1, e2]
  rw [e1] at C1
  rw [e2] at C2
  clear e0 e1 e2 h hb1 hr
  cases b1 with
  | true =>
    go_enter Try.func33, Try.ntmps33
    go_wp2_with (go_at_call 57; refine C1.out.mono ?_; rintro e w' ⟨rfl, rfl⟩)
    go_ret
    exact ⟨rfl, Hb.out⟩
  | false =>
    go_enter Try.func33, Try.ntmps33
    go_wp2_with fail
    refine C1.out.mono ?_
    rintro e w' ⟨rfl, rfl⟩
    go_wp2_with fail
    refine C2.out.mono ?_
    rintro e w' ⟨rfl, rfl⟩
    go_wp2
    go_ret
    exact ⟨rfl, Hb.out⟩
end Go.Proofs.Ytcaaakoahaoooaa
