/-
  Joined: VolSli, QuietB, VolPol, VolFnd, VolSto, VolChk. Conditions: each theorem's own.
-/
import Derived.Test.YteebkolccbcehaaGreatJD
import Derived.Test.YteebkolccbcehaaGreatShelf
import Derived.Lib.OwnBridge
import Derived.Sort.OwnSortedInts
import Derived.Test.YteebkolccbcehaaGreatJA
import Derived.Deep.QuietTactic
import Derived.BigQuiet

section
set_option linter.all false
namespace Go.Proofs.YteebkolccbcehaaGreat
open Go.ChangeShapes Go.WideShapes Go.ChangeAt Go.RowKit Go.Sort
theorem ZN {w : World} {A : Option Addr} {xs : List Int} (h : Seen w A (zo xs)) (h0 : 0 < xs.length) :
  ∃ b off, A = some ⟨b, off, none⟩ /\ ∀ j, j < xs.length -> w.cell? ⟨b, off + j, none⟩ = some (.int .i64 (xs.getD j 0)) := by
 rcases h with h | ⟨g, o, hA, hc⟩
 ·have : xs = [] := by simpa [zo] using h
  subst this; simp at h0
 ·refine ⟨g, o, hA, fun j hj => hc j _ ?_⟩
  simp only [zo, List.getElem?_map, List.getElem?_eq_getElem hj, Option.map_some, List.getD_eq_getElem?_getD, Option.getD_some]
theorem Yv (s : Sl) (us : List Int) (x : Int) (w : World) (h : zQ w s us) (hl : us.length <= 1000000) :
  Calls Tryz.prog 85 #[.slice s.A s.n s.c, .int .i64 x] w fun e w' => e = .returned (.bool (decide (x ∈ us))) /\ w = w' := by
 obtain ⟨A, n, c⟩ := s
 have h1 := h.len; have h3 := h.see.1
 simp only at h1 h3 hl ⊢
 have hc : us.contains x = decide (x ∈ us) := by rw [List.contains_eq_mem]
 rw [<- hc]
 by_cases h0 : n = 0
 ·subst h0
  obtain rfl := List.length_eq_zero_iff.1 h1
  exact (Any.slices_Contains_int_empty Tryz.intsContains A c x w).mono fun e w' h => ⟨h.1, h.2.symm⟩
 ·obtain ⟨b, off, rfl, hcl⟩ := ZN h3 (by omega)
  have := Any.slices_Contains_int Tryz.intsContains b off n c us x w (by omega) (by omega) hcl
  rw [List.take_of_length_le (by omega)] at this
  exact this.mono fun e w' h => ⟨h.1, h.2.symm⟩
def IntsRet (us : List Int) (w : World) (e : Ending) (w' : World) : Prop :=
 ∃ s : Sl, e = .returned (.slice s.A s.n s.c) /\ w'.ownsRow w.heap.size 3 1 (.slice s.A s.n s.c) s.n (zo us) /\ Below w.heap.size w w'
theorem VClone (s : Sl) (us : List Int) (w : World) (h : zQ w s us) (hl : us.length <= 1000000) :
  Calls Tryz.prog 69 #[.slice s.A s.n s.c] w (IntsRet us w) := by
 obtain ⟨A, n, c⟩ := s
 have h1 := h.len; have h3 := h.see.1
 simp only at h1 h3 hl ⊢
 by_cases h0 : n = 0
 ·subst h0
  obtain rfl := List.length_eq_zero_iff.1 h1
  cases A with
  | none =>
   refine (Any.slices_Clone_int_nil Tryz.intsClone 0 c w).mono ?_
   rintro e w' ⟨rfl, rfl⟩
   exact ⟨Sl.nil, rfl, World.ownsRow_nil _ _ _ _, Below.refl _ _⟩
  | some a =>
   refine (Any.slices_Clone_int_zero Tryz.intsClone a c w).mono ?_
   rintro e w' ⟨v, rfl, hown, hne, hb⟩
   rcases hown.2 with ⟨hv, _⟩ | ⟨g, cap, cur, hv, _⟩
   ·exact absurd hv hne
   ·subst hv
    exact ⟨⟨some ⟨g, 0, none⟩, 0, cap⟩, rfl, hown, hb⟩
 ·obtain ⟨b, off, rfl, hc⟩ := ZN h3 (by omega)
  refine (Any.slices_Clone_int Tryz.intsClone b off n c us w (by omega) (by omega) hc).mono ?_
  rintro e w' ⟨v, rfl, hown, hne, hb⟩
  rw [List.take_of_length_le (by omega)] at hown
  have hown : w'.ownsRow w.heap.size 3 1 v n (zo us) := hown
  obtain ⟨g, cap, rfl, hg, _⟩ := hown.form (by omega)
  exact ⟨⟨some ⟨g, 0, none⟩, n, cap⟩, rfl, hown, hb⟩
theorem VEqual (s t : Sl) (us vs : List Int) (w : World) (h : zQ w s us) (k : zQ w t vs) (hl : us.length <= 1000000) :
  Calls Tryz.prog 81 #[.slice s.A s.n s.c, .slice t.A t.n t.c] w fun e w' => e = .returned (.bool (decide (us = vs))) /\ Below w.heap.size w w' := by
 obtain ⟨A, n, c⟩ := s
 obtain ⟨A2, m, c2⟩ := t
 have h1 := h.len; have h3 := h.see.1
 have k1 := k.len; have k3 := k.see.1
 simp only at h1 h3 k1 k3 hl ⊢
 by_cases hnm : n = m
 ·subst hnm
  by_cases h0 : n = 0
  ·subst h0
   obtain rfl := List.length_eq_zero_iff.1 h1
   obtain rfl := List.length_eq_zero_iff.1 k1
   refine (Any.slices_Equal_int_empty Tryz.intsEqual A A2 c 0 c2 w (by omega)).mono ?_
   rintro e w' ⟨rfl, rfl⟩
   exact ⟨yz (by simp), Below.refl _ _⟩
  ·obtain ⟨b, off, rfl, hc⟩ := ZN h3 (by omega)
   obtain ⟨b2, off2, rfl, hc2⟩ := ZN k3 (by omega)
   refine (Any.slices_Equal_int Tryz.intsEqual b off n c b2 off2 n c2 us vs w (by omega) (by omega) (by omega) (by omega) hc hc2).mono ?_
   rintro e w' ⟨rfl, q, rfl⟩
   rw [List.take_of_length_le (by omega), List.take_of_length_le (by omega)]
   refine ⟨yz ?_, yi (Below.refl _ _) _⟩
   rw [Bool.eq_iff_iff]; simp
 ·refine (Any.slices_Equal_int_lens Tryz.intsEqual A A2 n c m c2 w hnm).mono ?_
  rintro e w' ⟨rfl, rfl⟩
  refine ⟨yz ?_, Below.refl _ _⟩
  rw [eq_comm, decide_eq_false_iff_not]
  rintro rfl
  omega
def yZ (xs : List Int) : List Int := xs.mergeSort fun x y => decide (x <= y)
theorem xN (xs : List Int) : (yZ xs).length = xs.length := List.length_mergeSort _
theorem VSort (B : Nat) (A : Option Addr) (n c : Nat) (xs : List Int) (w : World) (hl : n <= 1000000) (h : w.ownsRow B 3 1 (.slice A n c) n (zo xs)) :
  Calls Tryz.prog 66 #[.slice A n c] w fun e w' => e = .returned (.tuple #[]) /\ w'.ownsRow B 3 1 (.slice A n c) n (zo (yZ xs)) /\ Turned (fun k => (Value.slice A n c).ownBlock = some k) w w' := by
 have hlen : xs.length = n := by have := h.1; rw [zz] at this; omega
 subst hlen
 by_cases h0 : xs.length = 0
 ·obtain rfl := List.length_eq_zero_iff.1 h0
  refine (Any.slices_Sort_int_none Tryz.intsSort A c w).mono ?_
  rintro e w' ⟨rfl, rfl⟩
  exact ⟨rfl, by simpa [yZ] using h, Turned.refl _ _⟩
 rcases h.2 with ⟨e0, e1⟩ | ⟨g, cap, cur, e0, hb, hg, hn, hm, hs, ht⟩
 ·exact absurd e1 h0
 injection e0 with e1 _ e3
 subst e1; subst e3
 rw [Nat.mul_one] at ht
 have hH := holds_of_blockI (ss := xs) hg ht
 refine (Any.slices_Sort_int Tryz.intsSort g 0 c xs w hH (Array.getElem?_eq_some_iff.1 hg).1 (by omega)).mono ?_
 rintro e w' ⟨rfl, n, os, rfl⟩
 refine ⟨rfl, ownsRow_sortedI (ss := xs) (List.length_mergeSort _) hb hg hn hm hs, Turned.of_grown (grownBy_sortedI _) fun k e => ?_⟩
 injection e with e
 subst e
 rfl
theorem Yz {α : Type} [Inhabited α] {enc : α -> Value} {w : World} {g q : Nat} {d : Array α} : Turned (fun k => k = g) w (putRow enc (Sort.ahead w q) g 0 d) :=
 ⟨rfl, rfl, rfl, by simp [putRow, mapBlock, Sort.ahead], fun k hk hn => by
  show (w.heap.modify g _)[k]? = _
  rw [Array.getElem?_modify, if_neg (fun e => hn e.symm)]⟩
theorem IDeleteFunc (B g n c : Nat) (fn : Nat) (lb : Array Value) (p : Int -> Bool) (xs : List Int) (w : World) (hB : B <= g) (h : w.ownsRow B 3 1 (.slice (some ⟨g, 0, none⟩) n c) n (zo xs))
  (eg : ∀ args w, (callFunc fn args).run Tryz.prog w = .ok (.enter fn args) w) (hp : PredAt Tryz.prog fn lb (Value.int .i64) p w) (hpo : PredOver Tryz.prog fn lb (Value.int .i64) p g 0 n w) :
  Calls Tryz.prog 108 #[.slice (some ⟨g, 0, none⟩) n c, .func (.func fn) #[] lb] w fun e w' => e = .returned (.slice (some ⟨g, 0, none⟩) (xs.filter fun x => !p x).length c) /\ w'.ownsRow B 3 1 (.slice (some ⟨g, 0, none⟩) (xs.filter fun x => !p x).length c) (xs.filter fun x => !p x).length (zo (xs.filter fun x => !p x)) /\ Turned (fun k => k = g) w w' := by
 have hlen : xs.length = n := by have := h.1; rw [zz] at this; omega
 obtain ⟨g', cap, e0, hb, hlt, hn, hm, _, hH⟩ := Lib.holds_of_ownsRow (enc := Value.int .i64) (zs := xs) h (by simp)
 injection e0 with e1 _ e3
 injection e1 with e1
 injection e1 with e1
 subst e1; subst e3
 have hsz : xs.toArray.size = n := by simpa using hlen
 have hC := AnyE.slices_DeleteFunc Tryz.deleteFuncA (Value.int .i64) (fun _ => rfl) p fn lb eg 0 Tryz.zeroValue3 g 0 c xs.toArray w hp (by rw [hsz]; exact hpo) hH (by rw [hsz]; unfold maxLen at hm; omega) (by rw [hsz]; omega)
 rw [hsz] at hC
 refine hC.mono ?_
 rintro e w' ⟨rfl, q, rfl⟩
 refine ⟨rfl, ?_, Yz⟩
 have hk := List.length_filter_le (fun x => !p x) xs
 have hy : ((xs.filter fun x => !p x) ++ List.replicate (n - (xs.filter fun x => !p x).length) 0).length = n := by
  simp only [List.length_append, List.length_replicate]; omega
 have := Lib.ownsRow_putRow (enc := Value.int .i64) (zs := xs) (ys := (xs.filter fun x => !p x) ++ List.replicate (n - (xs.filter fun x => !p x).length) 0) (q := q) (k := (xs.filter fun x => !p x).length) h hy (by omega)
 rw [List.take_left] at this
 exact this
theorem gives_eq (g : Nat) (id x : Int) (W : World) (hg : W.cell? ⟨g, 0, none⟩ = some (.int .i64 id)) :
  FnGives Tryz.prog 109 #[.pointer (some ⟨g, 0, none⟩)] #[.int .i64 x] (.bool (decide (x = id))) W := by
 show Calls Tryz.prog 109 #[.int .i64 x, .pointer (some ⟨g, 0, none⟩)] W _
 go_enter Tryz.func109, Tryz.ntmps109
 go_wp2
 all_goals (go_ret; exact ⟨by congr 2, 0, rfl⟩)
def Qj (B : Nat) (v : Value) (us : List Int) (w : World) (e : Ending) (w' : World) : Prop :=
 ∃ s : Sl, e = .returned (.slice s.A s.n s.c) /\ w'.ownsRow B 3 1 (.slice s.A s.n s.c) s.n (zo us) /\ (∀ b, (Value.slice s.A s.n s.c).ownBlock = some b -> v.ownBlock = some b) /\ Turned (fun k => v.ownBlock = some k) w w'
set_option maxRecDepth 100000 in
theorem Qk (B : Nat) (s : Sl) (us : List Int) (id : Int) (w : World) (h : w.ownsRow B 3 1 (.slice s.A s.n s.c) s.n (zo us)) (hB : B <= w.heap.size) :
  Calls Tryz.prog 82 #[.slice s.A s.n s.c, .int .i64 id] w (Qj B (.slice s.A s.n s.c) (zl us id) w) := by
 have hmk : ∀ (fn : Fn) (first cap : Array Value) (w : World), (Instr.makeFunc fn first cap).run Tryz.prog w = .ok (.func fn first cap) w := fun _ _ _ _ => rfl
 obtain ⟨A, n, c⟩ := s
 simp only at h ⊢
 obtain ⟨w1, hw1⟩ : ∃ w1, w.alloc (.cells #[.int .i64 id] 3) = w1 := ⟨_, rfl⟩
 have hb1 : Below w.heap.size w w1 := by rw [<- hw1]; exact zg _ _
 have hg1 : w1.heap[w.heap.size]? = some (.cells #[.int .i64 id] 3 (0, 0)) := by rw [<- hw1]; exact heap_alloc_new _ _
 have h1 := zh h hb1
 have Hb1 := ihq hb1
 have eg : ∀ args w, (callFunc 109 args).run Tryz.prog w = .ok (.enter 109 args) w := enters_of Tryz.func109 (by kernel_rfl) rfl
 have eg5 : ∀ args w, (callFunc 118 args).run Tryz.prog w = .ok (.enter 118 args) w := enters_of Tryz.func118 (by kernel_rfl) rfl
 have KD : Calls Tryz.prog 108 #[.slice A n c, .func (.func 109) #[] #[.pointer (some ⟨w.heap.size, 0, none⟩)]] w1 (Qj B (.slice A n c) (zl us id) w1) := by
  rcases h1.2 with ⟨hv, hn⟩ | ⟨g, cap, cur, hv, hg, hh, r1, r2, r3, r4⟩
  ·injection hv with e1 e2 e3
   subst e1; subst e2; subst e3
   have hus : us = [] := by have := h1.1; rw [zz] at this; exact List.length_eq_zero_iff.1 (by omega)
   subst hus
   have KI := ihq (fun fv => AnyE.slices_IndexFunc_empty Tryz.indexFuncA none 0 fv w1)
   clear h h1 hw1 hb1 hg1
   go_enter Tryz.func108, Tryz.ntmps108
   go_wp2_with (go_at_call 118; refine (KI.out _).mono ?_; rintro e w' ⟨rfl, rfl⟩)
   go_ret
   exact ⟨Sl.nil, rfl, World.ownsRow_nil _ _ _ _, fun b hb => hb, Turned.refl _ _⟩
  ·injection hv with e1 _ e3
   subst e1; subst e3
   have hcell : ∀ W, Below w1.heap.size w1 W -> W.cell? ⟨w.heap.size, 0, none⟩ = some (.int .i64 id) := fun W hb => by
    rw [hb.cell (Array.getElem?_eq_some_iff.1 hg1).1]
    exact zc hg1 0
   have hne : g ≠ w.heap.size := fun e => by
    have := (h.lt g rfl).2
    omega
   have hpa : PredAt Tryz.prog 109 #[.pointer (some ⟨w.heap.size, 0, none⟩)] (Value.int .i64) (fun x => decide (x = id)) w1 := fun W x hb => gives_eq w.heap.size id x W (hcell W hb)
   have hpo : PredOver Tryz.prog 109 #[.pointer (some ⟨w.heap.size, 0, none⟩)] (Value.int .i64) (fun x => decide (x = id)) g 0 n w1 := fun m os dk x _ => gives_eq w.heap.size id x _ (by
    unfold sortWorld
    rw [cell?_grow _ _ _ (by show w.heap.size < (putRow _ _ _ _ _).heap.size; rw [size_putRow]; exact (Array.getElem?_eq_some_iff.1 hg1).1), cell?_putRow_other _ _ g 0 _ _ (Or.inl (by show w.heap.size ≠ g; omega))]
    exact hcell w1 (Below.refl _ _))
   refine (IDeleteFunc B g n c _ _ _ us w1 hg h1 eg hpa hpo).mono ?_
   rintro e w' ⟨rfl, hown, hb⟩
   exact ⟨⟨some ⟨g, 0, none⟩, _, c⟩, rfl, hown, fun b hb => hb, hb.mono fun k _ e => by subst e; rfl⟩
 have KD := ihq KD
 clear h h1 hb1 hg1 eg eg5
 go_enter Tryz.func82, Tryz.ntmps82
 go_wp2_with (go_at_call 108; refine KD.out.mono ?_; rintro e w' ⟨s', rfl, hown, hbk, hb⟩; have Hown := ihq hown; have Hb := ihq hb; have Hbk := ihq hbk; clear hown hb hbk)
 go_ret
 exact ⟨s', rfl, Hown.out, Hbk.out, (Turned.of_below Hb1.out).trans Hb.out (fun _ e => e) (fun _ _ e => e)⟩
set_option maxRecDepth 100000 in
theorem Vhas (k : Ck) (x : Int) (w : World) (h : CkOk w k) (hm : k.ms.length <= 1000000) (hj : k.js.length <= 1000000) :
  Calls Tryz.prog 72 #[ckA k, .int .i64 x] w fun e w' => e = .returned (.bool (hasK x k.dat)) /\ Below w.heap.size w w' := by
 unfold ckA
 obtain ⟨w1, hw1, hb1, hr⟩ := Zc w k
 have C1 := ihq (Yv k.m k.ms x w1 (h.m.below hb1) hm)
 have C2 := ihq (Yv k.j k.js x w1 (h.j.below hb1) hj)
 have c3 : w1.cell? ⟨w.heap.size, 3, none⟩ = some (.slice k.m.A k.m.n k.m.c) := zc hr 3
 have c4 : w1.cell? ⟨w.heap.size, 4, none⟩ = some (.slice k.j.A k.j.n k.j.c) := zc hr 4
 have Hb := ihq hb1
 have e0 : hasK x k.dat = (decide (x ∈ k.ms) || decide (x ∈ k.js)) := rfl
 rw [e0]
 obtain ⟨b1, e1⟩ : ∃ b, decide (x ∈ k.ms) = b := ⟨_, rfl⟩
 obtain ⟨b2, e2⟩ : ∃ b, decide (x ∈ k.js) = b := ⟨_, rfl⟩
 rw [e1, e2]
 rw [e1] at C1
 rw [e2] at C2
 clear e0 e1 e2 h hb1 hr
 cases b1 with
 | true =>
  go_enter Tryz.func72, Tryz.ntmps72
  go_wp2_with (go_at_call 85; refine C1.out.mono ?_; rintro e w' ⟨rfl, rfl⟩)
  go_ret
  exact ⟨rfl, Hb.out⟩
 | false =>
  go_enter Tryz.func72, Tryz.ntmps72
  go_wp2_with fail
  refine C1.out.mono ?_
  rintro e w' ⟨rfl, rfl⟩
  go_wp2_with fail
  refine C2.out.mono ?_
  rintro e w' ⟨rfl, rfl⟩
  go_wp2
  go_ret
  exact ⟨rfl, Hb.out⟩
end Go.Proofs.YteebkolccbcehaaGreat
end

section
set_option linter.all false
namespace Go.Proofs.YteebkolccbcehaaGreat
open Go.ChangeShapes Go.WideShapes Go.ChangeAt Go.RowKit
structure zO (w : World) where
 v : World
 h : Below w.heap.size w v
instance (w : World) : Inhabited (zO w) := ⟨⟨w, Below.refl _ _⟩⟩
theorem zB {P : Program} {id : Nat} {Q : Exit -> Act -> World -> Prop} {a : Act} {w : World} {l : List Oper} (hm : P.follows .mixedOrders = true) (hB : Region.lexB .any l.toArray = true)
  (h : wpQuiet P l.toArray (fun w' => ∃ p : zO w, w' = p.v) (fun a' => ∀ w', (∃ p : zO w, w' = p.v) -> Q .normal a' w') l a) : (Code.region id l.toArray true).wp P Q a w :=
 wp_region_quiet (C := fun w' => ∃ p : zO w, w' = p.v) hm hB ⟨⟨w.drewN 1, yi (Below.refl _ _) 1⟩, rfl⟩ (by simpa using h)
theorem Calls.below_of {P : Program} {f : FuncId} {args : Array Value} {w : World} {p : zO w} {v : Value}
  (h : Calls P f args p.v fun e w' => e = .returned v /\ Below p.v.heap.size p.v w') : Calls P f args p.v fun e w' => e = .returned v /\ ∃ q : zO w, w' = q.v :=
 h.mono fun _ w' ⟨he, hb⟩ => ⟨he, ⟨w', p.h.trans (hb.mono p.h.size)⟩, rfl⟩
end Go.Proofs.YteebkolccbcehaaGreat
end

section
set_option linter.all false
namespace Go.Proofs.YteebkolccbcehaaGreat
open Go.ChangeShapes Go.WideShapes Go.ChangeAt Go.RowKit
def polV (p : Pol) : List Value := [.int .i64 p.re, .int .i64 p.we, .int .i64 p.li, .int .i64 p.bu]
def xD (l : List Pol) : List Value := l.flatMap polV
theorem Y0 (a b : List Pol) : xD (a ++ b) = xD a ++ xD b := by simp [xD]
theorem QJ : ∀ {l : List Pol} {i : Nat} {p : Pol}, l[i]? = some p -> (xD l)[i * 4]? = some (.int .i64 p.re) /\ (xD l)[i * 4 + 1]? = some (.int .i64 p.we) /\ (xD l)[i * 4 + 2]? = some (.int .i64 p.li) /\ (xD l)[i * 4 + 3]? = some (.int .i64 p.bu)
 | [], _, _, h => by simp at h
 | q :: r, 0, p, h => by
  simp at h
  subst h
  exact ⟨rfl, rfl, rfl, rfl⟩
 | q :: r, i + 1, p, h => by
  have := QJ (l := r) (i := i) (p := p) (by simpa using h)
  have e1 : (i + 1) * 4 = (i * 4) + 1 + 1 + 1 + 1 := by omega
  rw [e1]
  exact this
theorem YZ {w : World} {B n c : Nat} {A : Option Addr} {l : List Pol} (h : w.ownsRow B 37 4 (.slice A n c) n (xD l)) (hl : ∀ p ∈ l, InP p) : xj w A l := by
 rcases ye h with h0 | ⟨g, o, hA, hc⟩
 ·refine .inl ?_
  cases l with
  | nil => rfl
  | cons p r => simp [xD, polV] at h0
 ·refine .inr ⟨g, o, hA, fun i p hp => ?_⟩
  obtain ⟨e0, e1, e2, e3⟩ := QJ hp
  exact ⟨by rw [hc _ _ e0], by rw [Nat.add_assoc, hc _ _ e1], by rw [Nat.add_assoc, hc _ _ e2], by rw [Nat.add_assoc, hc _ _ e3], hl p (List.mem_of_getElem? hp)⟩
theorem QK : (Tryz.prog.info? 37).map (fun i => (i.zero, i.size, i.bytes)) = some (some (.agg #[.int .i64 0, .int .i64 0, .int .i64 0, .int .i64 0]), 4, 32) := by kernel_rfl
attribute [local go_sem ↓] yd
set_option maxRecDepth 100000 in
theorem VpolPred (k : Ck) (g : Nat) (x : Int) (w : World) (hg : w.cell? ⟨g, 0, none⟩ = some (.int .i64 x)) (h : CkOk w k) (hm : k.ms.length <= 1000000) (hj : k.js.length <= 1000000) :
  Calls Tryz.prog 71 #[ckA k, .pointer (some ⟨g, 0, none⟩)] w fun e w' => e = .returned (.bool (hasK x k.dat)) /\ Below w.heap.size w w' := by
 unfold ckA
 obtain ⟨w1, hw1, hb1, hr⟩ := Zc w k
 have C := ihq (Vhas k x w1 (h.below hb1) hm hj)
 have hld := zC (CkAt.of_row hr)
 have hx : w1.cell? ⟨g, 0, none⟩ = some (.int .i64 x) := by rw [hb1.cell (block_lt_of_cell hg)]; exact hg
 unfold ckA at C
 have Hb := ihq hb1
 clear h hb1 hr hg
 go_enter Tryz.func71, Tryz.ntmps71
 go_wp2_with (go_at_call 72; refine C.out.mono ?_; rintro e w' ⟨rfl, hb3⟩; have Hb3 := ihq (Hb.out.trans (hb3.mono Hb.out.size)); clear hb3)
 go_ret
 exact ⟨rfl, Hb3.out⟩
def xO (s : St) (sv : Int) (n : Nat) : List Pol := ((List.range n).filter fun i => (s.vs i).ks.any (hasK sv)).map fun i => (s.vs i).p
theorem polsN_yes {s : St} {sv : Int} {n : Nat} (h : (s.vs n).ks.any (hasK sv) = true) : xO s sv (n + 1) = xO s sv n ++ [(s.vs n).p] := by simp [xO, List.range_succ, h]
theorem polsN_no {s : St} {sv : Int} {n : Nat} (h : (s.vs n).ks.any (hasK sv) = false) : xO s sv (n + 1) = xO s sv n := by simp [xO, List.range_succ, h]
theorem Xh (s : St) (sv : Int) (n : Nat) : (xO s sv n).length <= n := by
 have := List.length_filter_le (fun i => (s.vs i).ks.any (hasK sv)) (List.range n)
 simpa [xO] using this
theorem polsN_in {s : St} (h : yF s) (sv : Int) {n : Nat} (hn : n <= 64) : ∀ p ∈ xO s sv n, InP p := fun p hp => by
 obtain ⟨i, hi, rfl⟩ := List.mem_map.1 hp
 have := List.mem_range.1 (List.mem_filter.1 hi).1
 exact (h.vs i (by omega)).p
attribute [local go_sem ↓] yA
set_option maxRecDepth 100000 in
set_option maxHeartbeats 1000000 in
theorem Y9 (g : Nat) (s : St) (sv : Int) (w : World) (h : StAt w g s) (hf : yF s) :
  Calls Tryz.prog 36 #[.pointer (some ⟨g, 0, none⟩), .int .i64 sv] w (Zp 37 4 (Z6 s sv).length (xD (Z6 s sv)) w) := by
 have hmk : ∀ (fn : Fn) (first cap : Array Value) (w : World), (Instr.makeFunc fn first cap).run Tryz.prog w = .ok (.func fn first cap) w := fun _ _ _ _ => rfl
 obtain ⟨w1, hw1⟩ : ∃ w1, w.alloc (.cells #[.int .i64 sv] 3) = w1 := ⟨_, rfl⟩
 have hb1 : Below w.heap.size w w1 := by rw [<- hw1]; exact zg _ _
 have hg1 : w1.heap[w.heap.size]? = some (.cells #[.int .i64 sv] 3 (0, 0)) := by rw [<- hw1]; exact heap_alloc_new _ _
 obtain ⟨cs, K, X, h⟩ := h
 have H := ihq (h.below hb1); have Hb1 := ihq hb1; have Hf := ihq hf; have Hg1 := ihq hg1
 have eg : ∀ args w, (callFunc 71 args).run Tryz.prog w = .ok (.enter 71 args) w := enters_of Tryz.func71 (by kernel_rfl) rfl
 have Eg := ihq eg
 clear h hb1 hg1 hf eg
 go_enter Tryz.func36, Tryz.ntmps36
 go_wp2
 go_loopw [5, 8] (fun lv iv wr => ∃ (i : Nat) (A' : Option Addr) (c' : Nat), i <= 64 /\ iv = .int .i64 (i : Int) /\ lv = .slice A' (xO s sv i).length c' /\ wr.ownsRow w1.heap.size 37 4 (.slice A' (xO s sv i).length c') (xO s sv i).length (xD (xO s sv i)) /\ Below w1.heap.size w1 wr) (fun _ iv _ => 64 - (intOf iv).toNat)
 case atStart => exact ⟨0, _, _, by omega, rfl, rfl, World.ownsRow_nil _ _ _ _, Below.refl _ _⟩
 case round =>
  obtain ⟨i, A', c', hin, rfl, rfl, ho, hb⟩ := hrel
  obtain ⟨n, hn⟩ : ∃ n, (xO s sv i).length = n := ⟨_, rfl⟩
  have hn6 : n <= 64 := by have := Xh s sv i; omega
  rw [hn] at ho ⊢
  by_cases hi : i < 64
  ·have h := H.out.below hb
   have i0 : (0 : Int) <= (i : Int) := by omega
   have i1 : (i : Int) < 64 := by omega
   have c6 : wr.cell? ⟨g, 16 + i * 7 + 6, none⟩ = some (.slice (K i).A (K i).n (K i).c) := by rw [h.cell]; exact h.c6 i hi
   have hfv := Hf.out.vs i hi
   have hkl := hfv.kl
   rw [<- h.dat i hi, List.length_map] at hkl
   have hp : PredK 71 #[.pointer (some ⟨w.heap.size, 0, none⟩)] (hasK sv) (X i) wr := fun W k hbW hk => by
    have hc := hfv.ks k.dat (by rw [<- h.dat i hi]; exact List.mem_map.2 ⟨k, hk, rfl⟩)
    have hc1 := hc.ml
    have hc2 := hc.jl
    refine VpolPred k w.heap.size sv W ?_ ((h.ks i hi).ok k hk |>.below hbW) (by have : k.ms.length <= 16 := hc1; omega) (by have : k.js.length <= 16 := hc2; omega)
    have hlt := (Array.getElem?_eq_some_iff.1 Hg1.out).1
    rw [hbW.cell (p := ⟨w.heap.size, 0, none⟩) (by have := hb.size; show w.heap.size < _; omega), hb.cell hlt]
    exact zc Hg1.out 0
   have KC := ihq (Qx (K i) (X i) 71 (.pointer (some ⟨w.heap.size, 0, none⟩)) (hasK sv) wr (h.ks i hi) hkl hp Eg.out)
   rw [h.dat i hi] at KC
   obtain ⟨b, hb0⟩ : ∃ b, (s.vs i).ks.any (hasK sv) = b := ⟨_, rfl⟩
   rw [hb0] at KC
   have Hb := ihq hb; have Ho := ihq ho; have Hn := ihq hn
   obtain ⟨p, hpe⟩ : ∃ p, (s.vs i).p = p := ⟨_, rfl⟩
   have hat : Z8 wr g (16 + i * 7 + 1) p := by
    rw [<- hpe]
    exact ⟨by rw [h.cell]; exact h.c1 i hi, by rw [h.cell]; exact h.c2 i hi, by rw [h.cell]; exact h.c3 i hi, by rw [h.cell]; exact h.c4 i hi, hfv.p⟩
   have Hat := ihq hat
   clear hb ho hn hp hfv hkl h hat
   cases b with
   | true =>
    have Hs := ihq (polsN_yes hb0)
    rw [hpe] at Hs
    clear hb0 hpe
    go_wp2_with (first
     | (go_at_call 70; refine KC.out.mono ?_; rintro e w2 ⟨rfl, hb2⟩; have Hb2 := ihq hb2; have hld := zZ (Hat.out.below hb2); obtain ⟨W3, hW3⟩ : ∃ W3, w2.alloc (.cells #[.int .i64 p.re, .int .i64 p.we, .int .i64 p.li, .int .i64 p.bu] 37) = W3 := ⟨_, rfl⟩; have Hb3 := ihq (show Below w2.heap.size w2 W3 from (by rw [<- hW3]; exact zg _ _)); have Hs3 := ihq (show Seen W3 (some ⟨w2.heap.size, 0, none⟩) (polV p) from (by rw [<- hW3]; exact Seen.of_cells (heap_alloc_new w2 _))); have Ho3 := ihq (zh (zh Ho.out hb2) Hb3.out); have Hb13 := ihq ((Hb.out.trans (hb2.mono Hb.out.size)).trans (Hb3.out.mono (Nat.le_trans Hb.out.size hb2.size))); clear hb2)
     | (at_builtin; refine Zz rfl (.tmp 22) (.tmp 27) _ rfl 37 _ 4 32 Tryz.underlying86 QK rfl (by omega) w1.heap.size A' n c' (xD (xO s sv i)) rfl Ho3.out w2.heap.size 0 1 1 (polV p) rfl rfl Hs3.out (fun u hu => by simp [polV] at hu; rcases hu with rfl | rfl | rfl | rfl <;> rfl) (by unfold maxLen; omega) (by omega) Hb13.out.size ?_; intro A4 c4 w4 hown4 hg4 hbk4; have Hown4 := ihq hown4; have Hg4 := ihq hg4; clear hown4 hg4 hbk4))
    go_roundw
    case rel =>
     have tg : Turned (fun k => (Value.slice A' n c').ownBlock = some k) W3 w4 := Turned.of_grown Hg4.out fun k e => e
     have el : (xO s sv (i + 1)).length = n + 1 := by rw [Hs.out, List.length_append, Hn.out]; rfl
     refine ⟨i + 1, A4, c4, by omega, by go_num, by rw [el], ?_, ?_⟩
     ·have := Hown4.out
      rw [el, Hs.out, Y0, show xD [p] = polV p by simp [xD]]
      exact this
     ·exact Hb13.out.trans (tg.below (fun k e => (Ho3.out.lt k e).1) Hb13.out.size)
    case measure => simp [intOf]; omega
   | false =>
    have Hs := ihq (polsN_no hb0)
    clear hb0 hpe
    go_wp2_with (go_at_call 70; refine KC.out.mono ?_; rintro e w2 ⟨rfl, hb2⟩; have Hb2 := ihq hb2; clear hb2)
    go_roundw
    case rel => exact ⟨i + 1, A', c', by omega, by go_num, by rw [Hs.out, Hn.out], by rw [Hs.out, Hn.out]; exact zh Ho.out Hb2.out, Hb.out.trans (Hb2.out.mono Hb.out.size)⟩
    case measure => simp [intOf]; omega
  ·obtain rfl : i = 64 := by omega
   have i1 : ¬ ((64 : Nat) : Int) < 64 := by omega
   have Ho := ihq ho; have Hb := ihq hb; have Hn := ihq hn
   clear ho hb hn
   go_wp2
   go_ret
   refine ⟨A', c', ?_, ?_, Hb1.out.trans (Hb.out.mono Hb1.out.size)⟩
   ·show _ = Ending.returned (.slice A' (xO s sv 64).length c')
    rw [Hn.out]; rfl
   ·show World.ownsRow _ _ _ _ (.slice A' (xO s sv 64).length c') (xO s sv 64).length _
    rw [Hn.out]
    exact zY Ho.out Hb1.out.size
end Go.Proofs.YteebkolccbcehaaGreat
end

section
set_option linter.all false
namespace Go.Proofs.YteebkolccbcehaaGreat
open Go.ChangeShapes Go.WideShapes Go.ChangeAt Go.RowKit
structure OrdS (s : St) : Prop where
 rise : ∀ i, i < 64 -> Zl (s.vs i).ks
 one : ∀ i i', i < 64 -> i' < 64 -> ∀ k ∈ (s.vs i).ks, ∀ k' ∈ (s.vs i').ks, k.id = k'.id -> i = i'
theorem Zl.one {X : List Chk} (h : Zl X) {i j : Nat} {k k' : Chk} (hi : X[i]? = some k) (hj : X[j]? = some k') (e : k.id = k'.id) : i = j := by
 obtain ⟨h1, rfl⟩ := List.getElem?_eq_some_iff.1 hi
 obtain ⟨h2, rfl⟩ := List.getElem?_eq_some_iff.1 hj
 have hp := List.pairwise_iff_getElem.1 h
 rcases (by omega : i < j \/ i = j \/ j < i) with h3 | h3 | h3
 ·have := hp i j h1 h2 h3; omega
 ·exact h3
 ·have := hp j i h2 h1 h3; omega
theorem OrdS.uniq {s : St} (h : OrdS s) {id : Int} {i j i' j' : Nat} {k k' : Chk} (a : Z3 s id i j k) (b : Z3 s id i' j' k') : i = i' /\ j = j' /\ k = k' := by
 obtain ⟨a1, a2, a3⟩ := a
 obtain ⟨b1, b2, b3⟩ := b
 obtain rfl := h.one i i' a1 b1 k (List.mem_of_getElem? a2) k' (List.mem_of_getElem? b2) (a3.trans b3.symm)
 obtain rfl := (h.rise i a1).one a2 b2 (a3.trans b3.symm)
 rw [a2] at b2
 injection b2 with b2
 exact ⟨rfl, rfl, b2⟩
theorem OrdS.find {s : St} (h : OrdS s) {id : Int} {i j : Nat} {k : Chk} (a : Z3 s id i j k) : xL s id = some (i, j, k) := by
 cases hf : xL s id with
 | none => exact absurd a.2.2 (X2 hf i a.1 k (List.mem_of_getElem? a.2.1))
 | some x =>
  obtain ⟨i', j', k'⟩ := x
  obtain ⟨rfl, rfl, rfl⟩ := h.uniq a (xp hf)
  rfl
theorem noChunk_find {s : St} {id : Int} (h : NoChunk s id) : xL s id = none := by
 cases hf : xL s id with
 | none => rfl
 | some x =>
  obtain ⟨i', j', k'⟩ := x
  have := xp hf
  exact absurd this.2.2 (h i' this.1 k' (List.mem_of_getElem? this.2.1))
def findV (g : Nat) : Option (Nat × Nat × Chk) -> Value
 | some (i, j, _) => .tuple #[.pointer (some ⟨g, 16 + i * 7, none⟩), .int .i64 (j : Int), .bool true]
 | none => .tuple #[.pointer none, .int .i64 0, .bool false]
set_option maxRecDepth 100000 in
set_option maxHeartbeats 1000000 in
theorem Vfind (g : Nat) (s : St) (id : Int) (w : World) (h : StAt w g s) (hf : yF s) (ho : OrdS s) :
  Calls Tryz.prog 68 #[.pointer (some ⟨g, 0, none⟩), .int .i64 id] w fun e w' => e = .returned (findV g (xL s id)) /\ Below w.heap.size w w' := by
 obtain ⟨cs, K, X, h⟩ := h
 have H := ihq h; have Hf := ihq hf; have Ho := ihq ho
 clear h hf ho
 go_enter Tryz.func68, Tryz.ntmps68
 go_wp2
 go_loopw [4, 5, 6, 7, 8] (fun _ _ _ _ iv wr => ∃ i : Nat, i <= 64 /\ iv = .int .i64 (i : Int) /\ (∀ q, q < i -> ∀ k ∈ (s.vs q).ks, k.id ≠ id) /\ Below w.heap.size w wr) (fun _ _ _ _ iv _ => 64 - (intOf iv).toNat)
 case atStart => exact ⟨0, by omega, rfl, fun q h => by omega, Below.refl _ _⟩
 case round =>
  obtain ⟨i, hin, rfl, hno, hb⟩ := hrel
  by_cases hi : i < 64
  ·have h := H.out.below hb
   have i0 : (0 : Int) <= (i : Int) := by omega
   have i1 : (i : Int) < 64 := by omega
   have c6 : wr.cell? ⟨g, 16 + i * 7 + 6, none⟩ = some (.slice (K i).A (K i).n (K i).c) := by rw [h.cell]; exact h.c6 i hi
   have hkl := (Hf.out.vs i hi).kl
   rw [<- h.dat i hi, List.length_map] at hkl
   have hri := Ho.out.rise i hi
   rw [<- h.dat i hi] at hri
   have KB := ihq (VBs (K i) (X i) id wr (h.ks i hi) hkl hri)
   rw [h.dat i hi] at KB
   have Hb := ihq hb; have Hno := ihq hno
   clear hb hno hkl hri h
   go_wp2_with fail
   refine KB.out.mono ?_
   rintro e w2 ⟨q, b, rfl, hq, hy, hn, hb2⟩
   have Hb2 := ihq (Hb.out.trans (hb2.mono Hb.out.size)); have Hy := ihq hy; have Hn := ihq hn
   clear hb2 hy hn
   cases b with
   | true =>
    go_wp2
    go_ret3
    obtain ⟨k, hk, he⟩ := Hy.out (by first | trivial | rfl)
    have := Ho.out.find (i := i) (j := q) (k := k) ⟨hi, hk, he⟩
    rw [this]
    exact ⟨rfl, Hb2.out⟩
   | false =>
    go_wp2
    go_roundw
    case rel =>
     refine ⟨i + 1, by omega, by go_num, fun q' hq' => ?_, Hb2.out⟩
     rcases (by omega : q' < i \/ q' = i) with h3 | rfl
     ·exact Hno.out q' h3
     ·exact Hn.out (by first | trivial | rfl)
    case measure => simp [intOf]; omega
  ·obtain rfl : i = 64 := by omega
   have i1 : ¬ ((64 : Nat) : Int) < 64 := by omega
   have Hb := ihq hb; have Hno := ihq hno
   clear hb hno
   go_wp2
   go_ret3
   rw [noChunk_find Hno.out]
   exact ⟨rfl, Hb.out⟩
end Go.Proofs.YteebkolccbcehaaGreat
end

section
set_option linter.all false
namespace Go.Proofs.YteebkolccbcehaaGreat
open Go.ChangeShapes Go.WideShapes Go.ChangeAt Go.RowKit
theorem xG {p : Nat -> Prop} {a : World} {b : Nat} (hb : b < a.heap.size -> p b) : ∀ (vs : List Value) (o : Nat) (w : World), Turned p a w -> Turned p a (w.setCells b o vs)
 | [], o, w, h => h
 | v :: r, o, w, h => xG hb r (o + 1) (w.setCell ⟨b, o, none⟩ v) (h.setCell (b := ⟨b, o, none⟩) hb v)
theorem XK {b : Nat} {e : TypeId} {Z : List Value} : ∀ (vs X Y : List Value) (w : World) (o : Nat), w.heap[b]? = some (.cells (X ++ Y ++ Z).toArray e (0, 0)) -> vs.length = Y.length -> X.length = o -> (w.setCells b o vs).heap[b]? = some (.cells (X ++ vs ++ Z).toArray e (0, 0))
 | [], X, [], w, o, h, _, _ => h
 | [], X, y :: Y, w, o, h, hl, _ => by simp at hl
 | v :: r, X, [], w, o, h, hl, _ => by simp at hl
 | v :: r, X, y :: Y, w, o, h, hl, ho => by
  have h1 := zG h o v
  have e1 : (X ++ y :: Y ++ Z).toArray.setIfInBounds o v = ((X ++ [v]) ++ Y ++ Z).toArray := by
   subst ho
   apply Array.ext'
   simp
  rw [e1] at h1
  have := XK r (X ++ [v]) Y (w.setCell ⟨b, o, none⟩ v) (o + 1) h1 (by simpa using hl) (by simp [ho])
  have e2 : X ++ v :: r ++ Z = X ++ [v] ++ r ++ Z := by simp
  rw [e2]
  exact this
theorem zj {P : Program} {fn : Func} {p u : Tmp} {ty : TypeId} (h : fn.results = #[.cell p ty, .tmp u]) (tmps : Array Value) (w : World) (g : Nat) (t : TypeId) (cs : Array Value) (fr : Nat × Nat) (d : TypeDesc) (b : Value)
  (hp : tmps.getD p undef = .pointer (some ⟨g, 0, none⟩)) (hb : tmps.getD u undef = b) (hg : w.heap[g]? = some (.cells cs t fr))
  (hu : P.underlying ty = some d) (hd : (match d with | .struct _ | .array _ _ => true | _ => false) = true) (hi : (P.info? ty).map (·.size) = some cs.size) :
  (results fn tmps).run P w = .ok (.tuple #[.agg cs, b]) w := by
 rw [results_cell_tmp h, hp, hb]
 simp [asAddr, run_loadVar_row w g t ty cs fr d hg hu hd hi, Result.andThen]
theorem ZH {w : World} {g : Nat} {cs new : Array Value} {T T' : TypeId} (h : w.heap[g]? = some (.cells cs T' (0, 0))) (hs : cs.size = new.size) (hi : (Tryz.prog.info? T).map (·.size) = some new.size) (h1 : new.all (·.oneCell') = true) :
  ∃ w', (Instr.storeAt T (.pointer (some ⟨g, 0, none⟩)) (.agg new)).run Tryz.prog w = .ok () w' /\ w'.heap[g]? = some (.cells new T' (0, 0)) /\ Turned (fun k => k = g) w w' := by
 have hth : w.there g 0 new.size := fun i hi => ⟨by rw [zc h, Array.getElem?_eq_getElem (by omega)]; rfl, zt h _⟩
 refine ⟨_, run_storeAt_mid w g 0 T new hth hi h1, ?_, xG (p := fun k => k = g) (fun _ => rfl) _ _ _ (Turned.refl _ _)⟩
 have := XK (b := g) (e := T') (Z := []) new.toList [] cs.toList w 0 (by simpa using h) (by simp [hs]) rfl
 simpa using this
def stCk (p v : Value) : Sem Unit := Instr.storeAt 82 p v
theorem yv (p v : Value) : Instr.storeAt 82 p v = stCk p v := rfl
theorem ZM {w : World} {g : Nat} {cs : Array Value} {T : TypeId} (h : w.heap[g]? = some (.cells cs T (0, 0))) (hs : cs.size = 5) (k : Ck) :
  ∃ w', (stCk (.pointer (some ⟨g, 0, none⟩)) (.agg #[.int .i64 k.id, .int .i64 k.vo, .int .i64 k.ep, .slice k.m.A k.m.n k.m.c, .slice k.j.A k.j.n k.j.c])).run Tryz.prog w = .ok () w' /\
   w'.heap[g]? = some (.cells #[.int .i64 k.id, .int .i64 k.vo, .int .i64 k.ep, .slice k.m.A k.m.n k.m.c, .slice k.j.A k.j.n k.j.c] T (0, 0)) /\ Turned (fun k => k = g) w w' :=
 ZH (T := 82) h (by rw [hs]; rfl) ZE (by simp [Value.oneCell'])
def ck0 : Ck := ⟨0, 0, 0, Sl.nil, Sl.nil, [], []⟩
theorem za {w w' : World} {g : Nat} {o : Obj} (h : w.heap[g]? = some o) (hb : Below w.heap.size w w') : w'.heap[g]? = some o := by
 rw [hb.block g (Array.getElem?_eq_some_iff.1 h).1]; exact h
theorem ck_set2 {w : World} {g : Nat} {k : Ck} {T : TypeId} (h : w.heap[g]? = some (.cells #[.int .i64 k.id, .int .i64 k.vo, .int .i64 k.ep, .slice k.m.A k.m.n k.m.c, .slice k.j.A k.j.n k.j.c] T (0, 0))) (s1 s2 : Sl) :
  ((w.setCell ⟨g, 3, none⟩ (.slice s1.A s1.n s1.c)).setCell ⟨g, 4, none⟩ (.slice s2.A s2.n s2.c)).heap[g]? = some (.cells #[.int .i64 k.id, .int .i64 k.vo, .int .i64 k.ep, .slice s1.A s1.n s1.c, .slice s2.A s2.n s2.c] T (0, 0)) /\
   Turned (fun k => k = g) w ((w.setCell ⟨g, 3, none⟩ (.slice s1.A s1.n s1.c)).setCell ⟨g, 4, none⟩ (.slice s2.A s2.n s2.c)) :=
 ⟨by rw [zG (zG h 3 _) 4 _]; rfl, ((Turned.refl (fun k => k = g) w).setCell (b := ⟨g, 3, none⟩) (fun _ => rfl) _).setCell (b := ⟨g, 4, none⟩) (fun _ => rfl) _⟩
theorem yq (w : World) (k : Ck) : ∃ wz w3, w.alloc (.cells #[.int .i64 0, .int .i64 0, .int .i64 0, .slice none 0 0, .slice none 0 0] 82) = wz /\
  (stCk (.pointer (some ⟨w.heap.size, 0, none⟩)) (.agg #[.int .i64 k.id, .int .i64 k.vo, .int .i64 k.ep, .slice k.m.A k.m.n k.m.c, .slice k.j.A k.j.n k.j.c])).run Tryz.prog wz = .ok () w3 /\ Below w.heap.size w w3 /\
  w3.heap[w.heap.size]? = some (.cells #[.int .i64 k.id, .int .i64 k.vo, .int .i64 k.ep, .slice k.m.A k.m.n k.m.c, .slice k.j.A k.j.n k.j.c] 82 (0, 0)) := by
 obtain ⟨wz, hw, hb, hr⟩ := Zc w ck0
 obtain ⟨w3, h1, h2, h3⟩ := ZM hr rfl k
 exact ⟨wz, w3, hw, h1, hb.trans (h3.below (fun k e => by omega) hb.size), h2⟩
end Go.Proofs.YteebkolccbcehaaGreat
end

section
set_option linter.all false
namespace Go.Proofs.YteebkolccbcehaaGreat
open Go.ChangeShapes Go.WideShapes Go.ChangeAt Go.RowKit
structure Zm (w : World) (B : Nat) (k : Ck) : Prop where
 m : w.ownsRow B 3 1 (.slice k.m.A k.m.n k.m.c) k.m.n (zo k.ms)
 j : w.ownsRow B 3 1 (.slice k.j.A k.j.n k.j.c) k.j.n (zo k.js)
 ne : ∀ b, (Value.slice k.m.A k.m.n k.m.c).ownBlock = some b -> (Value.slice k.j.A k.j.n k.j.c).ownBlock ≠ some b
theorem Zm.below {w w' : World} {B : Nat} {k : Ck} (h : Zm w B k) (hb : Below w.heap.size w w') : Zm w' B k := ⟨ZP h.m hb, ZP h.j hb, h.ne⟩
theorem Zm.base {w : World} {B B' : Nat} {k : Ck} (h : Zm w B k) (hb : B' <= B) : Zm w B' k := ⟨zY h.m hb, zY h.j hb, h.ne⟩
theorem Zm.ok {w : World} {B : Nat} {k : Ck} (h : Zm w B k) : CkOk w k := by
 obtain ⟨id, vo, ep, ⟨A, n, c⟩, ⟨A2, n2, c2⟩, ms, js⟩ := k
 exact ⟨zQ.own h.m, zQ.own h.j⟩
theorem Zm.turned {p : Nat -> Prop} {w w' : World} {B : Nat} {k : Ck} (h : Zm w B k) (ht : Turned p w w') (hp : ∀ b, p b -> ∀ cs fr, w.heap[b]? ≠ some (.cells cs 3 fr)) : Zm w' B k := by
 refine ⟨ht.own h.m fun b hb e => ?_, ht.own h.j fun b hb e => ?_, h.ne⟩
 ·obtain ⟨cs, e'⟩ := zD h.m hb
  exact hp b e cs _ e'
 ·obtain ⟨cs, e'⟩ := zD h.j hb
  exact hp b e cs _ e'
def Xb (o : Option (Nat × Nat × Chk)) (w : World) (e : Ending) (w' : World) : Prop :=
 match o with
 | none => e = .returned (.tuple #[.agg #[.int .i64 0, .int .i64 0, .int .i64 0, .slice none 0 0, .slice none 0 0], .bool false]) /\ Below w.heap.size w w'
 | some (_, _, k) => ∃ r : Ck, r.dat = k /\ e = .returned (.tuple #[ckA r, .bool true]) /\ Zm w' w.heap.size r /\ Below w.heap.size w w'
attribute [local go_sem ↓] yd
attribute [local go_sem ↓] yv
set_option maxRecDepth 100000 in
set_option maxHeartbeats 2000000 in
theorem VChunk (g : Nat) (s : St) (id : Int) (w : World) (h : StAt w g s) (hf : yF s) (ho : OrdS s) :
  Calls Tryz.prog 34 #[.pointer (some ⟨g, 0, none⟩), .int .i64 id] w (Xb (xL s id) w) := by
 obtain ⟨w1, hw1, hb1, hr1⟩ := Zc w ck0
 simp only [ck0, Sl.nil] at hw1 hr1
 have KF := ihq (Vfind g s id w1 (h.below hb1) hf ho)
 have H := ihq (h.below hb1); have Hf := ihq hf; have Hb1 := ihq hb1; have Hr1 := ihq hr1
 have hgl := h.lt
 clear h hf ho hb1 hr1
 cases hfs : xL s id with
 | none =>
  rw [hfs] at KF
  clear hfs
  unfold findV at KF
  go_enter Tryz.func34, Tryz.ntmps34
  go_wp2_with fail
  refine KF.out.mono ?_
  rintro e w2 ⟨rfl, hb2⟩
  obtain ⟨w3, hst, hr3, ht3⟩ := ZM (za Hr1.out hb2) rfl ck0
  simp only [ck0, Sl.nil] at hst hr3
  have Hr3 := ihq hr3; have Ht3 := ihq ht3; have Hb2 := ihq (Hb1.out.trans (hb2.mono Hb1.out.size))
  clear hb2 hr3 ht3 hw1
  go_wp2
  refine bodyPost_ret (v := .tuple #[.agg #[.int .i64 0, .int .i64 0, .int .i64 0, .slice none 0 0, .slice none 0 0], .bool false]) (zj rfl _ _ w.heap.size 82 #[.int .i64 0, .int .i64 0, .int .i64 0, .slice none 0 0, .slice none 0 0] (0, 0) _ (.bool false) rfl rfl Hr3.out Tryz.underlying82 rfl ZE) rfl ?_
  exact ⟨rfl, Hb2.out.trans (Ht3.out.below (fun k e => by omega) Hb2.out.size)⟩
 | some x =>
  obtain ⟨i, j, k⟩ := x
  have hat := xp hfs
  rw [hfs] at KF
  clear hfs
  unfold findV at KF
  obtain ⟨hi, hj, hid⟩ := hat
  obtain ⟨cs, K, X, h1⟩ := H.out
  rw [<- h1.dat i hi, List.getElem?_map, Option.map_eq_some_iff] at hj
  obtain ⟨r, hj, rfl⟩ := hj
  have hck := (Hf.out.vs i hi).ks r.dat (by rw [<- h1.dat i hi]; exact List.mem_map.2 ⟨r, List.mem_of_getElem? hj, rfl⟩)
  have hml : r.ms.length <= 16 := hck.ml
  have hjl : r.js.length <= 16 := hck.jl
  have H1 := ihq h1; have Hj := ihq hj
  have hj64 : j < 64 := by
   have e1 := (Hf.out.vs i hi).kl
   rw [<- h1.dat i hi, List.length_map] at e1
   have := (List.getElem?_eq_some_iff.1 hj).1
   omega
  have hjn : (j : Int) < ((K i).n : Int) := by
   have := (List.getElem?_eq_some_iff.1 hj).1
   have := (h1.ks i hi).len
   omega
  have j0 : (0 : Int) <= (j : Int) := by omega
  clear h1 hj hck
  go_enter Tryz.func34, Tryz.ntmps34
  go_wp2_with fail
  refine KF.out.mono ?_
  rintro e w2 ⟨rfl, hb2⟩
  have h2 := H1.out.below hb2
  have c6 : w2.cell? ⟨g, 16 + i * 7 + 6, none⟩ = some (.slice (K i).A (K i).n (K i).c) := by rw [h2.cell]; exact h2.c6 i hi
  obtain ⟨g1, o1, hA, hat⟩ := (h2.ks i hi).get Hj.out
  have hok := (h2.ks i hi).ok r (List.mem_of_getElem? Hj.out)
  obtain ⟨S, hS⟩ : ∃ S, K i = S := ⟨_, rfl⟩
  rw [hS] at hA c6 hjn
  clear hS
  obtain ⟨A9, n9, c9⟩ := S
  simp only at hA c6 hjn
  subst hA
  have hld := zC hat
  obtain ⟨wz, w3, hwz, hst9, hb3, hr3⟩ := yq w2 r
  have Hr3 := ihq hr3; have Hb3 := ihq hb3; have Hr2 := ihq (za Hr1.out hb2); have Hok := ihq (hok.below hb3)
  have Hb2 := ihq (Hb1.out.trans (hb2.mono Hb1.out.size))
  have hs2 : w.heap.size < w2.heap.size := by
   have := (Array.getElem?_eq_some_iff.1 Hr1.out).1
   have := hb2.size
   omega
  have d3 : w3.drew.cell? ⟨w2.heap.size, 3, none⟩ = some (.slice r.m.A r.m.n r.m.c) := zc (w := w3.drew) hr3 3
  have d4 : w3.drew.cell? ⟨w2.heap.size, 4, none⟩ = some (.slice r.j.A r.j.n r.j.c) := zc (w := w3.drew) hr3 4
  have KC1 := ihq (VClone r.m r.ms w3.drew (Hok.out.m.below (Below.refl _ _).drew) (by omega))
  clear h2 hat hok hb2 hb3 hr3 hw1
  go_upto_region 5 with fail
  go_cut [8] (fun _ wx => ∃ q : Ck, q.dat = r.dat /\ wx.heap[w2.heap.size]? = some (.cells #[.int .i64 q.id, .int .i64 q.vo, .int .i64 q.ep, .slice q.m.A q.m.n q.m.c, .slice q.j.A q.j.n q.j.c] 82 (0, 0)) /\ Zm wx w.heap.size q /\ Below w2.heap.size w2 wx)
  case first =>
   go_region_law (first
    | (go_simp; go_at_call 69; refine KC2.out.mono ?_; rintro e w5 ⟨s2, rfl, hown2, hb5⟩; have Hown2 := ihq hown2; have Hb5 := ihq hb5; have hr5 := za Hr4.out hb5; have f3 := zc hr5 3; have f4 := zc hr5 4; have z3 := zt hr5 3; have z4 := zt hr5 4; have Hr5 := ihq hr5; clear hown2 hb5 hr5)
    | (go_simp; go_at_call 69; refine KC1.out.mono ?_; rintro e w4 ⟨s1, rfl, hown1, hb4⟩; have Hown1 := ihq hown1; have hbb := (Below.refl w3.heap.size w3).drew.trans hb4; have Hb4 := ihq hbb; have Hr4 := ihq (za Hr3.out hbb); have e3 : w4.cell? ⟨w2.heap.size, 3, none⟩ = some (.slice r.m.A r.m.n r.m.c) := zc Hr4.out 3; have e4 : w4.cell? ⟨w2.heap.size, 4, none⟩ = some (.slice r.j.A r.j.n r.j.c) := zc Hr4.out 4; have KC2 := ihq (VClone r.j r.js w4 (Hok.out.j.below hbb) (by omega)); clear hown1 hb4 hbb))
   all_goals
    go_wp2_with fail
    go_meet
    obtain ⟨h1, h2⟩ := ck_set2 Hr5.out s1 s2
    have hl3 := (Array.getElem?_eq_some_iff.1 Hr3.out).1
    have hs23 := Hb3.out.size
    have hs12 := Hb2.out.size
    have hs34 : w3.heap.size <= w4.heap.size := Hb4.out.size
    have lt1 : ∀ b, (Value.slice s1.A s1.n s1.c).ownBlock = some b -> w3.heap.size <= b /\ b < w4.heap.size := fun b hb => Hown1.out.lt b hb
    have lt2 : ∀ b, (Value.slice s2.A s2.n s2.c).ownBlock = some b -> w4.heap.size <= b /\ b < w5.heap.size := fun b hb => Hown2.out.lt b hb
    refine ⟨⟨r.id, r.vo, r.ep, s1, s2, r.ms, r.js⟩, rfl, h1, ⟨zY (h2.own (ZP Hown1.out Hb5.out) fun b hb e => ?_) (by show w.heap.size <= w3.heap.size; omega), zY (h2.own Hown2.out fun b hb e => ?_) (by omega), fun b hb hb' => ?_⟩, ?_⟩
    ·have := lt1 b hb; omega
    ·have := lt2 b hb; omega
    ·have := lt1 b hb; have := lt2 b hb'; omega
    ·exact ((Hb3.out.trans (Hb4.out.mono hs23)).trans (Hb5.out.mono (by omega))).trans (h2.below (fun k e => by omega) (by have := Hb5.out.size; omega))
  case rest =>
   obtain ⟨q, hq, hrq, hoq, hbq⟩ := hcut
   have hldq := zC (CkAt.of_row hrq)
   obtain ⟨w6, hst, hr6, ht6⟩ := ZM (za Hr2.out hbq) rfl q
   have Hr6 := ihq hr6; have Ht6 := ihq ht6; have Hq := ihq hq; have Hoq := ihq hoq; have Hbq := ihq hbq
   clear hr6 ht6 hq hoq hbq hrq KC1 d3 d4 hst9 hwz hld c6
   go_wp2
   refine bodyPost_ret (v := .tuple #[ckA q, .bool true]) (zj rfl _ _ w.heap.size 82 #[.int .i64 q.id, .int .i64 q.vo, .int .i64 q.ep, .slice q.m.A q.m.n q.m.c, .slice q.j.A q.j.n q.j.c] (0, 0) _ (.bool true) rfl rfl Hr6.out Tryz.underlying82 rfl ZE) rfl ?_
   refine ⟨q, Hq.out, rfl, Hoq.out.turned Ht6.out (fun b e cs fr hb => ?_), (Hb2.out.trans (Hbq.out.mono Hb2.out.size)).trans (Ht6.out.below (fun k e => by omega) (by have := Hb2.out.size; have := Hbq.out.size; omega))⟩
   subst e
   rw [za Hr2.out Hbq.out] at hb
   injection hb with hb
   injection hb with _ hb
   exact absurd hb (by decide)
end Go.Proofs.YteebkolccbcehaaGreat
end
