/-
  sched.rising: a heap's names, least first, as a range over a function is told them. Conditions: a heap in memory, below the blocks that a round may turn.
-/
import Derived.Test.YtbfjakchgmdldaaHomAll
import Derived.RangeFuncNested
import Derived.RangeFuncBound
import Derived.RangeFuncCalls
import Derived.RangeFuncLeaves
import Derived.Shelf.Abstract
import Derived.Shelf.RegionOpen
import Derived.OwnWalkIn
import Derived.TacticsInMore
import Derived.LoopNIn
import Derived.LoopIn
namespace Go.Proofs.Ytbfjakchgmdldaa
open Go.ChangeShapes Go.WideShapes Go.ChangeAt Go.RowKit Go.Maps Go.Sort Go.Shelf
set_option linter.unusedVariables false
attribute [local go_sem] Oper.semAt_some

/-- what a round that goes on keeps: what lay below n₀, and all cells -/
structure KpS (n₀ : Nat) (W W' : World) : Prop where
  below : Below n₀ W W'
  cells : ∀ (k : Nat) cs T fr, W.heap[k]? = some (.cells cs T fr) → W'.heap[k]? = some (.cells cs T fr)
theorem KpS.of_below {n₀ : Nat} {W W' : World} (h : Below W.heap.size W W') (hn : n₀ ≤ W.heap.size) : KpS n₀ W W' :=
  ⟨⟨h.os, h.tape, h.output, h.size, fun k hk => h.block k (by omega)⟩, fun k cs T fr hk => (h.block k (Array.getElem?_eq_some_iff.1 hk).1).trans hk⟩
theorem KpS.trans {n₀ : Nat} {A B C : World} (h : KpS n₀ A B) (k : KpS n₀ B C) : KpS n₀ A C := ⟨h.below.trans k.below, fun i cs T fr e => k.cells i cs T fr (h.cells i cs T fr e)⟩
theorem KpS.put {n₀ : Nat} (W : World) (l : Nat) (o o' : Obj) (hl : n₀ ≤ l) (h : W.heap[l]? = some o) (hc : o.isCells = false) : KpS n₀ W (W.putObj l o') :=
  ⟨⟨rfl, rfl, rfl, by simp, fun k hk => World.putObj_heap_other (by omega)⟩, fun k cs T fr hk => (World.putObj_heap_other (fun e => by subst e; rw [hk] at h; injection h with h; subst h; cases hc)).trans hk⟩
theorem KpS.own {n₀ : Nat} {W W' : World} (h : KpS n₀ W W') {b n z : Nat} {e : TypeId} {v : Value} {xs : List Value} (ho : W.ownsRow b e z v n xs) : W'.ownsRow b e z v n xs := by
  refine ⟨ho.1, ?_⟩
  rcases ho.2 with h2 | ⟨g, cap, cur, rfl, hg, hh, r⟩
  · exact .inl h2
  · exact .inr ⟨g, cap, cur, rfl, hg, h.cells _ _ _ _ hh, r⟩
theorem KpS.heap {n₀ B : Nat} {h : Home} {q m : Option Nat} {x : List Ent} {W W' : World} (k : KpS n₀ W W') (H : HeapAt W B h q m x) (hF : ∀ j, Foot h q m j → j < n₀) : HeapAt W' B h q m x :=
  H.turned (p := fun j => n₀ ≤ j) ⟨k.below.os, k.below.tape, k.below.output, k.below.size, fun j hj hn => k.below.block j (by omega)⟩ fun j hj e => by have := hF j hj; omega
theorem grownBy_of_below {W W' : World} (h : Below W.heap.size W W') : W.grownBy W' none := ⟨h.os, h.tape, h.output, h.size, fun k hk _ => h.block k hk⟩
/-- an entry of a list, with the proof that it is one -/
abbrev EntOf (x : List Ent) := { e : Ent // e ∈ x }
theorem attach_at {x : List Ent} {i : Nat} (hi : i < x.length) : ∃ e : EntOf x, x[i]? = some e.1 ∧ x.attach.take (i + 1) = x.attach.take i ++ [e] := by
  have hl : i < x.attach.length := by rw [List.length_attach]; exact hi
  refine ⟨x.attach[i], ?_, List.take_succ_eq_append_getElem hl⟩
  rw [List.getElem_attach]
  exact List.getElem?_eq_getElem hi
/-- all names have come, or a part of them, a round having said no more -/
def RisRet (x : List Ent) (J Jx : List (EntOf x) → World → Prop) (e : Ending) (W' : World) : Prop :=
  (∃ v, e = .returned v) ∧ ((∃ ys, ys = x.attach ∧ J ys W') ∨ (∃ pre, (∃ k, k < x.length ∧ pre = x.attach.take (k + 1)) ∧ Jx pre W'))
theorem Least_nil (B : Nat) (h : Home) (q m : Option Nat) (w : World) (H : HeapAt w B h q m []) :
    Calls Try.prog 25 #[.pointer (some ⟨h.b, h.o, none⟩)] w fun e w' => e = .returned (.tuple #[.int .i64 0, .int .i64 0, .bool false]) ∧ Below w.heap.size w w' := by
  refine (Least_any B h q m [] w H (by simp)).mono ?_
  rintro e w' ⟨n, k, ok, rfl, h1 | h1, hb⟩
  · obtain ⟨_, rfl, rfl, rfl⟩ := h1
    exact ⟨rfl, hb⟩
  · simp at h1
theorem Least_cons (B : Nat) (h : Home) (q m : Option Nat) (r : Ent) (x : List Ent) (w : World) (H : HeapAt w B h q m (r :: x)) (hl : (r :: x).length ≤ 100000) :
    Calls Try.prog 25 #[.pointer (some ⟨h.b, h.o, none⟩)] w fun e w' => e = .returned (.tuple #[.int .i64 r.1, .int .i64 r.2, .bool true]) ∧ Below w.heap.size w w' := by
  refine (Least_any B h q m _ w H hl).mono ?_
  rintro e w' ⟨n, k, ok, rfl, h1 | h1, hb⟩
  · cases h1.1
  · obtain ⟨h1, rfl⟩ := h1
    simp at h1
    subst h1
    exact ⟨rfl, hb⟩
set_option maxRecDepth 100000 in
set_option maxHeartbeats 4000000 in
theorem rising1_in (n : Nat) (hn : 2 ≤ n) (l Bs n₀ B : Nat) (h : Home) (q m : Option Nat) (x : List Ent) (hx : x.length ≤ 50000) (J Jx : List (EntOf x) → World → Prop) (hJ : ∀ s A Z, J s A → Below A.heap.size A Z → J s Z)
    (hY : ∀ pre (k : EntOf x) W, J pre W → pre.length < x.length → YieldAt Fence.wide (n - 1) Try.prog l #[.int .i64 k.1.1] W fun e W' => (e = .returned (.bool true) ∧ J (pre ++ [k]) W' ∧ KpS n₀ W W') ∨ (e = .returned (.bool false) ∧ Jx (pre ++ [k]) W'))
    (W : World) (hBs : Bs < n₀) (hBc : W.cell? ⟨Bs, 0, none⟩ = some (.pointer (some ⟨h.b, h.o, none⟩))) (H : HeapAt W B h q m x) (hF : ∀ k, Foot h q m k → k < n₀) (hn0 : n₀ ≤ W.heap.size) (h0 : J [] W) :
    CallsIn Fence.wide n Try.prog 40 #[.func (.yield l) #[] #[], .pointer (some ⟨Bs, 0, none⟩)] W (RisRet x J Jx) := by
  refine callsIn_of_wp Try.func40 rfl trivial ?_ rfl
  simp only [Try.ntmps40, List.size_toArray, List.length_cons, List.length_nil, Nat.reduceAdd, Nat.reduceSub, Array.replicate_succ, Array.replicate_zero, List.push_toArray, List.append_toArray, List.nil_append, List.cons_append]
  have h1 : 1 ≤ n := by omega
  cases x with
  | nil =>
    have KL := Lib.hid (Least_nil B h q m W H)
    have HJ := Lib.hid hJ; have H0 := Lib.hid h0
    clear H hF hJ hY h0 hx hn0 hn hBs
    gi_wp2_with (refine ⟨trivial, ?_⟩; gi_at_call 25; refine (callsIn_wide.2 KL.out).mono ?_; rintro e w1 ⟨rfl, hb1⟩; have Hb1 := Lib.hid hb1; clear hb1)
    refine ⟨fun _ h => (by cases h), ?_⟩
    gi_wp2
    refine bodyPost_ret (results_none rfl _ _ _) rfl ?_
    unfold RisRet
    exact ⟨⟨_, rfl⟩, .inl ⟨_, rfl, HJ.out _ _ _ H0.out Hb1.out⟩⟩
  | cons r x =>
    have KL := Lib.hid (Least_cons B h q m r x W H (by omega))
    have HH := Lib.hid H; have HF := Lib.hid hF; have HJ := Lib.hid hJ; have HY := Lib.hid hY; have H0 := Lib.hid h0; have Hx := Lib.hid hx; have Hn0 := Lib.hid hn0; have Hn := Lib.hid hn; have HBs := Lib.hid hBs
    clear H hF hJ hY h0 hx hn0 hn hBs
    gi_wp2_with (refine ⟨trivial, ?_⟩; gi_at_call 25; refine (callsIn_wide.2 KL.out).mono ?_; rintro e w1 ⟨rfl, hb1⟩; have Hb1 := Lib.hid hb1; clear hb1; obtain ⟨fn, tmps, assign, body, hy, hR⟩ := HY.out [] ⟨r, List.mem_cons_self⟩ w1 (HJ.out _ _ _ H0.out Hb1.out) (by simp); have HR := Lib.hid hR; clear hR)
    refine HR.out.mono ?_
    rintro e W3 (⟨rfl, hJ3, hk3⟩ | ⟨rfl, hJx3⟩)
    · have Hn1 := Lib.hid (show n₀ ≤ w1.heap.size from Nat.le_trans Hn0.out Hb1.out.size)
      have hb3 : W3.cell? ⟨Bs, 0, none⟩ = some (.pointer (some ⟨h.b, h.o, none⟩)) := by
        have e1 : w1.cell? ⟨Bs, 0, none⟩ = some (.pointer (some ⟨h.b, h.o, none⟩)) := (Hb1.out.cell (p := ⟨Bs, 0, none⟩) (Nat.lt_of_lt_of_le HBs.out Hn0.out)).trans hBc
        exact (hk3.below.cell (p := ⟨Bs, 0, none⟩) HBs.out).trans e1
      have KAll := Lib.hid (All_any B h q m (r :: x) W3 (hk3.heap (HH.out.below Hb1.out) HF.out) Hx.out)
      have HJ3 := Lib.hid hJ3; have Hk3 := Lib.hid hk3
      clear hJ3 hk3 hy HR KL hBc
      obtain ⟨N, hN⟩ : ∃ N, x.length = N := ⟨_, rfl⟩
      have HN := Lib.hid hN
      have hN5 : N ≤ 50000 := by have := Hx.out; rw [List.length_cons, hN] at this; omega
      clear hN
      gi_wp2_with (refine ⟨trivial, ?_⟩; gi_at_call 41; refine (callsIn_wide.2 KAll.out).mono ?_; rintro e w4 ⟨A, c, rfl, ho, hb4⟩; have Hb4 := Lib.hid hb4; rw [List.length_cons, HN.out] at ho ⊢; obtain ⟨g, cc, hf, hg1, hg2⟩ := ho.form (by omega); injection hf with hf1 _ hf2; subst hf1; subst hf2; have Hcap := Lib.hid (own_cap ho (by omega)).1; have Ho := Lib.hid ho; clear ho hb4 hg1 hg2)
      all_goals
        gi_loopw [26] (fun iv wr => ∃ i : Nat, i ≤ N ∧ iv = .int .i64 (i : Int) ∧ J ((r :: x).attach.take (i + 1)) wr ∧ KpS n₀ w4 wr) (fun iv _ => N - (intOf iv).toNat)
        case atStart => exact ⟨0, Nat.zero_le _, rfl, HJ.out _ _ _ HJ3.out Hb4.out, KpS.of_below (Below.refl _ _) (Nat.le_trans Hn1.out (Nat.le_trans Hk3.out.below.size Hb4.out.size))⟩
        case round =>
          obtain ⟨i, hi, rfl, hJr, hkr⟩ := hrel
          have HJr := Lib.hid hJr; have Hkr := Lib.hid hkr
          clear hJr hkr
          by_cases hlt : i < N
          · first
            | (exfalso; have := Hcap.out; omega)
            | (
              obtain ⟨⟨e, hme⟩, he, htk⟩ := attach_at (x := r :: x) (i := i + 1) (by rw [List.length_cons, HN.out]; omega)
              obtain ⟨fn, tmps, assign, body, hy, hR⟩ := HY.out _ ⟨e, hme⟩ wr HJr.out (by rw [List.length_take, List.length_attach, List.length_cons, HN.out]; omega)
              dsimp only at he hy
              rw [← htk] at hR
              have hrow := Hkr.out.own Ho.out
              have hcell : wr.cell? ⟨g, 1 + i, none⟩ = some (.int .i64 e.1) := by
                rw [hrow.cellAt _ (by omega)]
                have : (namesE (r :: x))[1 + i]? = some e.1 := by unfold namesE; rw [List.getElem?_map, show 1 + i = i + 1 by omega, he]; rfl
                unfold numsV
                rw [List.getElem?_map, this]
                rfl
              have HR := Lib.hid hR
              have i0 : (0 : Int) ≤ (i : Int) := by omega
              have i1 : (i : Int) < (N : Int) := by omega
              clear hR htk hrow he hme
              gi_wp2
              refine HR.out.mono ?_
              rintro e W5 (⟨rfl, hJ5, hk5⟩ | ⟨rfl, hJx5⟩)
              · gi_wp2
                go_roundw
                case rel => exact ⟨i + 1, by omega, by go_num, hJ5, Hkr.out.trans hk5⟩
                case measure => simp [intOf]; omega
              · gi_wp2
                refine bodyPost_ret (results_none rfl _ _ _) rfl ?_
                unfold RisRet
                exact ⟨⟨_, rfl⟩, .inr ⟨_, ⟨i + 1, by rw [List.length_cons, HN.out]; omega, rfl⟩, hJx5⟩⟩)
          · obtain rfl : i = N := by omega
            have i1 : ¬ (i : Int) < (i : Int) := by omega
            have hall : (r :: x).attach.take (i + 1) = (r :: x).attach := List.take_of_length_le (by rw [List.length_attach, List.length_cons, HN.out]; omega)
            have HJr2 := HJr.out
            rw [hall] at HJr2
            have HJ9 := Lib.hid HJr2
            clear HJr2 hall
            gi_wp2
            go_end0
            unfold RisRet
            exact ⟨⟨_, rfl⟩, .inl ⟨_, rfl, HJ9.out⟩⟩
    · have HJx := Lib.hid hJx3
      clear hJx3 hy HR KL
      gi_wp2
      refine bodyPost_ret (results_none rfl _ _ _) rfl ?_
      unfold RisRet
      exact ⟨⟨_, rfl⟩, .inr ⟨_, ⟨0, by simp, rfl⟩, HJx.out⟩⟩
/-- a range over a heap's names: all of them, or up to one at which it left -/
theorem rising_stops (n : Nat) (hn : 2 ≤ n) (Bs n₀ B : Nat) (h : Home) (q m : Option Nat) (x : List Ent) (hx : x.length ≤ 50000) (w : World) (hBs : Bs < n₀) (hn₀ : n₀ ≤ w.heap.size) (hBc : w.cell? ⟨Bs, 0, none⟩ = some (.pointer (some ⟨h.b, h.o, none⟩))) (H : HeapAt w B h q m x) (hF : ∀ k, Foot h q m k → k < n₀) :
    SeqStopsK Fence.wide n Try.prog 40 #[.pointer (some ⟨Bs, 0, none⟩)] (fun e : EntOf x => #[.int .i64 e.1.1]) (KpS n₀) (fun ys => ys = x.attach) (fun pre => ∃ k, k < x.length ∧ pre = x.attach.take (k + 1)) x.length w := fun l J Jx W hW hJ hJx hY h0 =>
  rising1_in n hn l Bs n₀ B h q m x hx J Jx (fun s A Z hs hb => hJ s A Z none hs (grownBy_of_below hb) fun r e => by cases e) hY W hBs ((hW.cell (p := ⟨Bs, 0, none⟩) (Nat.lt_of_lt_of_le hBs hn₀)).trans hBc) (H.below hW) hF (Nat.le_trans hn₀ hW.size) h0
theorem rising_any (h : Home) (w : World) : Calls Try.prog 32 #[.pointer (some ⟨h.b, h.o, none⟩)] w fun e w' => e = .returned (.func (.func 40) #[] #[.pointer (some ⟨w.heap.size, 0, none⟩)]) ∧ w' = w.alloc (.cells #[.pointer (some ⟨h.b, h.o, none⟩)] 76) := by
  go_enter Try.func32, Try.ntmps32
  go_wp2
  go_ret
  exact ⟨rfl, rfl⟩
end Go.Proofs.Ytbfjakchgmdldaa
