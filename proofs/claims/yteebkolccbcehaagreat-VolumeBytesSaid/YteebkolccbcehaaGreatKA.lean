/-
  Joined: VolVal, VolRpt, VolArt. Conditions: each theorem's own.
-/
import Derived.Test.YteebkolccbcehaaGreatJE
import Derived.RangeFuncNested
import Derived.RangeFuncBound
import Derived.RangeFuncCalls
import Derived.RangeFuncLeaves
import Derived.Shelf.Abstract
import Derived.Shelf.RegionOpen
import Derived.OwnWalkIn
import Derived.TacticsInMore
import Derived.LoopNIn
import Derived.LoopIn
import Derived.Shelf.Slices.CompactI
import Derived.Test.YteebkolccbcehaaGreatJG
import Derived.Shelf.SlicesE.IndexFunc

section
set_option linter.all false
namespace Go.Proofs.YteebkolccbcehaaGreat
open Go.ChangeShapes Go.WideShapes Go.ChangeAt Go.RowKit Go.Shelf
attribute [local go_sem] Oper.semAt_some
theorem v_int_info : (Tryz.prog.info? 3).map (fun i => (i.zero, i.size, i.bytes)) = some (some (.int .i64 0), 1, 8) := by kernel_rfl
def oneE (x : Int) : Array Value := #[.int .i64 x]
set_option maxRecDepth 100000 in
set_option maxHeartbeats 2000000 in
theorem values1_in (F : Fence) (n : Nat) (h7 : F.fn 116) (hro : F.round = none) (hn : 1 <= n) (l Bs n₀ len cap : Nat) (A : Option Addr) (xs : List Int) (hx : xs.length = len) (hlen : len <= 1000000) (J Jx : List Int -> World -> Prop)
  (hY : ∀ pre x W, J pre W -> pre.length < len -> YieldAt F (n - 1) Tryz.prog l #[.int .i64 x] W fun e W' =>
   (e = .returned (.bool true) /\ J (pre ++ [x]) W' /\ Below n₀ W W') \/ (e = .returned (.bool false) /\ Jx (pre ++ [x]) W'))
  (W : World) (hBs : Bs < n₀) (hBc : W.cell? ⟨Bs, 0, none⟩ = some (.slice A len cap)) (hc : ∀ V, Below n₀ W V -> Seen V A (zo xs)) (h0 : J [] W) :
  CallsIn F n Tryz.prog 116 #[.func (.yield l) #[] #[], .pointer (some ⟨Bs, 0, none⟩)] W fun e W' => (∃ v, e = .returned v) /\
   ((∃ ys, ys = xs /\ J ys W') \/ (∃ pre, (∃ k, k < len /\ pre = xs.take (k + 1)) /\ Jx pre W')) := by
 refine callsIn_of_wp Tryz.func116 rfl h7 ?_ hro
 simp only [Tryz.ntmps116, List.size_toArray, List.length_cons, List.length_nil, Nat.reduceAdd, Nat.reduceSub, Array.replicate_succ, Array.replicate_zero, List.push_toArray, List.append_toArray, List.nil_append, List.cons_append]
 have Hc := ihq hc; clear hc
 have Hx := ihq hx; clear hx
 gi_wp2
 gi_loopw [7] (fun i wr => ∃ k : Nat, k <= len /\ i = .int .i64 (k : Int) /\ J (xs.take k) wr /\ Below n₀ W wr)
  (fun i _ => len - (intOf i).toNat)
 case atStart => exact ⟨0, by omega, rfl, h0, Below.refl _ _⟩
 case round =>
  obtain ⟨k, hk, rfl, hJs, hnx⟩ := hrel
  by_cases hlt : k < len
  ·obtain ⟨g, o, x, rfl, hxk, hcell⟩ := (Hc.out wr hnx).num (j := k) (by rw [Hx.out]; exact hlt)
   have htk : xs.take (k + 1) = xs.take k ++ [x] := by
    obtain ⟨h1, h2⟩ := List.getElem?_eq_some_iff.1 hxk
    rw [List.take_succ_eq_append_getElem h1, h2]
   obtain ⟨fn, tmps, assign, body, hy, hR⟩ := hY _ x wr hJs (by rw [List.length_take, Hx.out]; omega)
   have b0 : (0 : Int) <= (k : Int) := by omega
   have b1 : (k : Int) < (len : Int) := by omega
   have Htk := ihq htk
   clear htk hxk
   gi_wp2
   refine hR.mono ?_
   rintro e W3 (⟨rfl, hJ3, hk3⟩ | ⟨rfl, hJx3⟩)
   ·gi_wp2
    go_roundw
    case rel => exact ⟨k + 1, by omega, by go_num, by rw [Htk.out]; exact hJ3, hnx.trans hk3⟩
    case measure => simp [intOf]; omega
   ·gi_wp2
    refine bodyPost_ret (results_none rfl _ _ _) rfl ?_
    exact ⟨⟨_, rfl⟩, .inr ⟨_, ⟨k, hlt, Htk.out.symm⟩, hJx3⟩⟩
  ·obtain rfl : k = len := by omega
   gi_wp2
   go_end0
   exact ⟨⟨_, rfl⟩, .inl ⟨_, List.take_of_length_le (by rw [Hx.out]; omega), hJs⟩⟩
set_option maxHeartbeats 1000000 in
theorem values_in (F : Fence) (n : Nat) (h5 : F.fn 95) (hro : F.round = none) (a : Option Addr) (len cap : Nat) (w : World) :
  CallsIn F n Tryz.prog 95 #[.slice a len cap] w fun e w' => e = .returned (.func (.func 116) #[] #[.pointer (some ⟨w.heap.size, 0, none⟩)]) /\ w' = w.alloc (.cells #[.slice a len cap] 28) := by
 refine callsIn_of_wp Tryz.func95 rfl h5 ?_ hro
 simp only [Tryz.ntmps95, List.size_toArray, List.length_cons, List.length_nil, Nat.reduceAdd, Nat.reduceSub, Array.replicate_succ, Array.replicate_zero, List.push_toArray, List.append_toArray, List.nil_append, List.cons_append]
 gi_wp2
 go_ret
 exact ⟨rfl, rfl⟩
theorem values_stops (F : Fence) (n : Nat) (h7 : F.fn 116) (hro : F.round = none) (hn : 1 <= n) (Bs n₀ len cap : Nat) (A : Option Addr) (xs : List Int) (hx : xs.length = len) (hlen : len <= 1000000)
  (w : World) (hBs : Bs < n₀) (hn₀ : n₀ <= w.heap.size) (hBc : w.cell? ⟨Bs, 0, none⟩ = some (.slice A len cap)) (hc : ∀ V, Below n₀ w V -> Seen V A (zo xs)) :
  SeqStopsK F n Tryz.prog 116 #[.pointer (some ⟨Bs, 0, none⟩)] oneE (Below n₀) (fun ys => ys = xs) (fun pre => ∃ k, k < len /\ pre = xs.take (k + 1)) len w := fun l J Jx W hW _ _ hY h0 =>
 values1_in F n h7 hro hn l Bs n₀ len cap A xs hx hlen J Jx hY W hBs ((hW.cell (p := ⟨Bs, 0, none⟩) (by show Bs < _; omega)).trans hBc)
  (fun V hV => hc V ((hW.mono hn₀).trans hV)) h0
def Come (w : World) (pre : List Int) (W : World) : Prop :=
 (∃ v, W.heap[w.heap.size]? = some (.cells #[v] 28 (0, 0)) /\ W.ownsRow w.heap.size 3 1 v pre.length (zo pre)) /\ Below w.heap.size w W
theorem Yr {w : World} {base : Nat} {e : TypeId} {z : Nat} {v : Value} {n : Nat} {xs : List Value} (h : w.ownsRow base e z v n xs) {r : Nat} {o : Obj} (ho : w.heap[r]? = some o) (hc : ∀ cs, o ≠ .cells cs e (0, 0)) : v.ownBlock ≠ some r := by
 intro hk
 rcases h.2 with ⟨rfl, _⟩ | ⟨g, cap, cur, rfl, hg, hh, _⟩
 ·cases hk
 ·injection hk with hk
  have : g = r := hk
  subst this
  rw [hh] at ho
  injection ho with ho
  exact hc cur ho.symm
theorem XV {w w' : World} {base : Nat} {e : TypeId} {z : Nat} {v : Value} {n : Nat} {xs : List Value} {row : Option Nat} (h : w.ownsRow base e z v n xs) (hg : w.grownBy w' row) (hn : ∀ k, v.ownBlock = some k -> row ≠ some k) : w'.ownsRow base e z v n xs := by
 refine ⟨h.1, ?_⟩
 rcases h.2 with h2 | ⟨g, cap, cur, rfl, hb, hh, r⟩
 ·exact .inl h2
 ·exact .inr ⟨g, cap, cur, rfl, hb, (hg.block g (Array.getElem?_eq_some_iff.1 hh).1 (fun e => hn g rfl e.symm)).trans hh, r⟩
theorem own_lo' {w : World} {base : Nat} {e : TypeId} {z : Nat} {v : Value} {n : Nat} {xs : List Value} (h : w.ownsRow base e z v n xs) : ∀ k, v.ownBlock = some k -> base <= k := by
 intro k hk
 rcases h.2 with ⟨rfl, _⟩ | ⟨g, cap, cur, rfl, hg, _⟩
 ·cases hk
 ·injection hk with hk
  subst hk
  exact hg
theorem come_own (w : World) (B : Nat) (hB : w.heap.size <= B) : OwnFrom B (Come w) := fun pre X Y row hs hg hr => by
 obtain ⟨⟨v, hv, ho⟩, hb⟩ := hs
 refine ⟨⟨v, (hg.block _ (Array.getElem?_eq_some_iff.1 hv).1 (fun e => ?_)).trans hv, XV ho hg fun k hk e => ?_⟩, hb.grown hg hb.size (fun k e => Nat.le_trans hB (hr k e).1)⟩
 ·obtain ⟨_, o, h1, h2⟩ := hr _ e.symm
  rw [hv] at h1
  cases h1
  cases h2
 ·obtain ⟨_, o, h1, h2⟩ := hr _ e
  exact Yr ho h1 (fun cs e => by subst e; cases h2) hk
set_option maxRecDepth 100000 in
set_option maxHeartbeats 4000000 in
theorem Qh (Bs len cap : Nat) (A : Option Addr) (xs : List Int) (hx : xs.length = len) (hlen : len <= 1000000) (w : World) (hBs : Bs < w.heap.size) (hBc : w.cell? ⟨Bs, 0, none⟩ = some (.slice A len cap)) (hs : Seen w A (zo xs)) :
  CallsIn Fence.wide 8 Tryz.prog 136 #[.slice none 0 0, .func (.func 116) #[] #[.pointer (some ⟨Bs, 0, none⟩)]] w fun e w' => Zd 3 (zo xs) w e w' := by
 refine callsIn_of_wp_marks Tryz.func136 rfl trivial ?_ rfl
 simp only [Tryz.ntmps136, List.size_toArray, List.length_cons, List.length_nil, Nat.reduceAdd, Nat.reduceSub, Array.replicate_succ, Array.replicate_zero, List.push_toArray, List.append_toArray, List.nil_append, List.cons_append]
 gi_wp2
 obtain ⟨i0, hi, hz0, hz1, hz2⟩ := info_parts v_int_info
 obtain ⟨W0, hW0⟩ : ∃ W0, w.alloc (.cells #[.slice none 0 0] 28) = W0 := ⟨_, rfl⟩
 have hb0 : Below w.heap.size w W0 := by rw [<- hW0]; exact (Below.refl _ w).alloc (Nat.le_refl _) _
 have hsz : W0.heap.size = w.heap.size + 1 := by rw [<- hW0]; simp
 have hbx : W0.heap[w.heap.size]? = some (.cells #[.slice none 0 0] 28 (0, 0)) := by rw [<- hW0]; exact heap_alloc_new w _
 rw [hW0]
 clear hW0
 have hb0' := hb0
 refine wpIn_rangeFunc_ownF (F := Fence.wide) rfl (by omega) (gf := 116) (lb := #[.pointer (some ⟨Bs, 0, none⟩)]) rfl trivial (enters_of Tryz.func116 (by kernel_rfl) rfl)
  (values_stops Fence.wide _ trivial rfl (by omega) Bs w.heap.size len cap A xs hx hlen W0 hBs hb0.size ((hb0.cell (p := ⟨Bs, 0, none⟩) hBs).trans hBc) (fun V hV => hs.below (hb0'.trans hV)))
  belowK_t (belowK_b hb0.size) (Below.refl _ _) (fun _ => rfl)
  (Come w) (fun _ _ _ => False) (come_own w _ hb0.size) (fun _ => fun _ _ _ _ h _ _ => h) ⟨⟨_, hbx, World.ownsRow_nil _ _ _ _⟩, hb0⟩
  (fun x => { tmps := #[.slice none 0 0, .func (.func 116) #[] #[.pointer (some ⟨Bs, 0, none⟩)], .pointer (some ⟨w.heap.size, 0, none⟩), undef, .slice none 0 0, .int .i64 x, .func (.func 116) #[] #[.pointer (some ⟨Bs, 0, none⟩)], .int .i64 x, undef, undef, undef, undef, undef], defers := [] })
  ?assign ?body ?done ?stop
 case assign =>
  intro l x W K hK
  unfold oneE
  gi_wp2
  exact hK
 case body =>
  rintro l pre x W ⟨⟨v, hv, ho⟩, hb⟩ hlt
  have hc2 := zc hv 0
  have hf2 := zt hv 0
  simp only [List.getElem?_toArray, List.getElem?_cons_zero] at hc2
  have hlt' : w.heap.size < W.heap.size := (Array.getElem?_eq_some_iff.1 hv).1
  have ho1 := XV ho (World.grownBy_alloc W (.cells #[.int .i64 x] 3) none) (fun k _ e => by cases e)
  have hv1 : (W.alloc (.cells #[.int .i64 x] 3)).heap[w.heap.size]? = some (.cells #[v] 28 (0, 0)) := (Below.heap_alloc W _ _ hlt').trans hv
  have hnb : v.ownBlock ≠ some w.heap.size := Yr ho1 hv1 (fun cs e => by cases e)
  have hb1 : Below w.heap.size w (W.alloc (.cells #[.int .i64 x] 3)) := hb.alloc hb.size _
  have hown1 : (W.alloc (.cells #[.int .i64 x] 3)).heap[W.heap.size]? = some (.cells #[.int .i64 x] 3 (0, 0)) := heap_alloc_new W _
  have hcx : ∀ j u, [Value.int .i64 x][j]? = some u -> (W.alloc (.cells #[.int .i64 x] 3)).cell? ((⟨W.heap.size, 0, none⟩ : Addr).add j) = some u := fun j u hu => by
   cases j with
   | zero => simp at hu; subst hu; exact zc hown1 0
   | succ j => simp at hu
  gi_wp2_with (gi_at_builtin; refine wpListIn_append_own _ rfl _ _ 28 rfl w.heap.size 3 i0 (.int .i64 0) 1 8 Tryz.underlying28 hi hz0 hz1 hz2 rfl (by decide) v pre.length (zo pre) rfl ho1 ⟨W.heap.size, 0, none⟩ 1 1 [.int .i64 x] rfl rfl hcx (by simp [Value.oneCell']) (by unfold maxLen; omega) (by omega) hb1.size ?_; intro v' w3 hown' hg3 hnil3; have hv3 : w3.heap[w.heap.size]? = some (.cells #[v] 28 (0, 0)) := (hg3.block _ (Array.getElem?_eq_some_iff.1 hv1).1 (fun e => hnb e.symm)).trans hv1; have hc3 : w3.cell? ⟨w.heap.size, 0, none⟩ = some v := zc hv3 0; have hf3 := zt hv3 0; obtain ⟨A3, c3, rfl⟩ := Y1 hown'; clear hnil3)
  have hk1 : KeepsOthers W w3 := (KeepsOthers.alloc W _).trans (KeepsOthers.of_grownBy hg3 (fun j o ej hj => by
   rcases ho1.2 with ⟨rfl, _⟩ | ⟨g, cap2, cur, rfl, hg, hh, _⟩
   ·cases ej
   ·injection ej with ej
    have : g = j := ej
    subst this
    rw [hh] at hj
    cases hj
    rfl))
  have hb3 : Below w.heap.size W w3 := ((Below.refl _ W).alloc hb.size _).grown hg3 (by simp; have := hb.size; omega) (fun k e => own_lo' ho1 k e)
  have ht := Turned.setCell (Turned.refl (fun k => k = w.heap.size) w3) (b := ⟨w.heap.size, 0, none⟩) (fun _ => rfl) (.slice A3 (pre.length + 1) c3)
  have hb4 : Below w.heap.size W (w3.setCell ⟨w.heap.size, 0, none⟩ (.slice A3 (pre.length + 1) c3)) := hb3.trans (ht.below (fun k e => by omega) (by have := hb.size; have := hb3.size; omega))
  refine ⟨hk1.trans (KeepsOthers.setCell _ _ _), hb4, ⟨.slice A3 (pre.length + 1) c3, ?_, ?_⟩, hb.trans hb4⟩
  ·have := zG hv3 0 (.slice A3 (pre.length + 1) c3)
   simpa using this
  ·have h5 := ht.own hown' (fun k hk e => by subst e; exact Yr hown' hv3 (fun cs e => by cases e) hk)
   rw [List.length_append, zW]
   exact h5
 case done =>
  rintro D ys W hD rfl ⟨⟨v, hv, ho⟩, hb⟩ hK
  have hc2 := zc hv 0
  simp only [List.getElem?_toArray, List.getElem?_cons_zero] at hc2
  obtain ⟨A3, c3, rfl⟩ := Y1 ho
  gi_wp2
  refine ⟨by simp, .inl ⟨_, _, rfl, run_takeDeferred hK, ?_⟩⟩
  have hg3 := grownBy_putObj' W D (.deferred none)
  refine ⟨_, results_tmp rfl _ _ _, A3, c3, by rw [zz, hx]; rfl, ?_, hb.grown hg3 hb.size (fun k e => by cases e; omega)⟩
  rw [zz]
  exact XV ho hg3 (fun k hk e => Yr ho hK (fun cs e => by cases e) (by injection e with e; rw [hk, e]))
 case stop =>
  rintro D c pre W hD _ h hK
  exact h.elim
theorem Collect_any (Bs len cap : Nat) (A : Option Addr) (xs : List Int) (hx : xs.length = len) (hlen : len <= 1000000) (w : World) (hBs : Bs < w.heap.size) (hBc : w.cell? ⟨Bs, 0, none⟩ = some (.slice A len cap)) (hs : Seen w A (zo xs)) :
  Calls Tryz.prog 115 #[.func (.func 116) #[] #[.pointer (some ⟨Bs, 0, none⟩)]] w (Zd 3 (zo xs) w) := by
 have K := ihq ((callsIn_wide (n := 8)).1 (Qh Bs len cap A xs hx hlen w hBs hBc hs))
 clear hx hBc hs
 go_enter Tryz.func115, Tryz.ntmps115
 go_wp2_with fail
 refine K.out.mono ?_
 rintro e w' ⟨A2, c2, rfl, hown, hb⟩
 have Ho := ihq hown; have Hb := ihq hb
 clear hown hb
 go_wp2
 go_ret
 exact ⟨A2, c2, rfl, Ho.out, Hb.out⟩
theorem SortedV_any (Bs len cap : Nat) (A : Option Addr) (xs : List Int) (hx : xs.length = len) (hlen : len <= 1000000) (w : World) (hBs : Bs < w.heap.size) (hBc : w.cell? ⟨Bs, 0, none⟩ = some (.slice A len cap)) (hs : Seen w A (zo xs)) :
  Calls Tryz.prog 94 #[.func (.func 116) #[] #[.pointer (some ⟨Bs, 0, none⟩)]] w (Zd 3 (zo (yZ xs)) w) := by
 have K := ihq (Collect_any Bs len cap A xs hx hlen w hBs hBc hs)
 have Hx := ihq hx
 clear hBc hs hx
 go_enter Tryz.func94, Tryz.ntmps94
 go_wp2_with fail
 refine K.out.mono ?_
 rintro e w1 ⟨A2, c2, rfl, hown, hb⟩
 have el : (zo xs).length = len := by rw [zz, Hx.out]
 rw [el] at hown
 rw [el]
 have Ho := ihq hown; have Hb := ihq hb
 clear hown hb el
 go_wp2_with fail
 refine (VSort w.heap.size A2 len c2 xs w1 hlen Ho.out).mono ?_
 rintro e w2 ⟨rfl, hown2, ht2⟩
 have hb2 := ihq (Hb.out.trans (ht2.below (fun k hk => own_lo' Ho.out k hk) Hb.out.size))
 have Ho2 := ihq hown2
 clear hown2 ht2
 go_wp2
 go_ret
 have el2 : (zo (yZ xs)).length = len := by rw [zz, xN, Hx.out]
 exact ⟨A2, c2, by rw [el2]; rfl, by rw [el2]; exact Ho2.out, hb2.out⟩
end Go.Proofs.YteebkolccbcehaaGreat
end

section
set_option linter.all false
namespace Go.Proofs.YteebkolccbcehaaGreat
open Go.ChangeShapes Go.WideShapes Go.ChangeAt Go.RowKit Go.Shelf Go.Sort
def repS (l : List Int) : Bool := decide ((Lib.compact (yZ l)).length < l.length)
theorem XS {l : List Int} (h : l.Nodup) : repS l = false := by
 have hp : (yZ l).Perm l := List.mergeSort_perm _ _
 have hn : (yZ l).Nodup := hp.nodup_iff.2 h
 have e : Lib.compact (yZ l) = yZ l := by
  refine Lib.compact_all _ fun j hj => ?_
  unfold Lib.keeps
  rw [decide_eq_true_iff]
  by_cases h0 : j = 0
  ·exact .inl h0
  ·refine .inr fun e => ?_
   have h1 : j - 1 < (yZ l).length := by omega
   have e1 : (yZ l).toArray[j]! = (yZ l)[j] := by rw [getElem!_pos _ _ (by simpa using hj)]; simp
   have e2 : (yZ l).toArray[j - 1]! = (yZ l)[j - 1] := by rw [getElem!_pos _ _ (by simpa using h1)]; simp
   rw [e1, e2] at e
   have := (List.getElem_inj hn).1 e
   omega
 unfold repS
 rw [e, xN]
 simp
theorem Values_any (A : Option Addr) (n c : Nat) (w : World) : Calls Tryz.prog 95 #[.slice A n c] w fun e w' => e = .returned (.func (.func 116) #[] #[.pointer (some ⟨w.heap.size, 0, none⟩)]) /\ w' = w.alloc (.cells #[.slice A n c] 28) :=
 (callsIn_wide (n := 5)).1 (values_in Fence.wide 5 trivial rfl A n c w)
theorem VCompact (B : Nat) (A : Option Addr) (n c : Nat) (xs : List Int) (w : World) (hl : n <= 1000000) (h : w.ownsRow B 3 1 (.slice A n c) n (zo xs)) (hB : B <= w.heap.size) :
  Calls Tryz.prog 96 #[.slice A n c] w fun e w' => e = .returned (.slice A (Lib.compact xs).length c) /\ Below B w w' := by
 have hlen : xs.length = n := by have := h.1; rw [zz] at this; omega
 subst hlen
 by_cases h0 : xs.length = 0
 ·obtain rfl := List.length_eq_zero_iff.1 h0
  refine (Any.slices_Compact_int_empty Tryz.intsCompact A c w).mono ?_
  rintro e w' ⟨rfl, rfl⟩
  exact ⟨rfl, Below.refl _ _⟩
 rcases h.2 with ⟨e0, e1⟩ | ⟨g, cap, cur, e0, hb, hg, hn, hm, hs, ht⟩
 ·exact absurd e1 h0
 injection e0 with e1 _ e3
 subst e1; subst e3
 rw [Nat.mul_one] at ht
 have hH := holds_of_blockI (ss := xs) hg ht
 refine (Any.slices_Compact_int Tryz.intsCompact g 0 c xs w hH (by omega) hn).mono ?_
 rintro e w' ⟨rfl, q, rfl⟩
 exact ⟨rfl, Yz.below (fun k e => by omega) hB⟩
theorem VRepeats (A : Option Addr) (n c : Nat) (xs : List Int) (w : World) (hx : xs.length = n) (hl : n <= 1000000) (hs : Seen w A (zo xs)) :
  Calls Tryz.prog 62 #[.slice A n c] w fun e w' => e = .returned (.bool (repS xs)) /\ Below w.heap.size w w' := by
 have hb1 := (Below.refl _ w).alloc (Nat.le_refl _) (.cells #[.slice A n c] 28)
 have K := ihq (SortedV_any w.heap.size n c A xs hx hl (w.alloc (.cells #[.slice A n c] 28)) (by simp) (by have := zc (heap_alloc_new w (.cells #[.slice A n c] 28)) 0; exact this) (hs.below hb1))
 have Hb1 := ihq hb1
 obtain ⟨m, hm⟩ : ∃ m, (Lib.compact (yZ xs)).length = m := ⟨_, rfl⟩
 have hr : repS xs = decide (m < n) := by unfold repS; rw [hm, hx]
 have el : (zo (yZ xs)).length = n := by rw [zz, xN, hx]
 have Hm := ihq hm; have Hr := ihq hr
 clear hs hb1 hm hr hx
 go_enter Tryz.func62, Tryz.ntmps62
 go_wp2_with fail
 refine (Values_any A n c w).mono ?_
 rintro e w1 ⟨rfl, rfl⟩
 go_wp2_with fail
 refine K.out.mono ?_
 rintro e w2 ⟨A2, c2, rfl, hown, hb2⟩
 rw [el] at hown
 rw [el]
 have Ho := ihq hown; have Hb2 := ihq hb2
 clear hown hb2 el K
 go_wp2_with fail
 refine (VCompact _ A2 n c2 (yZ xs) w2 hl Ho.out Hb2.out.size).mono ?_
 rintro e w3 ⟨rfl, hb3⟩
 rw [Hm.out]
 have Hb3 := ihq (Hb1.out.trans ((Hb2.out.trans hb3).mono Hb1.out.size))
 clear hb3
 go_wp2
 go_ret
 exact ⟨by rw [Hr.out]; rfl, Hb3.out⟩
end Go.Proofs.YteebkolccbcehaaGreat
end

section
set_option linter.all false
namespace Go.Proofs.YteebkolccbcehaaGreat
open Go.ChangeShapes Go.WideShapes Go.ChangeAt Go.RowKit Go.Shelf Go.Sort
def okK (s : St) (k : Chk) : Bool := !((k.ms ++ k.js).any fun x => !xr s x) && (!repS (k.ms ++ k.js) && (decide (1 <= k.ms.length) && (decide (k.ms.length + k.js.length <= 4) && decide ((k.js.length : Int) < k.ep))))
theorem gives_srv (b g : Nat) (s : St) (x : Int) (W : World) (hb : W.cell? ⟨b, 0, none⟩ = some (.pointer (some ⟨g, 0, none⟩))) (h : StAt W g s) :
  FnGives Tryz.prog 99 #[.pointer (some ⟨b, 0, none⟩)] #[.int .i64 x] (.bool (!xr s x)) W := by
 show Calls Tryz.prog 99 #[.int .i64 x, .pointer (some ⟨b, 0, none⟩)] W _
 have K := ihq (Q1 g s x W h)
 obtain ⟨t, ht⟩ : ∃ t, xr s x = t := ⟨_, rfl⟩
 rw [ht] at K ⊢
 clear ht h
 go_enter Tryz.func99, Tryz.ntmps99
 go_wp2_with fail
 refine K.out.mono ?_
 rintro e w' ⟨rfl, hw⟩
 subst hw
 go_wp2
 go_ret
 exact ⟨rfl, 0, rfl⟩
theorem VStrange (b g : Nat) (s : St) (S : Sl) (us : List Int) (w : World) (h : zQ w S us) (hl : us.length <= 1000) (hb : w.cell? ⟨b, 0, none⟩ = some (.pointer (some ⟨g, 0, none⟩))) (hs : StAt w g s) :
  Calls Tryz.prog 98 #[.slice S.A S.n S.c, .func (.func 99) #[] #[.pointer (some ⟨b, 0, none⟩)]] w fun e w' => e = .returned (.bool (us.any fun x => !xr s x)) /\ Below w.heap.size w w' := by
 obtain ⟨A, n, c⟩ := S
 have h1 := h.len; have h3 := h.see.1
 simp only at h1 h3 ⊢
 by_cases h0 : n = 0
 ·subst h0
  obtain rfl := List.length_eq_zero_iff.1 h1
  refine (AnyE.slices_ContainsFunc_empty Tryz.containsFuncA A c _ w).mono ?_
  rintro e w' ⟨rfl, rfl⟩
  exact ⟨rfl, Below.refl _ _⟩
 ·obtain ⟨bl, off, rfl, hc⟩ := ZN h3 (by omega)
  have hp : PredAt Tryz.prog 99 #[.pointer (some ⟨b, 0, none⟩)] (Value.int .i64) (fun x => !xr s x) w := fun W x hB => gives_srv b g s x W ((hB.cell (p := ⟨b, 0, none⟩) (block_lt_of_cell hb)).trans hb) (hs.below hB)
  have hC := AnyE.slices_ContainsFunc Tryz.containsFuncA (Value.int .i64) (fun x => !xr s x) 99 #[.pointer (some ⟨b, 0, none⟩)] (enters_of Tryz.func99 (by kernel_rfl) rfl) bl off n c us w hp (by omega) (by omega) (fun j hj => by
   rw [hc j hj, List.getD_eq_getElem?_getD, List.getElem?_eq_getElem hj, getElem!_pos us j hj]; rfl)
  refine hC.mono ?_
  rintro e w' ⟨rfl, q, rfl⟩
  rw [List.take_of_length_le (by omega)]
  exact ⟨rfl, below_drewN' (Below.refl _ _) q⟩
attribute [local go_sem ↓] yd
set_option maxRecDepth 100000 in
set_option maxHeartbeats 4000000 in
theorem VallRight (g : Nat) (s : St) (S : Sl) (X : List Ck) (w : World) (h : StAt w g s) (hX : KsT w S X) (hl : X.length <= 64) (h4 : ∀ k ∈ X, k.ms.length <= 4 /\ k.js.length <= 4) :
  Calls Tryz.prog 63 #[.pointer (some ⟨g, 0, none⟩), .slice S.A S.n S.c] w fun e w' => e = .returned (.bool ((X.map Ck.dat).all (okK s))) /\ Below w.heap.size w w' := by
 have hmk : ∀ (fn : Fn) (first cap : Array Value) (w : World), (Instr.makeFunc fn first cap).run Tryz.prog w = .ok (.func fn first cap) w := fun _ _ _ _ => rfl
 have hn := hX.len
 obtain ⟨A, n, c⟩ := S
 simp only at hn
 have hb1 := (Below.refl _ w).alloc (Nat.le_refl _) (.cells #[.pointer (some ⟨g, 0, none⟩)] 26)
 obtain ⟨W, hW⟩ : ∃ W, w.alloc (.cells #[.pointer (some ⟨g, 0, none⟩)] 26) = W := ⟨_, rfl⟩
 have hbx : W.cell? ⟨w.heap.size, 0, none⟩ = some (.pointer (some ⟨g, 0, none⟩)) := by rw [<- hW]; exact zc (heap_alloc_new w _) 0
 rw [hW] at hb1
 have H := ihq (h.below hb1); have HX := ihq (hX.below hb1); have Hb1 := ihq hb1; have Hbx := ihq hbx; have H4 := ihq h4; have Hn := ihq hn
 have hWs := ihq (show w.heap.size < W.heap.size from by rw [<- hW]; simp)
 clear h hX hb1 hbx h4
 go_enter Tryz.func63, Tryz.ntmps63
 go_wp2
 go_loopw [11] (fun iv wr => ∃ k : Nat, k <= n /\ iv = .int .i64 (k : Int) /\ ((X.take k).map Ck.dat).all (okK s) = true /\ Below W.heap.size W wr) (fun iv _ => n - (intOf iv).toNat)
 case atStart => exact ⟨0, by omega, rfl, rfl, Below.refl _ _⟩
 case round =>
  obtain ⟨k, hk, rfl, hok, hb⟩ := hrel
  by_cases hlt : k < n
  ·obtain ⟨q, hq⟩ : ∃ q, X[k]? = some q := ⟨_, List.getElem?_eq_getElem (by omega)⟩
   have hqX : q ∈ X := List.mem_of_getElem? hq
   have h4q := H4.out q hqX
   have hX2 := HX.out.below hb
   have hck := hX2.ok q hqX
   obtain ⟨p, o, hA, hat⟩ := hX2.get hq
   simp only at hA
   subst hA
   have hld := zC hat
   have k0 : (0 : Int) <= (k : Int) := by omega
   have kn : (k : Int) < (n : Int) := by omega
   have htk : X.take (k + 1) = X.take k ++ [q] := by
    obtain ⟨e1, e2⟩ := List.getElem?_eq_some_iff.1 hq
    rw [List.take_succ_eq_append_getElem e1, e2]
   have Htk := ihq htk
   obtain ⟨W3, hW3, hb3, hrow3⟩ := Zc wr q
   have hat3 := CkAt.of_row hrow3
   have d2 := hat3.c2; have d3 := hat3.c3; have d4 := hat3.c4
   simp only [Nat.zero_add] at d2 d3 d4
   have Hck := ihq (hck.below hb3); have Hb3 := ihq (hb.trans (hb3.mono hb.size)); have Hq := ihq hq; have Hok := ihq hok; have HqX := ihq hqX; have Hat3 := ihq hat3; have Hbb := ihq hb
   have hrow3' := hrow3
   obtain ⟨D, hD⟩ : ∃ D, wr.heap.size = D := ⟨_, rfl⟩
   obtain ⟨m4, j4⟩ := h4q
   obtain ⟨having, hhv⟩ : ∃ l, q.ms ++ q.js = l := ⟨_, rfl⟩
   have hhl : having.length = q.ms.length + q.js.length := by rw [<- hhv, List.length_append]
   have Hhv := ihq hhv
   have ml := ihq hck.m.len; have jl := ihq hck.j.len
   clear hqX hX2 hck hat htk hb3 hrow3 hat3 hq hok hb hhv
   have hdef : okK s q.dat = (!(having.any fun x => !xr s x) && (!repS having && (decide (1 <= q.ms.length) && (decide (q.ms.length + q.js.length <= 4) && decide ((q.js.length : Int) < q.ep))))) := by
    unfold okK Ck.dat
    simp only
    rw [Hhv.out]
   have Hdef := ihq hdef
   clear hdef
   rw [hD] at d2 d3 d4
   go_upto_region 4 with fail
   go_wp2_with fail
   have hb4 := (Below.refl _ W3).alloc (Nat.le_refl _) (.cells #[.slice q.m.A q.m.n q.m.c, .slice q.j.A q.j.n q.j.c] 28)
   refine (VConcat q.m q.j q.ms q.js W3.heap.size _ (zc (heap_alloc_new W3 _) 0) (zc (heap_alloc_new W3 _) 1) (Hck.out.m.below hb4) (Hck.out.j.below hb4) (by omega) (by omega)).mono ?_
   rintro e w5 ⟨S5, rfl, hown5, hb5⟩
   rw [Hhv.out] at hown5
   have hb35 := hb4.trans (hb5.mono hb4.size)
   have Hh5 := ihq (zQ.own hown5); have B35 := ihq hb35
   have dlt : D < W3.heap.size := block_lt_of_cell d2
   have f2 := (hb35.cell (p := ⟨D, 2, none⟩) dlt).trans d2; have f3 := (hb35.cell (p := ⟨D, 3, none⟩) dlt).trans d3; have f4 := (hb35.cell (p := ⟨D, 4, none⟩) dlt).trans d4
   have B05 := ihq (Hb3.out.trans (hb35.mono Hb3.out.size))
   clear hown5 hb5 hb4 hb35 d2 d3 d4 hld hW3 hrow3' hD
   go_wp2_with fail
   refine (VStrange w.heap.size g s S5 having w5 Hh5.out (by omega) ((B05.out.cell (p := ⟨w.heap.size, 0, none⟩) hWs.out).trans Hbx.out) (H.out.below B05.out)).mono ?_
   rintro e w6 ⟨rfl, hb6⟩
   have dlt6 : D < w5.heap.size := block_lt_of_cell f2
   have h2 := (hb6.cell (p := ⟨D, 2, none⟩) dlt6).trans f2; have h3 := (hb6.cell (p := ⟨D, 3, none⟩) dlt6).trans f3; have h4 := (hb6.cell (p := ⟨D, 4, none⟩) dlt6).trans f4
   have B06 := ihq (B05.out.trans (hb6.mono B05.out.size)); have Hh6 := ihq (Hh5.out.below hb6)
   clear hb6 f2 f3 f4 dlt6 dlt
   have hS5 := Hh5.out.len
   have hfail : ∀ V, Below W.heap.size W V -> okK s q.dat = false -> Below w.heap.size w V /\ ((X.map Ck.dat).all (okK s)) = false := fun V hV ho => ⟨Hb1.out.trans (hV.mono Hb1.out.size), by
    rw [List.all_eq_false]
    exact ⟨q.dat, List.mem_map_of_mem HqX.out, by rw [ho]; simp⟩⟩
   have Hfail := ihq hfail
   clear hfail
   have mln := ml.out; have jln := jl.out
   obtain ⟨n5, hn5⟩ : ∃ n5, S5.n = n5 := ⟨_, rfl⟩
   obtain ⟨nm, hnm⟩ : ∃ z, q.m.n = z := ⟨_, rfl⟩
   obtain ⟨nj, hnj⟩ : ∃ z, q.j.n = z := ⟨_, rfl⟩
   rw [hn5] at hS5
   rw [hnm] at h3 mln
   rw [hnj] at h4 jln
   rw [mln, jln] at Hdef
   rw [mln, jln] at hhl
   cases hB1 : (having.any fun x => !xr s x) with
   | true =>
    rw [hB1] at Hdef
    go_wp2
    go_ret
    obtain ⟨r1, r2⟩ := Hfail.out _ B06.out (by rw [Hdef.out]; rfl)
    exact ⟨by rw [r2]; rfl, r1⟩
   | false =>
    rw [hB1] at Hdef
    have KR := ihq (VRepeats S5.A S5.n S5.c having w6 Hh6.out.len (by rw [hn5]; omega) Hh6.out.see.1)
    rw [hn5] at KR
    have h5 : n5 = nm + nj := by omega
    cases hB2 : repS having with
    | true =>
     rw [hB2] at KR Hdef
     clear h5 hS5 hhl hB1 hB2
     go_wp2_with fail
     refine KR.out.mono ?_
     rintro e w7 ⟨rfl, hb7⟩
     have B07 := ihq (B06.out.trans (hb7.mono B06.out.size))
     clear hb7 h2 h3 h4
     go_wp2
     go_ret
     obtain ⟨r1, r2⟩ := Hfail.out _ B07.out (by rw [Hdef.out]; rfl)
     exact ⟨by rw [r2]; rfl, r1⟩
    | false =>
     rw [hB2] at KR Hdef
     have H5 := ihq h5
     clear h5 hS5 hhl hB1 hB2
     go_wp2_with fail
     refine KR.out.mono ?_
     rintro e w7 ⟨rfl, hb7⟩
     have dlt6 : D < w6.heap.size := block_lt_of_cell h2
     have i2 := (hb7.cell (p := ⟨D, 2, none⟩) dlt6).trans h2; have i3 := (hb7.cell (p := ⟨D, 3, none⟩) dlt6).trans h3; have i4 := (hb7.cell (p := ⟨D, 4, none⟩) dlt6).trans h4
     have B07 := ihq (B06.out.trans (hb7.mono B06.out.size))
     clear hb7 h2 h3 h4 dlt6
     by_cases c3 : nm < 1
     ·have c3' : (nm : Int) < 1 := by omega
      go_wp2
      go_ret
      obtain ⟨r1, r2⟩ := Hfail.out _ B07.out (by rw [Hdef.out, decide_eq_false (by omega : ¬ 1 <= nm)]; rfl)
      exact ⟨by rw [r2]; rfl, r1⟩
     ·have c3' : ¬ (nm : Int) < 1 := by omega
      by_cases c4 : n5 > 4
      ·have c4' : (n5 : Int) > 4 := by omega
       go_wp2
       go_ret
       obtain ⟨r1, r2⟩ := Hfail.out _ B07.out (by rw [Hdef.out, decide_eq_false (by have := H5.out; omega : ¬ nm + nj <= 4)]; simp)
       exact ⟨by rw [r2]; rfl, r1⟩
      ·have c4' : ¬ (n5 : Int) > 4 := by omega
       by_cases c5 : q.ep <= (nj : Int)
       ·go_wp2
        go_ret
        obtain ⟨r1, r2⟩ := Hfail.out _ B07.out (by rw [Hdef.out, decide_eq_false (by omega : ¬ (nj : Int) < q.ep)]; simp)
        exact ⟨by rw [r2]; rfl, r1⟩
       ·have hgood : okK s q.dat = true := by
         rw [Hdef.out, decide_eq_true (by omega : 1 <= nm), decide_eq_true (by have := H5.out; omega : nm + nj <= 4), decide_eq_true (by omega : (nj : Int) < q.ep)]; rfl
        have Hgood := ihq hgood
        clear hgood
        go_wp2
        go_roundw
        case rel => exact ⟨k + 1, by omega, by go_num, by rw [Htk.out, List.map_append, List.all_append, Hok.out]; simp [Hgood.out], B07.out⟩
        case measure => simp [intOf]; omega
  ·obtain rfl : k = n := by omega
   rw [List.take_of_length_le (by omega)] at hok
   go_wp2
   go_ret
   exact ⟨by rw [hok]; rfl, Hb1.out.trans (hb.mono Hb1.out.size)⟩
end Go.Proofs.YteebkolccbcehaaGreat
end
