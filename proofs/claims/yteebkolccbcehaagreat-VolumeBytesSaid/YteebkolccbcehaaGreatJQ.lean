/-
  Joined: RfFn, RfPol, RfOut. Conditions: each theorem's own.
-/
import Derived.Test.YteebkolccbcehaaGreatJP
import Derived.Test.YteebkolccbcehaaGreatJE

section
set_option linter.all false
namespace Go.Proofs.YteebkolccbcehaaGreat
open Go.ChangeShapes Go.WideShapes Go.ChangeAt Go.RowKit
theorem zQ.has {w : World} {s : Sl} {us : List Int} (h : zQ w s us) (v : Int) : Calls Tryz.prog 90 #[.slice s.A s.n s.c, .int .i64 v] w fun e w' => e = .returned (.bool (decide (v ∈ us))) /\ w' = w :=
 Has_any s.A s.n s.c us v w h.len (by have := h.cap; have := h.max; omega) h.see.1
set_option maxRecDepth 100000 in
theorem RHas (k : Ck) (x : Int) (w : World) (h : CkOk w k) :
  Calls Tryz.prog 73 #[ckA k, .int .i64 x] w fun e w' => e = .returned (.bool (hasK x k.dat)) /\ Below w.heap.size w w' := by
 unfold ckA
 obtain ⟨w1, hw1, hb1, hr⟩ := Zc w k
 have C1 := ihq ((h.m.below hb1).has x)
 have C2 := ihq ((h.j.below hb1).has x)
 have c3 : w1.cell? ⟨w.heap.size, 3, none⟩ = some (.slice k.m.A k.m.n k.m.c) := zc hr 3
 have c4 : w1.cell? ⟨w.heap.size, 4, none⟩ = some (.slice k.j.A k.j.n k.j.c) := zc hr 4
 have Hb := ihq hb1
 have e0 : hasK x k.dat = (decide (x ∈ k.ms) || decide (x ∈ k.js)) := rfl
 rw [e0]
 obtain ⟨b1, e1⟩ : ∃ b, decide (x ∈ k.ms) = b := ⟨_, rfl⟩
 obtain ⟨b2, e2⟩ : ∃ b, decide (x ∈ k.js) = b := ⟨_, rfl⟩
 rw [e1, e2]
 rw [e1] at C1
 rw [e2] at C2
 clear e0 e1 e2 h hb1 hr
 cases b1 with
 | true =>
  go_enter Tryz.func73, Tryz.ntmps73
  go_wp2_with (go_at_call 90; refine C1.out.mono ?_; rintro e w' ⟨rfl, rfl⟩)
  go_ret
  exact ⟨rfl, Hb.out⟩
 | false =>
  go_enter Tryz.func73, Tryz.ntmps73
  go_wp2_with fail
  refine C1.out.mono ?_
  rintro e w' ⟨rfl, rfl⟩
  go_wp2_with fail
  refine C2.out.mono ?_
  rintro e w' ⟨rfl, rfl⟩
  go_wp2
  go_ret
  exact ⟨rfl, Hb.out⟩
def ixV : Option Nat -> Int
 | some q => (q : Int)
 | none => -1
theorem ix_step {α : Type} {p : α -> Bool} {l : List α} {i : Nat} {x : α} (h : ∀ j y, j < i -> l[j]? = some y -> p y = false) (hx : l[i]? = some x) (hp : p x = true) : l.findIdx? p = some i := by
 obtain ⟨h1, rfl⟩ := List.getElem?_eq_some_iff.1 hx
 rw [List.findIdx?_eq_some_iff_getElem]
 exact ⟨h1, hp, fun j hj => by rw [h j _ hj (List.getElem?_eq_getElem (by omega))]; simp⟩
theorem ix_end {α : Type} {p : α -> Bool} {l : List α} (h : ∀ j y, j < l.length -> l[j]? = some y -> p y = false) : l.findIdx? p = none := by
 rw [List.findIdx?_eq_none_iff]
 intro x hx
 obtain ⟨j, hj⟩ := List.mem_iff_getElem?.1 hx
 exact h j x (List.getElem?_eq_some_iff.1 hj).1 hj
theorem XR {a b : Int} (h : a = b) : Ending.returned (.int .i64 a) = Ending.returned (.int .i64 b) := by rw [h]
set_option maxRecDepth 100000 in
theorem RVol (f : Rf) (x : Int) (w : World) (h : RfOk w f) :
  Calls Tryz.prog 49 #[f.val, .int .i64 x] w fun e w' => e = .returned (.int .i64 (ixV (yS f.dat.vs x))) /\ Below w.heap.size w w' := by
 unfold Rf.val
 obtain ⟨w1, hw1, hb1, hr⟩ := yb w f
 have c1 : w1.cell? ⟨w.heap.size, 1, none⟩ = some (.slice f.v.A f.v.n f.v.c) := zc hr 1
 have H := ihq (h.below hb1); have Hb := ihq hb1
 have hn : f.X.length = f.v.n := h.v.len
 have hl := h.vl
 obtain ⟨n, en⟩ : ∃ n, f.v.n = n := ⟨_, rfl⟩
 rw [en] at hn c1 hw1
 rw [en]
 have hl' : n <= 64 := by omega
 have Hn := ihq hn
 clear h hb1 hr hn hl en
 go_enter Tryz.func49, Tryz.ntmps49
 go_wp2
 go_loopw [5] (fun i wr => ∃ k : Nat, k <= n /\ i = .int .i64 k /\ w1 = wr /\ ∀ j y, j < k -> f.dat.vs[j]? = some y -> decide (y.id = x) = false) (fun i _ => n - (intOf i).toNat)
 case atStart => exact ⟨0, by omega, rfl, rfl, fun j y hj => by omega⟩
 case round =>
  obtain ⟨k, hk, rfl, rfl, hg⟩ := hrel
  have Hg := ihq hg; clear hg
  by_cases hlt : k < n
  ·obtain ⟨v, hv⟩ : ∃ v, f.X[k]? = some v := ⟨_, List.getElem?_eq_getElem (by have := Hn.out; omega)⟩
   obtain ⟨g, o, hA, hat⟩ := H.out.v.get hv
   have hd : f.dat.vs[k]? = some v.dat := by show (f.X.map Vk.dat)[k]? = _; rw [List.getElem?_map, hv]; rfl
   have c2 := hat.c0
   rw [hA] at c1
   have b0 : (0 : Int) <= (k : Int) := by omega
   have b1 : (k : Int) < (n : Int) := by omega
   have Hd := ihq hd
   clear hd hat hA hv
   by_cases he : v.id = x
   ·have hq : (v.id == x) = true := by simpa using he
    have He := ihq he; clear he
    go_wp2
    go_ret
    exact ⟨XR (by rw [show yS f.dat.vs x = some k from ix_step Hg.out Hd.out (decide_eq_true He.out)]; rfl), Hb.out⟩
   ·have hq : (v.id == x) = false := by simpa using he
    have He := ihq he; clear he
    go_wp2
    go_roundw
    case rel => exact ⟨k + 1, by omega, by go_num, by first | trivial | rfl, fun j y hj hy => by
     rcases (by omega : j < k \/ j = k) with h3 | rfl
     ·exact Hg.out j y h3 hy
     ·rw [Hd.out] at hy; injection hy with hy; subst hy; exact decide_eq_false He.out⟩
    case measure => simp [intOf]; omega
  ·obtain rfl : k = n := by omega
   go_wp2
   go_ret
   exact ⟨XR (by rw [show yS f.dat.vs x = none from ix_end (fun j y hj => Hg.out j y (by have : (f.X.map Vk.dat).length = f.X.length := List.length_map ..; have := Hn.out; have e3 : f.dat.vs = f.X.map Vk.dat := rfl; rw [e3] at hj; omega))]; rfl), Hb.out⟩
set_option maxRecDepth 100000 in
theorem xR (f : Rf) (x : Int) (w : World) (h : RfOk w f) :
  Calls Tryz.prog 54 #[f.val, .int .i64 x] w fun e w' => e = .returned (.int .i64 (ixV (chIx f.dat.cs x))) /\ Below w.heap.size w w' := by
 unfold Rf.val
 obtain ⟨w1, hw1, hb1, hr⟩ := yb w f
 have c1 : w1.cell? ⟨w.heap.size, 2, none⟩ = some (.slice f.k.A f.k.n f.k.c) := zc hr 2
 have H := ihq (h.below hb1); have Hb := ihq hb1
 have hn : f.K.length = f.k.n := h.k.len
 have hl := h.kl
 obtain ⟨n, en⟩ : ∃ n, f.k.n = n := ⟨_, rfl⟩
 rw [en] at hn c1 hw1
 rw [en]
 have hl' : n <= 10000 := by omega
 have Hn := ihq hn
 clear h hb1 hr hn hl en
 go_enter Tryz.func54, Tryz.ntmps54
 go_wp2
 go_loopw [5] (fun i wr => ∃ k : Nat, k <= n /\ i = .int .i64 k /\ w1 = wr /\ ∀ j y, j < k -> f.dat.cs[j]? = some y -> decide (y.id = x) = false) (fun i _ => n - (intOf i).toNat)
 case atStart => exact ⟨0, by omega, rfl, rfl, fun j y hj => by omega⟩
 case round =>
  obtain ⟨k, hk, rfl, rfl, hg⟩ := hrel
  have Hg := ihq hg; clear hg
  by_cases hlt : k < n
  ·obtain ⟨v, hv⟩ : ∃ v, f.K[k]? = some v := ⟨_, List.getElem?_eq_getElem (by have := Hn.out; omega)⟩
   obtain ⟨g, o, hA, hat⟩ := H.out.k.get hv
   have hd : f.dat.cs[k]? = some v.dat := by show (f.K.map Ck.dat)[k]? = _; rw [List.getElem?_map, hv]; rfl
   have c2 := hat.c0
   rw [hA] at c1
   have b0 : (0 : Int) <= (k : Int) := by omega
   have b1 : (k : Int) < (n : Int) := by omega
   have Hd := ihq hd
   clear hd hat hA hv
   by_cases he : v.id = x
   ·have hq : (v.id == x) = true := by simpa using he
    have He := ihq he; clear he
    go_wp2
    go_ret
    exact ⟨XR (by rw [show chIx f.dat.cs x = some k from ix_step Hg.out Hd.out (decide_eq_true He.out)]; rfl), Hb.out⟩
   ·have hq : (v.id == x) = false := by simpa using he
    have He := ihq he; clear he
    go_wp2
    go_roundw
    case rel => exact ⟨k + 1, by omega, by go_num, by first | trivial | rfl, fun j y hj hy => by
     rcases (by omega : j < k \/ j = k) with h3 | rfl
     ·exact Hg.out j y h3 hy
     ·rw [Hd.out] at hy; injection hy with hy; subst hy; exact decide_eq_false He.out⟩
    case measure => simp [intOf]; omega
  ·obtain rfl : k = n := by omega
   go_wp2
   go_ret
   exact ⟨XR (by rw [show chIx f.dat.cs x = none from ix_end (fun j y hj => Hg.out j y (by have : (f.K.map Ck.dat).length = f.K.length := List.length_map ..; have := Hn.out; have e3 : f.dat.cs = f.K.map Ck.dat := rfl; rw [e3] at hj; omega))]; rfl), Hb.out⟩
def cntR (pk : Nat -> Int) (n : Nat) : Nat := ((List.range n).filter fun i => decide (0 < pk i)).length
theorem cntR_yes {pk : Nat -> Int} {n : Nat} (h : 0 < pk n) : cntR pk (n + 1) = cntR pk n + 1 := by simp [cntR, List.range_succ, h]
theorem cntR_no {pk : Nat -> Int} {n : Nat} (h : ¬ 0 < pk n) : cntR pk (n + 1) = cntR pk n := by simp [cntR, List.range_succ, h]
theorem cntR_le (pk : Nat -> Int) (n : Nat) : cntR pk n <= n := by
 have := List.length_filter_le (fun i => decide (0 < pk i)) (List.range n)
 simpa [cntR] using this
set_option maxRecDepth 100000 in
theorem Rcount (f : Rf) (w : World) (h : RfOk w f) :
  Calls Tryz.prog 51 #[f.val] w fun e w' => e = .returned (.int .i64 (cntR f.pk 16 : Nat)) /\ Below w.heap.size w w' := by
 unfold Rf.val
 obtain ⟨w1, hw1, hb1, hr⟩ := yb w f
 have hpn := h.pn
 have hcap := h.p.cap
 have c1 : w1.cell? ⟨w.heap.size, 0, none⟩ = some (.slice f.p.A f.p.n f.p.c) := zc hr 0
 rw [hpn] at c1 hw1
 rw [hpn]
 have H := ihq (h.below hb1); have Hb := ihq hb1
 clear h hb1 hr hpn hcap
 go_enter Tryz.func51, Tryz.ntmps51
 go_wp2
 go_loopw [3, 4] (fun m i wr => ∃ k : Nat, k <= 16 /\ i = .int .i64 k /\ m = .int .i64 (cntR f.pk k : Nat) /\ w1 = wr) (fun _ i _ => 16 - (intOf i).toNat)
 case atStart => exact ⟨0, by omega, rfl, rfl, rfl⟩
 case round =>
  obtain ⟨k, hk, rfl, rfl, rfl⟩ := hrel
  have hc := cntR_le f.pk k
  obtain ⟨m, hm⟩ : ∃ m, cntR f.pk k = m := ⟨_, rfl⟩
  rw [hm] at hc ⊢
  by_cases hlt : k < 16
  ·obtain ⟨g, o, hA, c2⟩ := H.out.pick hlt
   rw [hA] at c1
   have b0 : (0 : Int) <= (k : Int) := by omega
   have b1 : (k : Int) < 16 := by omega
   have Hm := ihq hm
   clear hA hm
   by_cases hp : 0 < f.pk k
   ·have He := ihq hp
    go_wp2
    go_roundw
    case rel => exact ⟨k + 1, by omega, by go_num, by rw [cntR_yes He.out, Hm.out]; go_num, by first | trivial | rfl⟩
    case measure => simp [intOf]; omega
   ·have He := ihq hp
    go_wp2
    go_roundw
    case rel => exact ⟨k + 1, by omega, by go_num, by rw [cntR_no He.out, Hm.out], by first | trivial | rfl⟩
    case measure => simp [intOf]; omega
  ·obtain rfl : k = 16 := by omega
   have Hm := ihq hm; clear hm
   go_wp2
   go_ret
   exact ⟨XR (by rw [Hm.out]), Hb.out⟩
end Go.Proofs.YteebkolccbcehaaGreat
end

section
set_option linter.all false
namespace Go.Proofs.YteebkolccbcehaaGreat
open Go.ChangeShapes Go.WideShapes Go.ChangeAt Go.RowKit
def pN (r : RS) (sv : Int) (i : Nat) : List Pol := ((r.vs.take i).filter fun v => r.cs.any fun k => decide (k.vo = v.id) && hasK sv k).map RV.p
theorem pN_yes {r : RS} {sv : Int} {i : Nat} {v : RV} (hv : r.vs[i]? = some v) (h : (r.cs.any fun k => decide (k.vo = v.id) && hasK sv k) = true) : pN r sv (i + 1) = pN r sv i ++ [v.p] := by
 unfold pN
 rw [xX hv, List.filter_append, List.map_append, List.filter_cons, if_pos h]
 rfl
theorem pN_no {r : RS} {sv : Int} {i : Nat} {v : RV} (hv : r.vs[i]? = some v) (h : (r.cs.any fun k => decide (k.vo = v.id) && hasK sv k) = false) : pN r sv (i + 1) = pN r sv i := by
 unfold pN
 rw [xX hv, List.filter_append, List.filter_cons, if_neg (by rw [h]; simp)]
 simp
theorem pN_len (r : RS) (sv : Int) (i : Nat) : (pN r sv i).length <= i := by
 have := List.length_filter_le (fun v => r.cs.any fun k => decide (k.vo = v.id) && hasK sv k) (r.vs.take i)
 rw [List.length_take] at this
 simp only [pN, List.length_map]
 omega
theorem pN_all (r : RS) (sv : Int) {n : Nat} (h : r.vs.length = n) : pN r sv n = Zs r sv := by
 unfold pN Zs
 rw [List.take_of_length_le (by omega)]
def isN (r : RS) (v sv : Int) (k : Nat) : Bool := (r.cs.take k).any fun x => decide (x.vo = v) && hasK sv x
theorem isN_step {r : RS} {v sv : Int} {k : Nat} {x : Chk} (h : r.cs[k]? = some x) : isN r v sv (k + 1) = (isN r v sv k || (decide (x.vo = v) && hasK sv x)) := by
 unfold isN
 rw [xX h, List.any_append]
 simp
theorem isN_all (r : RS) (v sv : Int) {n : Nat} (h : r.cs.length = n) : isN r v sv n = r.cs.any fun x => decide (x.vo = v) && hasK sv x := by
 unfold isN
 rw [List.take_of_length_le (by omega)]
theorem pN_in {w : World} {f : Rf} (h : RfOk w f) (sv : Int) (i : Nat) : ∀ p ∈ pN f.dat sv i, InP p := fun p hp => by
 obtain ⟨v, hv, rfl⟩ := List.mem_map.1 hp
 have h2 : v ∈ f.dat.vs := List.mem_of_mem_take (List.mem_filter.1 hv).1
 obtain ⟨x, hx, rfl⟩ := List.mem_map.1 h2
 exact h.v.inp x hx
attribute [local irreducible] wpQuiet
attribute [local go_sem ↓] yd yA
set_option maxRecDepth 100000 in
set_option maxHeartbeats 4000000 in
theorem Q4 (f : Rf) (sv : Int) (w : World) (h : RfOk w f) :
  Calls Tryz.prog 37 #[f.val, .int .i64 sv] w (Zp 37 4 (Zs f.dat sv).length (xD (Zs f.dat sv)) w) := by
 unfold Rf.val
 obtain ⟨w1, hw1, hb1, hr⟩ := yb w f
 have c1 : w1.cell? ⟨w.heap.size, 1, none⟩ = some (.slice f.v.A f.v.n f.v.c) := zc hr 1
 have c2 : w1.cell? ⟨w.heap.size, 2, none⟩ = some (.slice f.k.A f.k.n f.k.c) := zc hr 2
 have H := ihq (h.below hb1); have Hb1 := ihq hb1
 have hn : f.dat.vs.length = f.v.n := (List.length_map ..).trans h.v.len
 have hm : f.dat.cs.length = f.k.n := (List.length_map ..).trans h.k.len
 have hl : f.dat.vs.length <= 64 := (show f.dat.vs.length = f.X.length from List.length_map ..) ▸ h.vl
 have hl2 : f.dat.cs.length <= 10000 := (show f.dat.cs.length = f.K.length from List.length_map ..) ▸ h.kl
 obtain ⟨n, en⟩ : ∃ n, f.v.n = n := ⟨_, rfl⟩
 obtain ⟨m, em⟩ : ∃ m, f.k.n = m := ⟨_, rfl⟩
 rw [en] at hn c1 hw1
 rw [em] at hm c2 hw1
 rw [en, em]
 have hl' : n <= 64 := by omega
 have hl2' : m <= 10000 := by omega
 have Hn := ihq hn; have Hm := ihq hm
 have C1 := ihq c1; have C2 := ihq c2
 have hlt0 : w.heap.size < w1.heap.size := (Array.getElem?_eq_some_iff.1 hr).1
 clear h hb1 hr hn hm hl hl2 en em c1 c2
 go_enter Tryz.func37, Tryz.ntmps37
 go_wp2
 go_loopw [5, 6] (fun lv iv wr => ∃ (i : Nat) (A' : Option Addr) (c' : Nat), i <= n /\ iv = .int .i64 (i : Int) /\ lv = .slice A' (pN f.dat sv i).length c' /\ wr.ownsRow w1.heap.size 37 4 (.slice A' (pN f.dat sv i).length c') (pN f.dat sv i).length (xD (pN f.dat sv i)) /\ Below w1.heap.size w1 wr) (fun _ iv _ => n - (intOf iv).toNat)
 case atStart => exact ⟨0, _, _, by omega, rfl, rfl, World.ownsRow_nil _ _ _ _, Below.refl _ _⟩
 case round =>
  obtain ⟨wo, rfl⟩ : ∃ wo, wo = wr := ⟨_, rfl⟩
  obtain ⟨i, A', c', hin, rfl, rfl, ho, hb⟩ := hrel
  obtain ⟨q, hq⟩ : ∃ q, (pN f.dat sv i).length = q := ⟨_, rfl⟩
  have hq6 : q <= i := by have := pN_len f.dat sv i; omega
  rw [hq] at ho ⊢
  have c1 : wo.cell? ⟨w.heap.size, 1, none⟩ = some (.slice f.v.A n f.v.c) := by rw [hb.cell hlt0]; exact C1.out
  have Hb := ihq hb; have Ho := ihq ho; have Hq := ihq hq
  clear hb ho hq
  by_cases hi : i < n
  ·obtain ⟨v, hv⟩ : ∃ v, f.X[i]? = some v := ⟨_, List.getElem?_eq_getElem (by have := Hn.out; have e : f.dat.vs.length = f.X.length := List.length_map ..; omega)⟩
   have hd : f.dat.vs[i]? = some v.dat := by show (f.X.map Vk.dat)[i]? = _; rw [List.getElem?_map, hv]; rfl
   obtain ⟨gv, ov, hAv, hat⟩ := (H.out.below Hb.out).v.get hv
   have hpi := H.out.v.inp v (List.mem_of_getElem? hv)
   have Hat := ihq hat; have Hd := ihq hd; have HAv := ihq hAv; have Hpi := ihq hpi
   have i0 : (0 : Int) <= (i : Int) := by omega
   have i1 : (i : Int) < (n : Int) := by omega
   clear hv hd hat hpi hAv
   go_wp2
   go_loopw [7, 8] (fun bv kv wi => ∃ k : Nat, k <= m /\ kv = .int .i64 (k : Int) /\ bv = .bool (isN f.dat v.id sv k) /\ Below wo.heap.size wo wi) (fun _ kv _ => m - (intOf kv).toNat)
   case atStart => exact ⟨0, by omega, rfl, rfl, Below.refl _ _⟩
   case round =>
    obtain ⟨k, hkm, rfl, rfl, hbi⟩ := hrel
    obtain ⟨wi, rfl⟩ : ∃ wi, wi = wr := ⟨_, rfl⟩
    have Hbi := ihq hbi; clear hbi c1
    have hb2 := Hb.out.trans (Hbi.out.mono Hb.out.size)
    have c2 : wi.cell? ⟨w.heap.size, 2, none⟩ = some (.slice f.k.A m f.k.c) := by rw [hb2.cell hlt0]; exact C2.out
    have c1 : wi.cell? ⟨w.heap.size, 1, none⟩ = some (.slice f.v.A n f.v.c) := by rw [hb2.cell hlt0]; exact C1.out
    have hsz : w.heap.size < wi.heap.size := by have := hb2.size; omega
    obtain ⟨b, hbq⟩ : ∃ b, isN f.dat v.id sv k = b := ⟨_, rfl⟩
    rw [hbq]
    by_cases hk : k < m
    ·obtain ⟨x, hx⟩ : ∃ x, f.K[k]? = some x := ⟨_, List.getElem?_eq_getElem (by have := Hm.out; have e : f.dat.cs.length = f.K.length := List.length_map ..; omega)⟩
     have hxd : f.dat.cs[k]? = some x.dat := by show (f.K.map Ck.dat)[k]? = _; rw [List.getElem?_map, hx]; rfl
     obtain ⟨gk, ok, hAk, hck⟩ := (H.out.below hb2).k.get hx
     have hok := (H.out.below hb2).k.ok x (List.mem_of_getElem? hx)
     have k0 : (0 : Int) <= (k : Int) := by omega
     have k1 : (k : Int) < (m : Int) := by omega
     have hs := isN_step (v := v.id) (sv := sv) hxd
     rw [hbq] at hs
     have Hs := ihq hs
     have e1 : ∀ p : zO wi, p.v.cell? ⟨w.heap.size, 1, none⟩ = some (.slice (some ⟨gv, ov, none⟩) n f.v.c) := fun p => by rw [p.h.cell hsz, c1, HAv.out]
     have e2 : ∀ p : zO wi, p.v.cell? ⟨w.heap.size, 2, none⟩ = some (.slice (some ⟨gk, ok, none⟩) m f.k.c) := fun p => by rw [p.h.cell hsz, c2, hAk]
     have e3 : ∀ p : zO wi, p.v.cell? ⟨gk, ok + k * 5 + 1, none⟩ = some (.int .i64 x.vo) := fun p => (hck.below p.h).c1
     have e4 : ∀ p : zO wi, p.v.cell? ⟨gv, ov + i * 8, none⟩ = some (.int .i64 v.id) := fun p => ((Hat.out.below Hbi.out).below p.h).c0
     have e5 : ∀ p : zO wi, _ := fun p => zC (hck.below p.h)
     have K := ihq fun p : zO wi => RHas x sv p.v (hok.below p.h)
     unfold ckA at K
     clear hx hxd hck hok hAk hs hbq hb2
     cases b with
     | true =>
      clear e3 e4 e5 K
      go_wp2
      refine zB (by kernel_rfl) (by kernel_rfl) ?_
      repeat (quiet_step (fail))
      refine wpQuiet_nil ?_
      rintro _ ⟨⟨w9, hb9⟩, rfl⟩
      have H9 := ihq hb9; clear hb9
      go_wp2
      go_roundw
      case rel => exact ⟨k + 1, by omega, by go_num, by rw [Hs.out]; rfl, Hbi.out.trans (H9.out.mono Hbi.out.size)⟩
      case measure => simp [intOf]; omega
     | false =>
      by_cases hvo : x.vo = v.id
      ·have dv : (x.vo == v.id) = true := by simpa using hvo
       have Hvo := ihq hvo
       obtain ⟨y, hy⟩ : ∃ y, hasK sv x.dat = y := ⟨_, rfl⟩
       rw [hy] at K
       have Hy := ihq hy
       clear hvo hy
       go_wp2
       refine zB (by kernel_rfl) (by kernel_rfl) ?_
       repeat (quiet_step (fail))
       quiet_step (exact Calls.below_of (K.out _))
       repeat (quiet_step (fail))
       refine wpQuiet_nil ?_
       rintro _ ⟨⟨w9, hb9⟩, rfl⟩
       have H9 := ihq hb9; clear hb9
       go_wp2
       go_roundw
       case rel => exact ⟨k + 1, by omega, by go_num, by rw [Hs.out, show decide (x.dat.vo = v.id) = true from decide_eq_true Hvo.out, Hy.out]; rfl, Hbi.out.trans (H9.out.mono Hbi.out.size)⟩
       case measure => simp [intOf]; omega
      ·have dv : (x.vo == v.id) = false := by simpa using hvo
       have Hvo := ihq hvo
       clear hvo K
       go_wp2
       refine zB (by kernel_rfl) (by kernel_rfl) ?_
       repeat (quiet_step (fail))
       refine wpQuiet_nil ?_
       rintro _ ⟨⟨w9, hb9⟩, rfl⟩
       have H9 := ihq hb9; clear hb9
       go_wp2
       go_roundw
       case rel => exact ⟨k + 1, by omega, by go_num, by rw [Hs.out, show decide (x.dat.vo = v.id) = false from decide_eq_false Hvo.out]; rfl, Hbi.out.trans (H9.out.mono Hbi.out.size)⟩
       case measure => simp [intOf]; omega
    ·obtain rfl : k = m := by omega
     rw [isN_all f.dat v.id sv Hm.out] at hbq
     rw [HAv.out] at c1
     have k1 : ¬ (k : Int) < (k : Int) := by omega
     have hpat := (Hat.out.below Hbi.out).pol Hpi.out
     obtain ⟨vid, vbl, p, vver, vc, vids⟩ := v
     have hld := zZ hpat
     cases b with
     | true =>
      have Hs := ihq (pN_yes Hd.out hbq)
      obtain ⟨W3, hW3⟩ : ∃ W3, wi.alloc (.cells #[.int .i64 p.re, .int .i64 p.we, .int .i64 p.li, .int .i64 p.bu] 37) = W3 := ⟨_, rfl⟩
      have Hb3 := ihq (show Below wi.heap.size wi W3 from (by rw [<- hW3]; exact zg _ _))
      have Hs3 := ihq (show Seen W3 (some ⟨wi.heap.size, 0, none⟩) (polV p) from (by rw [<- hW3]; exact Seen.of_cells (heap_alloc_new wi _)))
      have Ho3 := ihq (zh (zh Ho.out Hbi.out) Hb3.out)
      have Hb13 := ihq (hb2.trans (Hb3.out.mono hb2.size))
      clear hbq hpat hb2
      go_wp2_with (at_builtin; refine Zz rfl (.tmp 49) (.tmp 56) _ rfl 37 _ 4 32 Tryz.underlying86 QK rfl (by omega) w1.heap.size A' q c' (xD (pN f.dat sv i)) rfl Ho3.out wi.heap.size 0 1 1 (polV p) rfl rfl Hs3.out (fun u hu => by simp [polV] at hu; rcases hu with rfl | rfl | rfl | rfl <;> rfl) (by unfold maxLen; omega) (by omega) Hb13.out.size ?_; intro A4 c4 w4 hown4 hg4 hbk4; have Hown4 := ihq hown4; have Hg4 := ihq hg4; clear hown4 hg4 hbk4)
      go_roundw
      case rel =>
       have tg : Turned (fun k => (Value.slice A' q c').ownBlock = some k) W3 w4 := Turned.of_grown Hg4.out fun k e => e
       have el : (pN f.dat sv (i + 1)).length = q + 1 := by rw [Hs.out, List.length_append, Hq.out]; rfl
       refine ⟨i + 1, A4, c4, by omega, by go_num, by rw [el], ?_, ?_⟩
       ·have := Hown4.out
        rw [el, Hs.out, Y0, show xD [Vk.dat ⟨vid, vbl, p, vver, vc, vids⟩ |>.p] = polV p by simp [xD, Vk.dat]]
        exact this
       ·exact Hb13.out.trans (tg.below (fun k e => (Ho3.out.lt k e).1) Hb13.out.size)
      case measure => simp [intOf]; omega
     | false =>
      have Hs := ihq (pN_no Hd.out hbq)
      have Hb2 := ihq hb2
      clear hbq hpat hld hb2
      go_wp2
      go_roundw
      case rel => exact ⟨i + 1, A', c', by omega, by go_num, by rw [Hs.out, Hq.out], by rw [Hs.out, Hq.out]; exact zh Ho.out Hbi.out, Hb2.out⟩
      case measure => simp [intOf]; omega
  ·obtain rfl : i = n := by omega
   have i1 : ¬ (i : Int) < (i : Int) := by omega
   go_wp2
   go_ret
   rw [<- pN_all f.dat sv Hn.out]
   refine ⟨A', c', ?_, ?_, Hb1.out.trans (Hb.out.mono Hb1.out.size)⟩
   ·show _ = Ending.returned (.slice A' (pN f.dat sv i).length c')
    rw [Hq.out]; rfl
   ·rw [Hq.out]
    exact zY Ho.out Hb1.out.size
end Go.Proofs.YteebkolccbcehaaGreat
end

section
set_option linter.all false
namespace Go.Proofs.YteebkolccbcehaaGreat
open Go.ChangeShapes Go.WideShapes Go.ChangeAt Go.RowKit
theorem YI {α : Type} {q : α -> Bool} {l : List α} {i : Nat} {x : α} (hx : l[i]? = some x) (h : q x = true) : (l.take (i + 1)).filter q = (l.take i).filter q ++ [x] := by
 rw [xX hx, List.filter_append, List.filter_cons, if_pos h]
 rfl
theorem Xm {α : Type} {q : α -> Bool} {l : List α} {i : Nat} {x : α} (hx : l[i]? = some x) (h : q x = false) : (l.take (i + 1)).filter q = (l.take i).filter q := by
 rw [xX hx, List.filter_append, List.filter_cons, if_neg (by rw [h]; simp)]
 simp
theorem Xn {α : Type} (q : α -> Bool) (l : List α) (i : Nat) : ((l.take i).filter q).length <= i := by
 have h1 := List.length_filter_le q (l.take i)
 rw [List.length_take] at h1
 omega
set_option maxRecDepth 100000 in
set_option maxHeartbeats 2000000 in
theorem Yi (s : Sl) (us : List Int) (x : Int) (w : World) (h : zQ w s us) (hn : us.length <= 1000000) :
  Calls Tryz.prog 91 #[.slice s.A s.n s.c, .int .i64 x] w (Zp 3 1 (zl us x).length (zo (zl us x)) w) := by
 have H := ihq h
 have hl := h.len
 obtain ⟨sA, n, sc⟩ := s
 simp only at hl ⊢
 have Hl := ihq hl
 have hn' : n <= 1000000 := by omega
 clear h hn hl
 obtain ⟨q, hq⟩ : ∃ q : Int -> Bool, (fun y => !decide (y = x)) = q := ⟨_, rfl⟩
 have e0 : zl us x = us.filter q := by rw [<- hq]; rfl
 rw [e0]
 have Hq := ihq hq
 clear hq e0
 go_enter Tryz.func91, Tryz.ntmps91
 go_wp2
 go_loopw [5, 6] (fun lv iv wr => ∃ (i : Nat) (A' : Option Addr) (c' : Nat), i <= n /\ iv = .int .i64 (i : Int) /\ lv = .slice A' ((us.take i).filter q).length c' /\ wr.ownsRow w.heap.size 3 1 (.slice A' ((us.take i).filter q).length c') ((us.take i).filter q).length (zo ((us.take i).filter q)) /\ Below w.heap.size w wr) (fun _ iv _ => n - (intOf iv).toNat)
 case atStart => exact ⟨0, _, _, by omega, rfl, rfl, World.ownsRow_nil _ _ _ _, Below.refl _ _⟩
 case round =>
  obtain ⟨i, A', c', hin, rfl, rfl, ho, hb⟩ := hrel
  obtain ⟨m, hm⟩ : ∃ m, ((us.take i).filter q).length = m := ⟨_, rfl⟩
  have hmi : m <= i := by have := Xn q us i; omega
  rw [hm] at ho ⊢
  have Hm := ihq hm
  by_cases hi : i < n
  ·obtain ⟨y, hy⟩ : ∃ y, us[i]? = some y := ⟨_, List.getElem?_eq_getElem (by have := Hl.out; omega)⟩
   obtain ⟨g, o, x', hA, hx', hc⟩ := (H.out.below hb).see.1.num (j := i) (by have := Hl.out; omega)
   rw [hy] at hx'
   injection hx' with hx'
   subst hx'
   simp only at hA
   subst hA
   have b0 : (0 : Int) <= (i : Int) := by omega
   have b1 : (i : Int) < (n : Int) := by omega
   have Hy := ihq hy
   clear hy hm
   by_cases he : y = x
   ·have hqq : (y == x) = true := by simpa using he
    have Hf := ihq (Xm (q := q) Hy.out (by rw [<- Hq.out]; simp [he]))
    have Ho := ihq ho; have Hb := ihq hb
    clear ho hb he
    go_wp2
    go_roundw
    case rel => exact ⟨i + 1, A', c', by omega, by go_num, by rw [Hf.out, Hm.out], by rw [Hf.out, Hm.out]; exact Ho.out, Hb.out⟩
    case measure => simp [intOf]; omega
   ·have hqq : (y == x) = false := by simpa using he
    have Hf := ihq (YI (q := q) Hy.out (by rw [<- Hq.out]; simp [he]))
    obtain ⟨Wb, hWb⟩ : ∃ Wb, wr.alloc (.cells #[.int .i64 y] 3) = Wb := ⟨_, rfl⟩
    have hbb : Below wr.heap.size wr Wb := by rw [<- hWb]; exact zg _ _
    have hsb : Seen Wb (some ⟨wr.heap.size, 0, none⟩) [.int .i64 y] := by rw [<- hWb]; exact Seen.of_cells (heap_alloc_new wr _)
    have Ho := ihq (zh ho hbb); have Hb := ihq (hb.trans (hbb.mono hb.size)); have Hsb := ihq hsb
    clear ho hb hbb hsb he
    go_wp2_with (at_builtin; refine ym rfl (.tmp 19) (.tmp 24) _ rfl 3 _ 8 Tryz.underlying28 zP rfl w.heap.size A' m c' (zo ((us.take i).filter q)) rfl Ho.out (some ⟨wr.heap.size, 0, none⟩) 1 1 [.int .i64 y] rfl rfl Hsb.out (fun u hu => by simp at hu; subst hu; rfl) (by unfold maxLen; omega) (by omega) Hb.out.size ?_; intro A4 c4 w4 hown4 hg4 hbk4; have Hown4 := ihq hown4; have Hg4 := ihq hg4; clear hown4 hg4 hbk4)
    go_roundw
    case rel =>
     have tg : Turned (fun k => (Value.slice A' m c').ownBlock = some k) Wb w4 := Turned.of_grown Hg4.out fun k e => e
     have el : ((us.take (i + 1)).filter q).length = m + 1 := by rw [Hf.out, List.length_append, Hm.out]; rfl
     refine ⟨i + 1, A4, c4, by omega, by go_num, by rw [el], ?_, Hb.out.trans (tg.below (fun k e => (Ho.out.lt k e).1) Hb.out.size)⟩
     rw [el, Hf.out, zW]
     exact Hown4.out
    case measure => simp [intOf]; omega
  ·obtain rfl : i = n := by omega
   have i1 : ¬ (i : Int) < (i : Int) := by omega
   have Ho := ihq ho; have Hb := ihq hb
   have hty : us.take i = us := List.take_of_length_le (by rw [Hl.out]; exact Nat.le_refl _)
   have Hty := ihq hty
   clear ho hb hm hty
   go_wp2
   go_ret
   have h1 := Hm.out; have h2 := Ho.out
   rw [Hty.out] at h1 h2
   refine ⟨A', c', ?_, ?_, Hb.out⟩
   ·rw [h1]; rfl
   ·rw [h1]; exact h2
attribute [local go_sem ↓] yd
set_option maxRecDepth 100000 in
set_option maxHeartbeats 4000000 in
theorem Rout (s t : Sl) (X : List Ck) (us : List Int) (w : World) (h : KsT w s X) (hu : zQ w t us) (hn : X.length <= 10000) :
  Calls Tryz.prog 53 #[.slice s.A s.n s.c, .slice t.A t.n t.c] w (Zp 82 5 (X.filter fun k => !decide (k.id ∈ us)).length (cksV (X.filter fun k => !decide (k.id ∈ us))) w) := by
 have H := ihq h; have Hu := ihq hu
 have hl := h.len
 obtain ⟨n, en⟩ : ∃ n, s.n = n := ⟨_, rfl⟩
 rw [en] at hl ⊢
 have Hl := ihq hl
 have hn' : n <= 10000 := by omega
 clear h hn hl hu en
 obtain ⟨q, hq⟩ : ∃ q : Ck -> Bool, (fun k => !decide (k.id ∈ us)) = q := ⟨_, rfl⟩
 rw [hq]
 have Hq := ihq hq
 clear hq
 go_enter Tryz.func53, Tryz.ntmps53
 go_wp2
 go_loopw [5, 6] (fun lv iv wr => ∃ (i : Nat) (A' : Option Addr) (c' : Nat), i <= n /\ iv = .int .i64 (i : Int) /\ lv = .slice A' ((X.take i).filter q).length c' /\ wr.ownsRow w.heap.size 82 5 (.slice A' ((X.take i).filter q).length c') ((X.take i).filter q).length (cksV ((X.take i).filter q)) /\ Below w.heap.size w wr) (fun _ iv _ => n - (intOf iv).toNat)
 case atStart => exact ⟨0, _, _, by omega, rfl, rfl, World.ownsRow_nil _ _ _ _, Below.refl _ _⟩
 case round =>
  obtain ⟨i, A', c', hin, rfl, rfl, ho, hb⟩ := hrel
  obtain ⟨m, hm⟩ : ∃ m, ((X.take i).filter q).length = m := ⟨_, rfl⟩
  have hmi : m <= i := by have := Xn q X i; omega
  rw [hm] at ho ⊢
  have Hm := ihq hm
  by_cases hi : i < n
  ·obtain ⟨k, hk⟩ : ∃ k, X[i]? = some k := ⟨_, List.getElem?_eq_getElem (by have := Hl.out; omega)⟩
   obtain ⟨g, o, hA, hat⟩ := (H.out.below hb).get hk
   rw [hA]
   have c0 := hat.c0
   have hld := zC hat
   have b0 : (0 : Int) <= (i : Int) := by omega
   have b1 : (i : Int) < (n : Int) := by omega
   have Hk := ihq hk
   have K := ihq ((Hu.out.below hb).has k.id)
   obtain ⟨b, hbe⟩ : ∃ b, decide (k.id ∈ us) = b := ⟨_, rfl⟩
   rw [hbe] at K
   have Hbe := ihq hbe
   clear hk hm hA hbe hat
   cases b with
   | true =>
    have Hf := ihq (Xm (q := q) Hk.out (by rw [<- Hq.out]; simp only [Hbe.out]; rfl))
    have Ho := ihq ho; have Hb := ihq hb
    clear ho hb hld
    go_wp2_with (go_at_call 90; refine K.out.mono ?_; rintro e w' ⟨rfl, e2⟩; have e3 := e2.symm; subst e3; clear e2)
    go_roundw
    case rel => exact ⟨i + 1, A', c', by omega, by go_num, by rw [Hf.out, Hm.out], by rw [Hf.out, Hm.out]; exact Ho.out, Hb.out⟩
    case measure => simp [intOf]; omega
   | false =>
    have Hf := ihq (YI (q := q) Hk.out (by rw [<- Hq.out]; simp only [Hbe.out]; rfl))
    obtain ⟨Wb, hWb⟩ : ∃ Wb, wr.alloc (.cells #[.int .i64 k.id, .int .i64 k.vo, .int .i64 k.ep, .slice k.m.A k.m.n k.m.c, .slice k.j.A k.j.n k.j.c] 82) = Wb := ⟨_, rfl⟩
    have hbb : Below wr.heap.size wr Wb := by rw [<- hWb]; exact zg _ _
    have hsb : Seen Wb (some ⟨wr.heap.size, 0, none⟩) (ckC k) := by rw [<- hWb]; exact Seen.of_cells (heap_alloc_new wr _)
    have Ho := ihq (zh ho hbb); have Hb := ihq (hb.trans (hbb.mono hb.size)); have Hsb := ihq hsb
    clear ho hb hbb hsb
    go_wp2_with (first
     | (go_at_call 90; refine K.out.mono ?_; rintro e w' ⟨rfl, e2⟩; have e3 := e2.symm; subst e3; clear e2)
     | (at_builtin; refine Zz rfl (.tmp 21) (.tmp 26) _ rfl 82 _ 5 72 Tryz.underlying30 yI rfl (by omega) w.heap.size A' m c' (cksV ((X.take i).filter q)) rfl Ho.out wr.heap.size 0 1 1 (ckC k) rfl rfl Hsb.out (fun u hu => by rw [<- xC] at hu; exact zV _ u hu) (by unfold maxLen; omega) (by omega) Hb.out.size ?_; intro A4 c4 w4 hown4 hg4 hbk4; have Hown4 := ihq hown4; have Hg4 := ihq hg4; clear hown4 hg4 hbk4))
    go_roundw
    case rel =>
     have tg : Turned (fun k => (Value.slice A' m c').ownBlock = some k) Wb w4 := Turned.of_grown Hg4.out fun k e => e
     have el : ((X.take (i + 1)).filter q).length = m + 1 := by rw [Hf.out, List.length_append, Hm.out]; rfl
     refine ⟨i + 1, A4, c4, by omega, by go_num, by rw [el], ?_, Hb.out.trans (tg.below (fun k e => (Ho.out.lt k e).1) Hb.out.size)⟩
     rw [el, Hf.out, xc, xC]
     exact Hown4.out
    case measure => simp [intOf]; omega
  ·obtain rfl : i = n := by omega
   have i1 : ¬ (i : Int) < (i : Int) := by omega
   have Ho := ihq ho; have Hb := ihq hb
   have hty : X.take i = X := List.take_of_length_le (by rw [Hl.out]; exact Nat.le_refl _)
   have Hty := ihq hty
   clear ho hb hm hty
   go_wp2
   go_ret
   have h1 := Hm.out; have h2 := Ho.out
   rw [Hty.out] at h1 h2
   refine ⟨A', c', ?_, ?_, Hb.out⟩
   ·rw [h1]; rfl
   ·rw [h1]; exact h2
end Go.Proofs.YteebkolccbcehaaGreat
end
