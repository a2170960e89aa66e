/-
  Contract of dotterelref18's chunk, where it refuses. Conditions: a state that can be read, a command of numbers that an int holds.
-/
import Derived.Test.YteebkolccbcehaaGreatRfCln
import Derived.Test.YteebkolccbcehaaGreatJQ
import Derived.Test.YteebkolccbcehaaGreatJK
set_option linter.all false
namespace Go.Proofs.YteebkolccbcehaaGreat
open Go.ChangeShapes Go.WideShapes Go.ChangeAt Go.RowKit
def RowB (f : Rf) (b : Nat) : Prop := (Value.slice f.p.A f.p.n f.p.c).ownBlock = some b \/ (Value.slice f.v.A f.v.n f.v.c).ownBlock = some b \/ (Value.slice f.k.A f.k.n f.k.c).ownBlock = some b
def yg (f : Rf) (r : RS) (e : Int) (w : World) (en : Ending) (w' : World) : Prop := ∃ f' : Rf, en = .returned (.tuple #[f'.val, .int .i64 e]) /\ f'.dat = r /\ RfOk w' f' /\ Turned (RowB f) w w'
structure zK (w w1 : World) (f : Rf) (c : Cmd) (V : World) : Prop where
 s0 : V.cell? ⟨w.heap.size, 0, none⟩ = some (.slice f.p.A f.p.n f.p.c)
 s1 : V.cell? ⟨w.heap.size, 1, none⟩ = some (.slice f.v.A f.v.n f.v.c)
 s2 : V.cell? ⟨w.heap.size, 2, none⟩ = some (.slice f.k.A f.k.n f.k.c)
 s3 : V.cell? ⟨w.heap.size, 3, none⟩ = some (.int .i64 f.nx)
 sl : (ldRf (.pointer (some ⟨w.heap.size, 0, none⟩))).run Tryz.prog V = .ok (.agg #[.slice f.p.A f.p.n f.p.c, .slice f.v.A f.v.n f.v.c, .slice f.k.A f.k.n f.k.c, .int .i64 f.nx]) V
 c0 : V.cell? ⟨w1.heap.size, 0, none⟩ = some (.int .i64 c.k)
 c1 : V.cell? ⟨w1.heap.size, 1, none⟩ = some (.int .i64 c.a)
 c2 : V.cell? ⟨w1.heap.size, 2, none⟩ = some (.int .i64 c.b)
 c3 : V.cell? ⟨w1.heap.size, 3, none⟩ = some (.int .i64 c.c)
theorem zK.of {w w1 V : World} {f : Rf} {c : Cmd} (h1 : V.heap[w.heap.size]? = some (.cells #[.slice f.p.A f.p.n f.p.c, .slice f.v.A f.v.n f.v.c, .slice f.k.A f.k.n f.k.c, .int .i64 f.nx] 32 (0, 0))) (h2 : V.heap[w1.heap.size]? = some (.cells #[.int .i64 c.k, .int .i64 c.a, .int .i64 c.b, .int .i64 c.c, .int .i64 c.p.re, .int .i64 c.p.we, .int .i64 c.p.li, .int .i64 c.p.bu] 39 (0, 0))) : zK w w1 f c V :=
 ⟨zc h1 0, zc h1 1, zc h1 2, zc h1 3, zR h1, zc h2 0, zc h2 1, zc h2 2, zc h2 3⟩
theorem zL {w W w3 V : World} {f : Rf} {e : Int} {g : Nat} (h : RfOk w f) (hb3 : Below w.heap.size w w3) (hb : Below w3.heap.size w3 V) (hg : w.heap.size <= g) (ht : Turned (fun k => k = g) V W) :
  yg f f.dat e w (.returned (.tuple #[.agg #[.slice f.p.A f.p.n f.p.c, .slice f.v.A f.v.n f.v.c, .slice f.k.A f.k.n f.k.c, .int .i64 f.nx], .int .i64 e])) W := by
 have hb4 : Below w.heap.size w W := (hb3.trans (hb.mono hb3.size)).trans (ht.below (fun k e => by omega) (by have := hb3.size; have := hb.size; omega))
 exact ⟨f, rfl, rfl, h.below hb4, Turned.of_below hb4⟩
attribute [local go_sem ↓] yX y9 yd yv yK
set_option maxRecDepth 100000 in
set_option maxHeartbeats 2000000 in
theorem Rchunk_none (f : Rf) (c : Cmd) (w : World) (h : RfOk w f) (hx : chIx f.dat.cs c.a = none) :
  Calls Tryz.prog 55 #[f.val, cmdA c] w (yg f f.dat 7 w) := by
 unfold Rf.val cmdA
 obtain ⟨w1, hw1, hb1, hr1⟩ := yb w f
 obtain ⟨w2, hw2, hb2, hr2⟩ := zN w1 c
 obtain ⟨w3, hw3⟩ : ∃ w3, w2.alloc (.cells #[.slice none 0 0, .slice none 0 0, .slice none 0 0, .int .i64 0] 32) = w3 := ⟨_, rfl⟩
 have hb3 : Below w2.heap.size w2 w3 := by rw [<- hw3]; exact zg _ _
 have hr3 : w3.heap[w2.heap.size]? = some (.cells #[.slice none 0 0, .slice none 0 0, .slice none 0 0, .int .i64 0] 32 (0, 0)) := by rw [<- hw3]; exact heap_alloc_new _ _
 have hb12 : Below w.heap.size w w2 := hb1.trans (hb2.mono hb1.size)
 have hbw : Below w.heap.size w w3 := hb12.trans (hb3.mono hb12.size)
 have h1 := za (za hr1 hb2) hb3
 have h2 := za hr2 hb3
 have Hr3 := ihq hr3; have Hbw := ihq hbw; have HW := ihq h
 have Hsz := ihq (show w.heap.size < w1.heap.size /\ w1.heap.size < w2.heap.size /\ w2.heap.size < w3.heap.size from ⟨(Array.getElem?_eq_some_iff.1 hr1).1, (Array.getElem?_eq_some_iff.1 hr2).1, (Array.getElem?_eq_some_iff.1 hr3).1⟩)
 have F := ihq (fun V (hv : Below w3.heap.size w3 V) => (zK.of (za h1 hv) (za h2 hv) : zK w w1 f c V))
 have H3 := ihq (h.below hbw)
 have K1 := ihq (xR f c.a w3 (h.below hbw))
 unfold Rf.val at K1
 obtain ⟨s0, s1, s2, s3, sl, c0, c1, c2, c3⟩ := F.out w3 (Below.refl _ _)
 rw [hx] at K1
 simp only [ixV] at K1
 clear hx
 clear h hb1 hb2 hb3 hb12 hbw hr1 hr2 hr3 h1 h2
 go_enter Tryz.func55, Tryz.ntmps55
 go_wp2_with (go_at_call 54; refine K1.out.mono ?_; rintro e w4 ⟨rfl, hb4⟩; have Hb4 := ihq hb4; obtain ⟨ds0, ds1, ds2, ds3, dsl, dc0, dc1, dc2, dc3⟩ := F.out w4 hb4; obtain ⟨w9, hst, hr9, ht9⟩ := zk (za Hr3.out hb4) rfl f.p f.v f.k f.nx; have Hr9 := ihq hr9; have Ht9 := ihq ht9; clear hr9 ht9; clear hb4)
 refine bodyPost_ret (v := .tuple #[.agg #[.slice f.p.A f.p.n f.p.c, .slice f.v.A f.v.n f.v.c, .slice f.k.A f.k.n f.k.c, .int .i64 f.nx], .int .i64 7]) (zj rfl _ _ w2.heap.size 32 #[.slice f.p.A f.p.n f.p.c, .slice f.v.A f.v.n f.v.c, .slice f.k.A f.k.n f.k.c, .int .i64 f.nx] (0, 0) _ (.int .i64 7) rfl rfl Hr9.out Tryz.underlying32 rfl zw) rfl ?_
 exact zL HW.out Hbw.out Hb4.out (by have := Hsz.out; omega) Ht9.out
set_option maxRecDepth 100000 in
set_option maxHeartbeats 2000000 in
theorem Rchunk_srv (f : Rf) (c : Cmd) (q : Nat) (w : World) (h : RfOk w f) (hc : yj c) (hx : chIx f.dat.cs c.a = some q) (h7 : c.k = 7) (hs : c.c < 0 \/ 15 < c.c \/ f.pk c.c.toNat = 0) :
  Calls Tryz.prog 55 #[f.val, cmdA c] w (yg f f.dat 7 w) := by
 unfold Rf.val cmdA
 obtain ⟨w1, hw1, hb1, hr1⟩ := yb w f
 obtain ⟨w2, hw2, hb2, hr2⟩ := zN w1 c
 obtain ⟨w3, hw3⟩ : ∃ w3, w2.alloc (.cells #[.slice none 0 0, .slice none 0 0, .slice none 0 0, .int .i64 0] 32) = w3 := ⟨_, rfl⟩
 have hb3 : Below w2.heap.size w2 w3 := by rw [<- hw3]; exact zg _ _
 have hr3 : w3.heap[w2.heap.size]? = some (.cells #[.slice none 0 0, .slice none 0 0, .slice none 0 0, .int .i64 0] 32 (0, 0)) := by rw [<- hw3]; exact heap_alloc_new _ _
 have hb12 : Below w.heap.size w w2 := hb1.trans (hb2.mono hb1.size)
 have hbw : Below w.heap.size w w3 := hb12.trans (hb3.mono hb12.size)
 have h1 := za (za hr1 hb2) hb3
 have h2 := za hr2 hb3
 have Hr3 := ihq hr3; have Hbw := ihq hbw; have HW := ihq h
 have Hsz := ihq (show w.heap.size < w1.heap.size /\ w1.heap.size < w2.heap.size /\ w2.heap.size < w3.heap.size from ⟨(Array.getElem?_eq_some_iff.1 hr1).1, (Array.getElem?_eq_some_iff.1 hr2).1, (Array.getElem?_eq_some_iff.1 hr3).1⟩)
 have F := ihq (fun V (hv : Below w3.heap.size w3 V) => (zK.of (za h1 hv) (za h2 hv) : zK w w1 f c V))
 have H3 := ihq (h.below hbw)
 have K1 := ihq (xR f c.a w3 (h.below hbw))
 unfold Rf.val at K1
 obtain ⟨s0, s1, s2, s3, sl, c0, c1, c2, c3⟩ := F.out w3 (Below.refl _ _)
 rw [hx] at K1
 simp only [ixV] at K1
 have hq0 : ¬ (q : Int) < 0 := by omega
 have hpk : ∀ V, Below w3.heap.size w3 V -> 0 <= c.c -> c.c <= 15 -> ∃ g o, f.p.A = some ⟨g, o, none⟩ /\ V.cell? ⟨g, o + c.c.toNat, none⟩ = some (.int .i64 (f.pk c.c.toNat)) := fun V hv a b => (H3.out.below hv).pick (by omega)
 have Hpk := ihq hpk
 have Hpn := ihq h.pn
 have h7b : (c.k == 7) = true := by simpa using h7
 obtain ⟨ck, ca, cb, cc, cp⟩ := c
 simp only at h7 h7b hs Hpk K1 c0 c1 c2 c3 F ⊢
 subst h7
 clear hx hpk h7b
 clear h hb1 hb2 hb3 hb12 hbw hr1 hr2 hr3 h1 h2
 by_cases a1 : cc < 0
 ·go_enter Tryz.func55, Tryz.ntmps55
  go_wp2_with (go_at_call 54; refine K1.out.mono ?_; rintro e w4 ⟨rfl, hb4⟩; have Hb4 := ihq hb4; obtain ⟨ds0, ds1, ds2, ds3, dsl, dc0, dc1, dc2, dc3⟩ := F.out w4 hb4; obtain ⟨w9, hst, hr9, ht9⟩ := zk (za Hr3.out hb4) rfl f.p f.v f.k f.nx; have Hr9 := ihq hr9; have Ht9 := ihq ht9; clear hr9 ht9; clear hb4)
  refine bodyPost_ret (v := .tuple #[.agg #[.slice f.p.A f.p.n f.p.c, .slice f.v.A f.v.n f.v.c, .slice f.k.A f.k.n f.k.c, .int .i64 f.nx], .int .i64 7]) (zj rfl _ _ w2.heap.size 32 #[.slice f.p.A f.p.n f.p.c, .slice f.v.A f.v.n f.v.c, .slice f.k.A f.k.n f.k.c, .int .i64 f.nx] (0, 0) _ (.int .i64 7) rfl rfl Hr9.out Tryz.underlying32 rfl zw) rfl ?_
  exact zL HW.out Hbw.out Hb4.out (by have := Hsz.out; omega) Ht9.out
 ·by_cases a2 : 15 < cc
  ·go_enter Tryz.func55, Tryz.ntmps55
   go_wp2_with (go_at_call 54; refine K1.out.mono ?_; rintro e w4 ⟨rfl, hb4⟩; have Hb4 := ihq hb4; obtain ⟨ds0, ds1, ds2, ds3, dsl, dc0, dc1, dc2, dc3⟩ := F.out w4 hb4; obtain ⟨w9, hst, hr9, ht9⟩ := zk (za Hr3.out hb4) rfl f.p f.v f.k f.nx; have Hr9 := ihq hr9; have Ht9 := ihq ht9; clear hr9 ht9; clear hb4)
   refine bodyPost_ret (v := .tuple #[.agg #[.slice f.p.A f.p.n f.p.c, .slice f.v.A f.v.n f.v.c, .slice f.k.A f.k.n f.k.c, .int .i64 f.nx], .int .i64 7]) (zj rfl _ _ w2.heap.size 32 #[.slice f.p.A f.p.n f.p.c, .slice f.v.A f.v.n f.v.c, .slice f.k.A f.k.n f.k.c, .int .i64 f.nx] (0, 0) _ (.int .i64 7) rfl rfl Hr9.out Tryz.underlying32 rfl zw) rfl ?_
   exact zL HW.out Hbw.out Hb4.out (by have := Hsz.out; omega) Ht9.out
  ·have hz : f.pk cc.toNat = 0 := by
    rcases hs with h | h | h
    ·exact absurd h a1
    ·exact absurd h a2
    ·exact h
   obtain ⟨n, rfl⟩ : ∃ n : Nat, cc = (n : Int) := ⟨cc.toNat, by omega⟩
   have hn : n < 16 := by omega
   rw [Int.toNat_natCast] at hz
   have i0 : (0 : Int) <= (n : Int) := by omega
   have i1 : (n : Int) < (f.p.n : Int) := by have := Hpn.out; omega
   obtain ⟨gp, op, hA, _⟩ := H3.out.pick hn
   have HP := ihq (fun V (hv : Below w3.heap.size w3 V) => show V.cell? ⟨gp, op + n, none⟩ = some (.int .i64 0) from by
    obtain ⟨g', o', hA', e⟩ := (H3.out.below hv).pick hn
    rw [hA] at hA'
    injection hA' with hA'
    injection hA' with e1 e2 _
    subst e1; subst e2
    rw [e, hz])
   have HA := ihq hA
   clear hA hs hz Hpk
   go_enter Tryz.func55, Tryz.ntmps55
   go_wp2_with (go_at_call 54; refine K1.out.mono ?_; rintro e w4 ⟨rfl, hb4⟩; have Hb4 := ihq hb4; obtain ⟨ds0, ds1, ds2, ds3, dsl, dc0, dc1, dc2, dc3⟩ := F.out w4 hb4; rw [HA.out] at ds0; have hpv := HP.out w4 hb4; obtain ⟨w9, hst, hr9, ht9⟩ := zk (za Hr3.out hb4) rfl f.p f.v f.k f.nx; have Hr9 := ihq hr9; have Ht9 := ihq ht9; clear hr9 ht9; clear hb4)
   refine bodyPost_ret (v := .tuple #[.agg #[.slice f.p.A f.p.n f.p.c, .slice f.v.A f.v.n f.v.c, .slice f.k.A f.k.n f.k.c, .int .i64 f.nx], .int .i64 7]) (zj rfl _ _ w2.heap.size 32 #[.slice f.p.A f.p.n f.p.c, .slice f.v.A f.v.n f.v.c, .slice f.k.A f.k.n f.k.c, .int .i64 f.nx] (0, 0) _ (.int .i64 7) rfl rfl Hr9.out Tryz.underlying32 rfl zw) rfl ?_
   exact zL HW.out Hbw.out Hb4.out (by have := Hsz.out; omega) Ht9.out
end Go.Proofs.YteebkolccbcehaaGreat
