/-
  Joined: RfDo7, RfDoE. Conditions: each theorem's own.
-/
import Derived.Test.YteebkolccbcehaaGreatRfDo1
import Derived.Test.YteebkolccbcehaaGreatJE
import Derived.Test.YteebkolccbcehaaGreatRfFil

section
set_option linter.all false
namespace Go.Proofs.YteebkolccbcehaaGreat
open Go.ChangeShapes Go.WideShapes Go.ChangeAt Go.RowKit
attribute [local irreducible] wpQuiet
attribute [local go_sem ↓] yX y9 yd yv yK yA
set_option maxRecDepth 100000 in
set_option maxHeartbeats 2000000 in
theorem Rdo_2num (f : Rf) (c : Cmd) (w : World) (h : RfOk w f) (hc : yj c) (hk : c.k = 2) (hr : c.a < 0 \/ 63 < c.a \/ c.b < 1 \/ 512 < c.b \/ c.c < 1 \/ 3 < c.c) :
  Calls Tryz.prog 17 #[f.val, cmdA c] w (yg f f.dat 1 w) := by
 unfold Rf.val cmdA
 obtain ⟨w1, hw1, hb1, hr1⟩ := yb w f
 obtain ⟨w2, hw2, hb2, hr2⟩ := zN w1 c
 obtain ⟨w3, hw3⟩ : ∃ w3, w2.alloc (.cells #[.slice none 0 0, .slice none 0 0, .slice none 0 0, .int .i64 0] 32) = w3 := ⟨_, rfl⟩
 have hb3 : Below w2.heap.size w2 w3 := by rw [<- hw3]; exact zg _ _
 have hr3 : w3.heap[w2.heap.size]? = some (.cells #[.slice none 0 0, .slice none 0 0, .slice none 0 0, .int .i64 0] 32 (0, 0)) := by rw [<- hw3]; exact heap_alloc_new _ _
 have hb12 : Below w.heap.size w w2 := hb1.trans (hb2.mono hb1.size)
 have hbw : Below w.heap.size w w3 := hb12.trans (hb3.mono hb12.size)
 have h1 := za (za hr1 hb2) hb3
 have h2 := za hr2 hb3
 have Hr3 := ihq hr3; have Hbw := ihq hbw; have HW := ihq h
 have Hsz := ihq (show w.heap.size < w1.heap.size /\ w1.heap.size < w2.heap.size /\ w2.heap.size < w3.heap.size from ⟨(Array.getElem?_eq_some_iff.1 hr1).1, (Array.getElem?_eq_some_iff.1 hr2).1, (Array.getElem?_eq_some_iff.1 hr3).1⟩)
 have F := ihq (fun V (hv : Below w3.heap.size w3 V) => (zK.of (za h1 hv) (za h2 hv) : zK w w1 f c V))
 have H3 := ihq (h.below hbw)
 have K1 := ihq (RVol f c.a w3 (h.below hbw))
 unfold Rf.val at K1
 obtain ⟨s0, s1, s2, s3, sl, c0, c1, c2, c3⟩ := F.out w3 (Below.refl _ _)
 obtain ⟨va, hva⟩ : ∃ v, ixV (yS f.dat.vs c.a) = v := ⟨_, rfl⟩
 rw [hva] at K1
 have hk1 : (c.k == 1) = false := by simp; omega
 have hk2 : (c.k == 2) = true := by simpa using hk
 clear hk
 clear hva
 clear h hb1 hb2 hb3 hb12 hbw hr1 hr2 hr3 h1 h2
 by_cases a1 : c.a < 0
 ·clear hr
  go_enter Tryz.func17, Tryz.ntmps17
  go_wp2_with ((go_at_call 49; refine K1.out.mono ?_; rintro e w4 ⟨rfl, hb4⟩; have Hb4 := ihq hb4; obtain ⟨ds0, ds1, ds2, ds3, dsl, dc0, dc1, dc2, dc3⟩ := F.out w4 hb4; obtain ⟨w9, hst, hr9, ht9⟩ := zk (za Hr3.out hb4) rfl f.p f.v f.k f.nx; have Hr9 := ihq hr9; have Ht9 := ihq ht9; clear hr9 ht9; clear hb4))
  refine bodyPost_ret (v := .tuple #[.agg #[.slice f.p.A f.p.n f.p.c, .slice f.v.A f.v.n f.v.c, .slice f.k.A f.k.n f.k.c, .int .i64 f.nx], .int .i64 1]) (zj rfl _ _ w2.heap.size 32 #[.slice f.p.A f.p.n f.p.c, .slice f.v.A f.v.n f.v.c, .slice f.k.A f.k.n f.k.c, .int .i64 f.nx] (0, 0) _ (.int .i64 1) rfl rfl Hr9.out Tryz.underlying32 rfl zw) rfl ?_
  exact zL HW.out Hbw.out Hb4.out (by have := Hsz.out; omega) Ht9.out
 ·by_cases a2 : 63 < c.a
  ·clear hr
   go_enter Tryz.func17, Tryz.ntmps17
   go_wp2_with ((go_at_call 49; refine K1.out.mono ?_; rintro e w4 ⟨rfl, hb4⟩; have Hb4 := ihq hb4; obtain ⟨ds0, ds1, ds2, ds3, dsl, dc0, dc1, dc2, dc3⟩ := F.out w4 hb4; obtain ⟨w9, hst, hr9, ht9⟩ := zk (za Hr3.out hb4) rfl f.p f.v f.k f.nx; have Hr9 := ihq hr9; have Ht9 := ihq ht9; clear hr9 ht9; clear hb4))
   refine bodyPost_ret (v := .tuple #[.agg #[.slice f.p.A f.p.n f.p.c, .slice f.v.A f.v.n f.v.c, .slice f.k.A f.k.n f.k.c, .int .i64 f.nx], .int .i64 1]) (zj rfl _ _ w2.heap.size 32 #[.slice f.p.A f.p.n f.p.c, .slice f.v.A f.v.n f.v.c, .slice f.k.A f.k.n f.k.c, .int .i64 f.nx] (0, 0) _ (.int .i64 1) rfl rfl Hr9.out Tryz.underlying32 rfl zw) rfl ?_
   exact zL HW.out Hbw.out Hb4.out (by have := Hsz.out; omega) Ht9.out
  ·by_cases a3 : c.b < 1
   ·clear hr
    go_enter Tryz.func17, Tryz.ntmps17
    go_wp2_with ((go_at_call 49; refine K1.out.mono ?_; rintro e w4 ⟨rfl, hb4⟩; have Hb4 := ihq hb4; obtain ⟨ds0, ds1, ds2, ds3, dsl, dc0, dc1, dc2, dc3⟩ := F.out w4 hb4; obtain ⟨w9, hst, hr9, ht9⟩ := zk (za Hr3.out hb4) rfl f.p f.v f.k f.nx; have Hr9 := ihq hr9; have Ht9 := ihq ht9; clear hr9 ht9; clear hb4))
    refine bodyPost_ret (v := .tuple #[.agg #[.slice f.p.A f.p.n f.p.c, .slice f.v.A f.v.n f.v.c, .slice f.k.A f.k.n f.k.c, .int .i64 f.nx], .int .i64 1]) (zj rfl _ _ w2.heap.size 32 #[.slice f.p.A f.p.n f.p.c, .slice f.v.A f.v.n f.v.c, .slice f.k.A f.k.n f.k.c, .int .i64 f.nx] (0, 0) _ (.int .i64 1) rfl rfl Hr9.out Tryz.underlying32 rfl zw) rfl ?_
    exact zL HW.out Hbw.out Hb4.out (by have := Hsz.out; omega) Ht9.out
   ·by_cases a4 : 512 < c.b
    ·clear hr
     go_enter Tryz.func17, Tryz.ntmps17
     go_wp2_with ((go_at_call 49; refine K1.out.mono ?_; rintro e w4 ⟨rfl, hb4⟩; have Hb4 := ihq hb4; obtain ⟨ds0, ds1, ds2, ds3, dsl, dc0, dc1, dc2, dc3⟩ := F.out w4 hb4; obtain ⟨w9, hst, hr9, ht9⟩ := zk (za Hr3.out hb4) rfl f.p f.v f.k f.nx; have Hr9 := ihq hr9; have Ht9 := ihq ht9; clear hr9 ht9; clear hb4))
     refine bodyPost_ret (v := .tuple #[.agg #[.slice f.p.A f.p.n f.p.c, .slice f.v.A f.v.n f.v.c, .slice f.k.A f.k.n f.k.c, .int .i64 f.nx], .int .i64 1]) (zj rfl _ _ w2.heap.size 32 #[.slice f.p.A f.p.n f.p.c, .slice f.v.A f.v.n f.v.c, .slice f.k.A f.k.n f.k.c, .int .i64 f.nx] (0, 0) _ (.int .i64 1) rfl rfl Hr9.out Tryz.underlying32 rfl zw) rfl ?_
     exact zL HW.out Hbw.out Hb4.out (by have := Hsz.out; omega) Ht9.out
    ·by_cases a5 : c.c < 1
     ·clear hr
      go_enter Tryz.func17, Tryz.ntmps17
      go_wp2_with ((go_at_call 49; refine K1.out.mono ?_; rintro e w4 ⟨rfl, hb4⟩; have Hb4 := ihq hb4; obtain ⟨ds0, ds1, ds2, ds3, dsl, dc0, dc1, dc2, dc3⟩ := F.out w4 hb4; obtain ⟨w9, hst, hr9, ht9⟩ := zk (za Hr3.out hb4) rfl f.p f.v f.k f.nx; have Hr9 := ihq hr9; have Ht9 := ihq ht9; clear hr9 ht9; clear hb4))
      refine bodyPost_ret (v := .tuple #[.agg #[.slice f.p.A f.p.n f.p.c, .slice f.v.A f.v.n f.v.c, .slice f.k.A f.k.n f.k.c, .int .i64 f.nx], .int .i64 1]) (zj rfl _ _ w2.heap.size 32 #[.slice f.p.A f.p.n f.p.c, .slice f.v.A f.v.n f.v.c, .slice f.k.A f.k.n f.k.c, .int .i64 f.nx] (0, 0) _ (.int .i64 1) rfl rfl Hr9.out Tryz.underlying32 rfl zw) rfl ?_
      exact zL HW.out Hbw.out Hb4.out (by have := Hsz.out; omega) Ht9.out
     ·have a6 : 3 < c.c := by omega
      clear hr
      go_enter Tryz.func17, Tryz.ntmps17
      go_wp2_with ((go_at_call 49; refine K1.out.mono ?_; rintro e w4 ⟨rfl, hb4⟩; have Hb4 := ihq hb4; obtain ⟨ds0, ds1, ds2, ds3, dsl, dc0, dc1, dc2, dc3⟩ := F.out w4 hb4; obtain ⟨w9, hst, hr9, ht9⟩ := zk (za Hr3.out hb4) rfl f.p f.v f.k f.nx; have Hr9 := ihq hr9; have Ht9 := ihq ht9; clear hr9 ht9; clear hb4))
      refine bodyPost_ret (v := .tuple #[.agg #[.slice f.p.A f.p.n f.p.c, .slice f.v.A f.v.n f.v.c, .slice f.k.A f.k.n f.k.c, .int .i64 f.nx], .int .i64 1]) (zj rfl _ _ w2.heap.size 32 #[.slice f.p.A f.p.n f.p.c, .slice f.v.A f.v.n f.v.c, .slice f.k.A f.k.n f.k.c, .int .i64 f.nx] (0, 0) _ (.int .i64 1) rfl rfl Hr9.out Tryz.underlying32 rfl zw) rfl ?_
      exact zL HW.out Hbw.out Hb4.out (by have := Hsz.out; omega) Ht9.out
set_option maxRecDepth 100000 in
set_option maxHeartbeats 2000000 in
theorem Rdo_2pol (f : Rf) (c : Cmd) (w : World) (h : RfOk w f) (hc : yj c) (hk : c.k = 2) (n1 : 0 <= c.a) (n2 : c.a <= 63) (n3 : 1 <= c.b) (n4 : c.b <= 512) (n5 : 1 <= c.c) (n6 : c.c <= 3) (hr : yc c.p = false) :
  Calls Tryz.prog 17 #[f.val, cmdA c] w (yg f f.dat 1 w) := by
 unfold Rf.val cmdA
 obtain ⟨w1, hw1, hb1, hr1⟩ := yb w f
 obtain ⟨w2, hw2, hb2, hr2⟩ := zN w1 c
 obtain ⟨w3, hw3⟩ : ∃ w3, w2.alloc (.cells #[.slice none 0 0, .slice none 0 0, .slice none 0 0, .int .i64 0] 32) = w3 := ⟨_, rfl⟩
 have hb3 : Below w2.heap.size w2 w3 := by rw [<- hw3]; exact zg _ _
 have hr3 : w3.heap[w2.heap.size]? = some (.cells #[.slice none 0 0, .slice none 0 0, .slice none 0 0, .int .i64 0] 32 (0, 0)) := by rw [<- hw3]; exact heap_alloc_new _ _
 have hb12 : Below w.heap.size w w2 := hb1.trans (hb2.mono hb1.size)
 have hbw : Below w.heap.size w w3 := hb12.trans (hb3.mono hb12.size)
 have h1 := za (za hr1 hb2) hb3
 have h2 := za hr2 hb3
 have Hr3 := ihq hr3; have Hbw := ihq hbw; have HW := ihq h
 have Hsz := ihq (show w.heap.size < w1.heap.size /\ w1.heap.size < w2.heap.size /\ w2.heap.size < w3.heap.size from ⟨(Array.getElem?_eq_some_iff.1 hr1).1, (Array.getElem?_eq_some_iff.1 hr2).1, (Array.getElem?_eq_some_iff.1 hr3).1⟩)
 have F := ihq (fun V (hv : Below w3.heap.size w3 V) => (zK.of (za h1 hv) (za h2 hv) : zK w w1 f c V))
 have H3 := ihq (h.below hbw)
 have K1 := ihq (RVol f c.a w3 (h.below hbw))
 unfold Rf.val at K1
 obtain ⟨s0, s1, s2, s3, sl, c0, c1, c2, c3⟩ := F.out w3 (Below.refl _ _)
 obtain ⟨va, hva⟩ : ∃ v, ixV (yS f.dat.vs c.a) = v := ⟨_, rfl⟩
 rw [hva] at K1
 have hk1 : (c.k == 1) = false := by simp; omega
 have hk2 : (c.k == 2) = true := by simpa using hk
 have KR := ihq (fun V (hv : Below w3.heap.size w3 V) => xA c.p V)
 rw [hr] at KR
 have HPl := ihq (fun V (hv : Below w3.heap.size w3 V) => zZ (xT.pol (w := w1) (za h2 hv) hc.hp))
 have a1 : ¬ c.a < 0 := by omega
 have a2 : ¬ 63 < c.a := by omega
 have a3 : ¬ c.b < 1 := by omega
 have a4 : ¬ 512 < c.b := by omega
 have a5 : ¬ c.c < 1 := by omega
 have a6 : ¬ 3 < c.c := by omega
 clear hk hr
 clear hva
 clear h hb1 hb2 hb3 hb12 hbw hr1 hr2 hr3 h1 h2
 go_enter Tryz.func17, Tryz.ntmps17
 go_wp2_with (first
  | (go_at_call 50; refine (KR.out w4 Hb4.out).mono ?_; rintro e w5 ⟨rfl, hb5⟩; have Hb5 := ihq (Hb4.out.trans (hb5.mono Hb4.out.size)); obtain ⟨xs0, xs1, xs2, xs3, xsl, xc0, xc1, xc2, xc3⟩ := F.out w5 Hb5.out; obtain ⟨w9, hst, hr9, ht9⟩ := zk (za Hr3.out Hb5.out) rfl f.p f.v f.k f.nx; have Hr9 := ihq hr9; have Ht9 := ihq ht9; clear hr9 ht9; clear hb5)
  | (go_at_call 49; refine K1.out.mono ?_; rintro e w4 ⟨rfl, hb4⟩; have Hb4 := ihq hb4; obtain ⟨ds0, ds1, ds2, ds3, dsl, dc0, dc1, dc2, dc3⟩ := F.out w4 hb4; have hpl := HPl.out w4 hb4; clear hb4))
 refine bodyPost_ret (v := .tuple #[.agg #[.slice f.p.A f.p.n f.p.c, .slice f.v.A f.v.n f.v.c, .slice f.k.A f.k.n f.k.c, .int .i64 f.nx], .int .i64 1]) (zj rfl _ _ w2.heap.size 32 #[.slice f.p.A f.p.n f.p.c, .slice f.v.A f.v.n f.v.c, .slice f.k.A f.k.n f.k.c, .int .i64 f.nx] (0, 0) _ (.int .i64 1) rfl rfl Hr9.out Tryz.underlying32 rfl zw) rfl ?_
 exact zL HW.out Hbw.out Hb5.out (by have := Hsz.out; omega) Ht9.out
set_option maxRecDepth 100000 in
set_option maxHeartbeats 2000000 in
theorem Rdo_2is (f : Rf) (c : Cmd) (w : World) (h : RfOk w f) (hc : yj c) (hk : c.k = 2) (n1 : 0 <= c.a) (n2 : c.a <= 63) (n3 : 1 <= c.b) (n4 : c.b <= 512) (n5 : 1 <= c.c) (n6 : c.c <= 3) (hr : yc c.p = true) (q : Nat) (hv : yS f.dat.vs c.a = some q) :
  Calls Tryz.prog 17 #[f.val, cmdA c] w (yg f f.dat 8 w) := by
 unfold Rf.val cmdA
 obtain ⟨w1, hw1, hb1, hr1⟩ := yb w f
 obtain ⟨w2, hw2, hb2, hr2⟩ := zN w1 c
 obtain ⟨w3, hw3⟩ : ∃ w3, w2.alloc (.cells #[.slice none 0 0, .slice none 0 0, .slice none 0 0, .int .i64 0] 32) = w3 := ⟨_, rfl⟩
 have hb3 : Below w2.heap.size w2 w3 := by rw [<- hw3]; exact zg _ _
 have hr3 : w3.heap[w2.heap.size]? = some (.cells #[.slice none 0 0, .slice none 0 0, .slice none 0 0, .int .i64 0] 32 (0, 0)) := by rw [<- hw3]; exact heap_alloc_new _ _
 have hb12 : Below w.heap.size w w2 := hb1.trans (hb2.mono hb1.size)
 have hbw : Below w.heap.size w w3 := hb12.trans (hb3.mono hb12.size)
 have h1 := za (za hr1 hb2) hb3
 have h2 := za hr2 hb3
 have Hr3 := ihq hr3; have Hbw := ihq hbw; have HW := ihq h
 have Hsz := ihq (show w.heap.size < w1.heap.size /\ w1.heap.size < w2.heap.size /\ w2.heap.size < w3.heap.size from ⟨(Array.getElem?_eq_some_iff.1 hr1).1, (Array.getElem?_eq_some_iff.1 hr2).1, (Array.getElem?_eq_some_iff.1 hr3).1⟩)
 have F := ihq (fun V (hv : Below w3.heap.size w3 V) => (zK.of (za h1 hv) (za h2 hv) : zK w w1 f c V))
 have H3 := ihq (h.below hbw)
 have K1 := ihq (RVol f c.a w3 (h.below hbw))
 unfold Rf.val at K1
 obtain ⟨s0, s1, s2, s3, sl, c0, c1, c2, c3⟩ := F.out w3 (Below.refl _ _)
 rw [hv] at K1
 simp only [ixV] at K1
 have hq0 : (0 : Int) <= (q : Int) := by omega
 have hk1 : (c.k == 1) = false := by simp; omega
 have hk2 : (c.k == 2) = true := by simpa using hk
 have KR := ihq (fun V (hv : Below w3.heap.size w3 V) => xA c.p V)
 rw [hr] at KR
 have HPl := ihq (fun V (hv : Below w3.heap.size w3 V) => zZ (xT.pol (w := w1) (za h2 hv) hc.hp))
 have a1 : ¬ c.a < 0 := by omega
 have a2 : ¬ 63 < c.a := by omega
 have a3 : ¬ c.b < 1 := by omega
 have a4 : ¬ 512 < c.b := by omega
 have a5 : ¬ c.c < 1 := by omega
 have a6 : ¬ 3 < c.c := by omega
 clear hk hr hv
 clear h hb1 hb2 hb3 hb12 hbw hr1 hr2 hr3 h1 h2
 go_enter Tryz.func17, Tryz.ntmps17
 go_wp2_with (first
  | (go_at_call 50; refine (KR.out w4 Hb4.out).mono ?_; rintro e w5 ⟨rfl, hb5⟩; have Hb5 := ihq (Hb4.out.trans (hb5.mono Hb4.out.size)); obtain ⟨xs0, xs1, xs2, xs3, xsl, xc0, xc1, xc2, xc3⟩ := F.out w5 Hb5.out; obtain ⟨w9, hst, hr9, ht9⟩ := zk (za Hr3.out Hb5.out) rfl f.p f.v f.k f.nx; have Hr9 := ihq hr9; have Ht9 := ihq ht9; clear hr9 ht9; clear hb5)
  | (go_at_call 49; refine K1.out.mono ?_; rintro e w4 ⟨rfl, hb4⟩; have Hb4 := ihq hb4; obtain ⟨ds0, ds1, ds2, ds3, dsl, dc0, dc1, dc2, dc3⟩ := F.out w4 hb4; have hpl := HPl.out w4 hb4; clear hb4))
 refine bodyPost_ret (v := .tuple #[.agg #[.slice f.p.A f.p.n f.p.c, .slice f.v.A f.v.n f.v.c, .slice f.k.A f.k.n f.k.c, .int .i64 f.nx], .int .i64 8]) (zj rfl _ _ w2.heap.size 32 #[.slice f.p.A f.p.n f.p.c, .slice f.v.A f.v.n f.v.c, .slice f.k.A f.k.n f.k.c, .int .i64 f.nx] (0, 0) _ (.int .i64 8) rfl rfl Hr9.out Tryz.underlying32 rfl zw) rfl ?_
 exact zL HW.out Hbw.out Hb5.out (by have := Hsz.out; omega) Ht9.out
set_option maxRecDepth 100000 in
set_option maxHeartbeats 2000000 in
theorem Rdo_2few (f : Rf) (c : Cmd) (w : World) (h : RfOk w f) (hc : yj c) (hk : c.k = 2) (n1 : 0 <= c.a) (n2 : c.a <= 63) (n3 : 1 <= c.b) (n4 : c.b <= 512) (n5 : 1 <= c.c) (n6 : c.c <= 3) (hr : yc c.p = true) (hv : yS f.dat.vs c.a = none) (hs : ((zm f.pk).length : Int) < c.c) :
  Calls Tryz.prog 17 #[f.val, cmdA c] w (yg f f.dat 7 w) := by
 unfold Rf.val cmdA
 obtain ⟨w1, hw1, hb1, hr1⟩ := yb w f
 obtain ⟨w2, hw2, hb2, hr2⟩ := zN w1 c
 obtain ⟨w3, hw3⟩ : ∃ w3, w2.alloc (.cells #[.slice none 0 0, .slice none 0 0, .slice none 0 0, .int .i64 0] 32) = w3 := ⟨_, rfl⟩
 have hb3 : Below w2.heap.size w2 w3 := by rw [<- hw3]; exact zg _ _
 have hr3 : w3.heap[w2.heap.size]? = some (.cells #[.slice none 0 0, .slice none 0 0, .slice none 0 0, .int .i64 0] 32 (0, 0)) := by rw [<- hw3]; exact heap_alloc_new _ _
 have hb12 : Below w.heap.size w w2 := hb1.trans (hb2.mono hb1.size)
 have hbw : Below w.heap.size w w3 := hb12.trans (hb3.mono hb12.size)
 have h1 := za (za hr1 hb2) hb3
 have h2 := za hr2 hb3
 have Hr3 := ihq hr3; have Hbw := ihq hbw; have HW := ihq h
 have Hsz := ihq (show w.heap.size < w1.heap.size /\ w1.heap.size < w2.heap.size /\ w2.heap.size < w3.heap.size from ⟨(Array.getElem?_eq_some_iff.1 hr1).1, (Array.getElem?_eq_some_iff.1 hr2).1, (Array.getElem?_eq_some_iff.1 hr3).1⟩)
 have F := ihq (fun V (hv : Below w3.heap.size w3 V) => (zK.of (za h1 hv) (za h2 hv) : zK w w1 f c V))
 have H3 := ihq (h.below hbw)
 have K1 := ihq (RVol f c.a w3 (h.below hbw))
 unfold Rf.val at K1
 obtain ⟨s0, s1, s2, s3, sl, c0, c1, c2, c3⟩ := F.out w3 (Below.refl _ _)
 rw [hv] at K1
 simp only [ixV] at K1
 have hk1 : (c.k == 1) = false := by simp; omega
 have hk2 : (c.k == 2) = true := by simpa using hk
 have KR := ihq (fun V (hv : Below w3.heap.size w3 V) => xA c.p V)
 rw [hr] at KR
 have HPl := ihq (fun V (hv : Below w3.heap.size w3 V) => zZ (xT.pol (w := w1) (za h2 hv) hc.hp))
 have a1 : ¬ c.a < 0 := by omega
 have a2 : ¬ 63 < c.a := by omega
 have a3 : ¬ c.b < 1 := by omega
 have a4 : ¬ 512 < c.b := by omega
 have a5 : ¬ c.c < 1 := by omega
 have a6 : ¬ 3 < c.c := by omega
 obtain ⟨cs, hcs⟩ : ∃ n, (zm f.pk).length = n := ⟨_, rfl⟩
 rw [hcs] at hs
 have KN := ihq (fun V (hv : Below w3.heap.size w3 V) => (show Calls Tryz.prog 51 #[.agg #[.slice f.p.A f.p.n f.p.c, .slice f.v.A f.v.n f.v.c, .slice f.k.A f.k.n f.k.c, .int .i64 f.nx]] V fun e w' => e = .returned (.int .i64 (cs : Int)) /\ Below V.heap.size V w' from by
  have := Rcount f V (H3.out.below hv)
  rw [show cntR f.pk 16 = cs from hcs] at this
  exact this))
 have Hs := ihq hs
 clear hk hr hv hcs
 clear h hb1 hb2 hb3 hb12 hbw hr1 hr2 hr3 h1 h2
 go_enter Tryz.func17, Tryz.ntmps17
 go_upto_region 13 with (first
  | (go_at_call 50; refine (KR.out w4 Hb4.out).mono ?_; rintro e w5 ⟨rfl, hb5⟩; have Hb5 := ihq (Hb4.out.trans (hb5.mono Hb4.out.size)); obtain ⟨xs0, xs1, xs2, xs3, xsl, xc0, xc1, xc2, xc3⟩ := F.out w5 Hb5.out; clear hb5)
  | (go_at_call 49; refine K1.out.mono ?_; rintro e w4 ⟨rfl, hb4⟩; have Hb4 := ihq hb4; obtain ⟨ds0, ds1, ds2, ds3, dsl, dc0, dc1, dc2, dc3⟩ := F.out w4 hb4; have hpl := HPl.out w4 hb4; clear hb4))
 have q0 : ∀ p : zO w5, (ldRf (.pointer (some ⟨w.heap.size, 0, none⟩))).run Tryz.prog p.v = .ok (.agg #[.slice f.p.A f.p.n f.p.c, .slice f.v.A f.v.n f.v.c, .slice f.k.A f.k.n f.k.c, .int .i64 f.nx]) p.v := fun p => (F.out p.v (Hb5.out.trans (p.h.mono Hb5.out.size))).sl
 have q1 : ∀ p : zO w5, p.v.cell? ⟨w1.heap.size, 3, none⟩ = some (.int .i64 c.c) := fun p => (F.out p.v (Hb5.out.trans (p.h.mono Hb5.out.size))).c3
 have KB := ihq (fun p : zO w5 => Calls.below_of (KN.out p.v (Hb5.out.trans (p.h.mono Hb5.out.size))))
 refine zB (by kernel_rfl) (by kernel_rfl) ?_
 repeat (quiet_step (fail))
 quiet_step (exact (KB.out _))
 repeat (quiet_step (fail))
 refine wpQuiet_nil ?_
 rintro w8 ⟨⟨w6, hb6⟩, e⟩
 have e2 : w6 = w8 := e.symm
 subst e2
 clear e q0 q1
 have Hb6 := ihq (Hb5.out.trans (hb6.mono Hb5.out.size))
 obtain ⟨ys0, ys1, ys2, ys3, ysl, yc0, yc1, yc2, yc3⟩ := F.out w6 Hb6.out
 obtain ⟨w9, hst, hr9, ht9⟩ := zk (za Hr3.out Hb6.out) rfl f.p f.v f.k f.nx; have Hr9 := ihq hr9; have Ht9 := ihq ht9; clear hr9 ht9
 have hs := Hs.out
 clear hb6
 go_wp2
 refine bodyPost_ret (v := .tuple #[.agg #[.slice f.p.A f.p.n f.p.c, .slice f.v.A f.v.n f.v.c, .slice f.k.A f.k.n f.k.c, .int .i64 f.nx], .int .i64 7]) (zj rfl _ _ w2.heap.size 32 #[.slice f.p.A f.p.n f.p.c, .slice f.v.A f.v.n f.v.c, .slice f.k.A f.k.n f.k.c, .int .i64 f.nx] (0, 0) _ (.int .i64 7) rfl rfl Hr9.out Tryz.underlying32 rfl zw) rfl ?_
 exact zL HW.out Hbw.out Hb6.out (by have := Hsz.out; omega) Ht9.out
end Go.Proofs.YteebkolccbcehaaGreat
end

section
set_option linter.all false
namespace Go.Proofs.YteebkolccbcehaaGreat
open Go.ChangeShapes Go.WideShapes Go.ChangeAt Go.RowKit
theorem RfOk.turnedSt {V V' : World} {f : Rf} {g : Nat} (ok : RfOk V f) (hg : ∃ cs, V.heap[g]? = some (.cells cs 32 (0, 0))) (ht : Turned (fun b => b = g) V V') : RfOk V' f := by
 obtain ⟨cs, hg⟩ := hg
 have no : ∀ {T : TypeId}, T ≠ 32 -> NoT V T (fun b => b = g) := fun {T} hT b cs' fr hb e => by
  subst hb
  rw [hg] at e; injection e with e; injection e with _ e; exact hT e.symm
 exact ⟨ok.p.turned ht (no (by decide)), ok.v.turned ht (no (by decide)) (no (by decide)), ok.k.turned ht (no (by decide)) (no (by decide)), ok.vl, ok.kl, ok.pin⟩
theorem do_end {w V V' : World} {f f' : Rf} {r : RS} {e : Int} {g : Nat} (hw : Below w.heap.size w V) (ok : RfOk V f') (hwg : w.heap.size <= g) (hg : ∃ cs, V.heap[g]? = some (.cells cs 32 (0, 0))) (ht : Turned (fun b => b = g) V V') (hd : f'.dat = r) :
  yg f r e w (.returned (.tuple #[f'.val, .int .i64 e])) V' :=
 ⟨f', rfl, hd, ok.turnedSt hg ht, (Turned.of_below (p := RowB f) hw).trans ht (fun _ e => e) (fun b hl e => absurd e (by omega))⟩
theorem VsT.own {w : World} {B n c : Nat} {A : Option Addr} {X : List Vk} (h : w.ownsRow B 49 8 (.slice A n c) n (vksV X)) (hk : ∀ x ∈ X, zQ w x.c x.ids) (hp : ∀ x ∈ X, InP x.p) : VsT w ⟨A, n, c⟩ X := by
 refine ⟨?_, (yw h).1, (yw h).2, yP.own h, hk, hp⟩
 have := h.1
 rw [ya] at this
 simp only
 omega
theorem RfOk.volAt {w : World} {f : Rf} (h : RfOk w f) {q : Nat} {v : Vk} (hq : f.X[q]? = some v) : ∃ g o, f.v.A = some ⟨g, o, none⟩ /\ ∀ V, Below w.heap.size w V -> VkAt V g (o + q * 8) v /\ Seen V (some ⟨g, o, none⟩) (vksV f.X) := by
 obtain ⟨g, o, hA, _⟩ := h.v.get hq
 refine ⟨g, o, hA, fun V hv => ?_⟩
 obtain ⟨g', o', hA', h2⟩ := (h.below hv).v.get hq
 rw [hA] at hA'
 injection hA' with hA'
 injection hA' with e1 e2
 subst e1; subst e2
 refine ⟨h2, ?_⟩
 rw [<- hA]
 exact (h.below hv).v.see.1
end Go.Proofs.YteebkolccbcehaaGreat
end
