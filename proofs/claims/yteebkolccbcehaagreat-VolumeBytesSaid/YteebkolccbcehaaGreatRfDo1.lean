/-
  Contract of dotterelref18's do: commands about a chunk, and refusals. Conditions: a state whose rows are its own, a command of numbers that an int holds.
-/
import Derived.Test.YteebkolccbcehaaGreatJS
set_option linter.all false
namespace Go.Proofs.YteebkolccbcehaaGreat
open Go.ChangeShapes Go.WideShapes Go.ChangeAt Go.RowKit
theorem xh.below {B : Nat} {w0 w w' : World} {f : Rf} (h : xh B w0 w f) (hb : Below w.heap.size w w') : xh B w0 w' f :=
 ⟨zh h.p hb, zh h.v hb, zh h.k hb, h.vok, h.inp, h.kok, h.vl, h.kl, h.pin, h.hB, h.bel.trans (hb.mono h.bel.size)⟩
theorem RowB.lt {B : Nat} {w0 w : World} {f : Rf} (h : xh B w0 w f) {b : Nat} (hb : RowB f b) : B <= b /\ b < w.heap.size := by
 rcases hb with e | e | e
 ·exact ⟨(h.p.lt b e).1, (h.p.lt b e).2⟩
 ·exact ⟨(h.v.lt b e).1, (h.v.lt b e).2⟩
 ·exact ⟨(h.k.lt b e).1, (h.k.lt b e).2⟩
attribute [local go_sem ↓] yX y9 yd yv yK
set_option maxRecDepth 100000 in
set_option maxHeartbeats 2000000 in
theorem Rdo_chunk (f : Rf) (c : Cmd) (B : Nat) (w0 w : World) (ho : xh B w0 w f) (hf : KFit f.dat) (hc : yj c) (hk : c.k = 6 \/ c.k = 7 \/ c.k = 8) :
  Calls Tryz.prog 17 #[f.val, cmdA c] w (yg f (ZJ f.dat c).1 (ZJ f.dat c).2 w) := by
 have h := ho.ok
 unfold Rf.val cmdA
 obtain ⟨w1, hw1, hb1, hr1⟩ := yb w f
 obtain ⟨w2, hw2, hb2, hr2⟩ := zN w1 c
 obtain ⟨w3, hw3⟩ : ∃ w3, w2.alloc (.cells #[.slice none 0 0, .slice none 0 0, .slice none 0 0, .int .i64 0] 32) = w3 := ⟨_, rfl⟩
 have hb3 : Below w2.heap.size w2 w3 := by rw [<- hw3]; exact zg _ _
 have hr3 : w3.heap[w2.heap.size]? = some (.cells #[.slice none 0 0, .slice none 0 0, .slice none 0 0, .int .i64 0] 32 (0, 0)) := by rw [<- hw3]; exact heap_alloc_new _ _
 have hb12 : Below w.heap.size w w2 := hb1.trans (hb2.mono hb1.size)
 have hbw : Below w.heap.size w w3 := hb12.trans (hb3.mono hb12.size)
 have h1 := za (za hr1 hb2) hb3
 have h2 := za hr2 hb3
 have Hr3 := ihq hr3; have Hbw := ihq hbw; have HW := ihq h
 have Hsz := ihq (show w.heap.size < w1.heap.size /\ w1.heap.size < w2.heap.size /\ w2.heap.size < w3.heap.size from ⟨(Array.getElem?_eq_some_iff.1 hr1).1, (Array.getElem?_eq_some_iff.1 hr2).1, (Array.getElem?_eq_some_iff.1 hr3).1⟩)
 have F := ihq (fun V (hv : Below w3.heap.size w3 V) => (zK.of (za h1 hv) (za h2 hv) : zK w w1 f c V))
 have H3 := ihq (h.below hbw)
 have K1 := ihq (RVol f c.a w3 (h.below hbw))
 unfold Rf.val at K1
 obtain ⟨s0, s1, s2, s3, sl, c0, c1, c2, c3⟩ := F.out w3 (Below.refl _ _)
 obtain ⟨va, hva⟩ : ∃ v, ixV (yS f.dat.vs c.a) = v := ⟨_, rfl⟩
 rw [hva] at K1
 have hk1 : (c.k == 1) = false := by simp; omega
 have hk2 : (c.k == 2) = false := by simp; omega
 have hk3 : (c.k == 3) = false := by simp; omega
 have hk4 : (c.k == 4) = false := by simp; omega
 have hk5 : (c.k == 5) = false := by simp; omega
 have KC := ihq (fun V (hv : Below w3.heap.size w3 V) => Rchunk_any f c B w0 V ((ho.below hbw).below hv) hf hc hk)
 unfold Rf.val cmdA at KC
 have HO := ihq ho
 obtain ⟨er, her⟩ : ∃ e, (ZJ f.dat c).2 = e := ⟨_, rfl⟩
 rw [her] at KC ⊢
 have Hcm := ihq (fun V (hv : Below w3.heap.size w3 V) => Xk (za h2 hv))
 unfold cmdA at Hcm
 clear ho hf hc hk her hva
 clear h hb1 hb2 hb3 hb12 hbw hr1 hr2 hr3 h1 h2
 go_enter Tryz.func17, Tryz.ntmps17
 go_wp2_with (first
  | (go_at_call 49; refine K1.out.mono ?_; rintro e w4 ⟨rfl, hb4⟩; have Hb4 := ihq hb4; obtain ⟨ds0, ds1, ds2, ds3, dsl, dc0, dc1, dc2, dc3⟩ := F.out w4 hb4; have hcm := Hcm.out w4 hb4; clear hb4)
  | (go_at_call 55; refine (KC.out w4 Hb4.out).mono ?_; rintro e w5 ⟨f', rfl, hd, hok, ht5⟩; have h3 := ht5.heap (za Hr3.out Hb4.out) (fun hb => by have := (RowB.lt HO.out hb).2; have := Hsz.out; omega); obtain ⟨w9, hst, hr9, ht9⟩ := zk h3 rfl f'.p f'.v f'.k f'.nx; have hst2 : (stRf (.pointer (some ⟨w2.heap.size, 0, none⟩)) f'.val).run Tryz.prog w5 = .ok () w9 := hst; have Hr9 := ihq hr9; have Ht9 := ihq ht9; have Hd := ihq hd; have Hok := ihq hok; have Ht5 := ihq ht5; have H3r := ihq h3; clear hr9 ht9 hd hok ht5 h3))
 refine bodyPost_ret (v := .tuple #[.agg #[.slice f'.p.A f'.p.n f'.p.c, .slice f'.v.A f'.v.n f'.v.c, .slice f'.k.A f'.k.n f'.k.c, .int .i64 f'.nx], .int .i64 er]) (zj rfl _ _ w2.heap.size 32 #[.slice f'.p.A f'.p.n f'.p.c, .slice f'.v.A f'.v.n f'.v.c, .slice f'.k.A f'.k.n f'.k.c, .int .i64 f'.nx] (0, 0) _ (.int .i64 er) rfl rfl Hr9.out Tryz.underlying32 rfl zw) rfl ?_
 have s3 := Hsz.out; have sb := Hbw.out.size; have s4 := Hb4.out.size
 have hb4 : Below w.heap.size w w4 := Hbw.out.trans (Hb4.out.mono Hbw.out.size)
 have no : ∀ {T : TypeId}, T ≠ 32 -> NoT w5 T (fun b => b = w2.heap.size) := fun {T} hT b cs fr hb e => by
  rw [hb, H3r.out] at e
  injection e with e
  injection e with _ e
  exact hT e.symm
 have ok := Hok.out
 exact ⟨f', rfl, Hd.out, ⟨ok.p.turned Ht9.out (no (by decide)), ok.v.turned Ht9.out (no (by decide)) (no (by decide)), ok.k.turned Ht9.out (no (by decide)) (no (by decide)), ok.vl, ok.kl, ok.pin⟩,
  ((Turned.of_below (p := RowB f) hb4).trans Ht5.out (fun _ e => e) (fun _ _ e => e)).trans Ht9.out (fun _ e => e) (fun b hl e => absurd e (by omega))⟩
set_option maxRecDepth 100000 in
set_option maxHeartbeats 2000000 in
theorem Rdo_1no (f : Rf) (c : Cmd) (w : World) (h : RfOk w f) (hc : yj c) (hk : c.k = 1) (hr : c.a < 0 \/ 15 < c.a \/ c.b < 1 \/ 64 < c.b) :
  Calls Tryz.prog 17 #[f.val, cmdA c] w (yg f f.dat 1 w) := by
 unfold Rf.val cmdA
 obtain ⟨w1, hw1, hb1, hr1⟩ := yb w f
 obtain ⟨w2, hw2, hb2, hr2⟩ := zN w1 c
 obtain ⟨w3, hw3⟩ : ∃ w3, w2.alloc (.cells #[.slice none 0 0, .slice none 0 0, .slice none 0 0, .int .i64 0] 32) = w3 := ⟨_, rfl⟩
 have hb3 : Below w2.heap.size w2 w3 := by rw [<- hw3]; exact zg _ _
 have hr3 : w3.heap[w2.heap.size]? = some (.cells #[.slice none 0 0, .slice none 0 0, .slice none 0 0, .int .i64 0] 32 (0, 0)) := by rw [<- hw3]; exact heap_alloc_new _ _
 have hb12 : Below w.heap.size w w2 := hb1.trans (hb2.mono hb1.size)
 have hbw : Below w.heap.size w w3 := hb12.trans (hb3.mono hb12.size)
 have h1 := za (za hr1 hb2) hb3
 have h2 := za hr2 hb3
 have Hr3 := ihq hr3; have Hbw := ihq hbw; have HW := ihq h
 have Hsz := ihq (show w.heap.size < w1.heap.size /\ w1.heap.size < w2.heap.size /\ w2.heap.size < w3.heap.size from ⟨(Array.getElem?_eq_some_iff.1 hr1).1, (Array.getElem?_eq_some_iff.1 hr2).1, (Array.getElem?_eq_some_iff.1 hr3).1⟩)
 have F := ihq (fun V (hv : Below w3.heap.size w3 V) => (zK.of (za h1 hv) (za h2 hv) : zK w w1 f c V))
 have H3 := ihq (h.below hbw)
 have K1 := ihq (RVol f c.a w3 (h.below hbw))
 unfold Rf.val at K1
 obtain ⟨s0, s1, s2, s3, sl, c0, c1, c2, c3⟩ := F.out w3 (Below.refl _ _)
 obtain ⟨va, hva⟩ : ∃ v, ixV (yS f.dat.vs c.a) = v := ⟨_, rfl⟩
 rw [hva] at K1
 have hk1 : (c.k == 1) = true := by simpa using hk
 clear hk
 clear hva
 clear h hb1 hb2 hb3 hb12 hbw hr1 hr2 hr3 h1 h2
 by_cases a1 : c.a < 0
 ·go_enter Tryz.func17, Tryz.ntmps17
  go_wp2_with ((go_at_call 49; refine K1.out.mono ?_; rintro e w4 ⟨rfl, hb4⟩; have Hb4 := ihq hb4; obtain ⟨ds0, ds1, ds2, ds3, dsl, dc0, dc1, dc2, dc3⟩ := F.out w4 hb4; obtain ⟨w9, hst, hr9, ht9⟩ := zk (za Hr3.out hb4) rfl f.p f.v f.k f.nx; have Hr9 := ihq hr9; have Ht9 := ihq ht9; clear hr9 ht9; clear hb4))
  refine bodyPost_ret (v := .tuple #[.agg #[.slice f.p.A f.p.n f.p.c, .slice f.v.A f.v.n f.v.c, .slice f.k.A f.k.n f.k.c, .int .i64 f.nx], .int .i64 1]) (zj rfl _ _ w2.heap.size 32 #[.slice f.p.A f.p.n f.p.c, .slice f.v.A f.v.n f.v.c, .slice f.k.A f.k.n f.k.c, .int .i64 f.nx] (0, 0) _ (.int .i64 1) rfl rfl Hr9.out Tryz.underlying32 rfl zw) rfl ?_
  exact zL HW.out Hbw.out Hb4.out (by have := Hsz.out; omega) Ht9.out
 ·by_cases a2 : 15 < c.a
  ·go_enter Tryz.func17, Tryz.ntmps17
   go_wp2_with ((go_at_call 49; refine K1.out.mono ?_; rintro e w4 ⟨rfl, hb4⟩; have Hb4 := ihq hb4; obtain ⟨ds0, ds1, ds2, ds3, dsl, dc0, dc1, dc2, dc3⟩ := F.out w4 hb4; obtain ⟨w9, hst, hr9, ht9⟩ := zk (za Hr3.out hb4) rfl f.p f.v f.k f.nx; have Hr9 := ihq hr9; have Ht9 := ihq ht9; clear hr9 ht9; clear hb4))
   refine bodyPost_ret (v := .tuple #[.agg #[.slice f.p.A f.p.n f.p.c, .slice f.v.A f.v.n f.v.c, .slice f.k.A f.k.n f.k.c, .int .i64 f.nx], .int .i64 1]) (zj rfl _ _ w2.heap.size 32 #[.slice f.p.A f.p.n f.p.c, .slice f.v.A f.v.n f.v.c, .slice f.k.A f.k.n f.k.c, .int .i64 f.nx] (0, 0) _ (.int .i64 1) rfl rfl Hr9.out Tryz.underlying32 rfl zw) rfl ?_
   exact zL HW.out Hbw.out Hb4.out (by have := Hsz.out; omega) Ht9.out
  ·by_cases a3 : c.b < 1
   ·go_enter Tryz.func17, Tryz.ntmps17
    go_wp2_with ((go_at_call 49; refine K1.out.mono ?_; rintro e w4 ⟨rfl, hb4⟩; have Hb4 := ihq hb4; obtain ⟨ds0, ds1, ds2, ds3, dsl, dc0, dc1, dc2, dc3⟩ := F.out w4 hb4; obtain ⟨w9, hst, hr9, ht9⟩ := zk (za Hr3.out hb4) rfl f.p f.v f.k f.nx; have Hr9 := ihq hr9; have Ht9 := ihq ht9; clear hr9 ht9; clear hb4))
    refine bodyPost_ret (v := .tuple #[.agg #[.slice f.p.A f.p.n f.p.c, .slice f.v.A f.v.n f.v.c, .slice f.k.A f.k.n f.k.c, .int .i64 f.nx], .int .i64 1]) (zj rfl _ _ w2.heap.size 32 #[.slice f.p.A f.p.n f.p.c, .slice f.v.A f.v.n f.v.c, .slice f.k.A f.k.n f.k.c, .int .i64 f.nx] (0, 0) _ (.int .i64 1) rfl rfl Hr9.out Tryz.underlying32 rfl zw) rfl ?_
    exact zL HW.out Hbw.out Hb4.out (by have := Hsz.out; omega) Ht9.out
   ·have a4 : 64 < c.b := by omega
    go_enter Tryz.func17, Tryz.ntmps17
    go_wp2_with ((go_at_call 49; refine K1.out.mono ?_; rintro e w4 ⟨rfl, hb4⟩; have Hb4 := ihq hb4; obtain ⟨ds0, ds1, ds2, ds3, dsl, dc0, dc1, dc2, dc3⟩ := F.out w4 hb4; obtain ⟨w9, hst, hr9, ht9⟩ := zk (za Hr3.out hb4) rfl f.p f.v f.k f.nx; have Hr9 := ihq hr9; have Ht9 := ihq ht9; clear hr9 ht9; clear hb4))
    refine bodyPost_ret (v := .tuple #[.agg #[.slice f.p.A f.p.n f.p.c, .slice f.v.A f.v.n f.v.c, .slice f.k.A f.k.n f.k.c, .int .i64 f.nx], .int .i64 1]) (zj rfl _ _ w2.heap.size 32 #[.slice f.p.A f.p.n f.p.c, .slice f.v.A f.v.n f.v.c, .slice f.k.A f.k.n f.k.c, .int .i64 f.nx] (0, 0) _ (.int .i64 1) rfl rfl Hr9.out Tryz.underlying32 rfl zw) rfl ?_
    exact zL HW.out Hbw.out Hb4.out (by have := Hsz.out; omega) Ht9.out
set_option maxRecDepth 100000 in
set_option maxHeartbeats 2000000 in
theorem Rdo_3no (f : Rf) (c : Cmd) (w : World) (h : RfOk w f) (hc : yj c) (hk : c.k = 3) (hv : yS f.dat.vs c.a = none) :
  Calls Tryz.prog 17 #[f.val, cmdA c] w (yg f f.dat 7 w) := by
 unfold Rf.val cmdA
 obtain ⟨w1, hw1, hb1, hr1⟩ := yb w f
 obtain ⟨w2, hw2, hb2, hr2⟩ := zN w1 c
 obtain ⟨w3, hw3⟩ : ∃ w3, w2.alloc (.cells #[.slice none 0 0, .slice none 0 0, .slice none 0 0, .int .i64 0] 32) = w3 := ⟨_, rfl⟩
 have hb3 : Below w2.heap.size w2 w3 := by rw [<- hw3]; exact zg _ _
 have hr3 : w3.heap[w2.heap.size]? = some (.cells #[.slice none 0 0, .slice none 0 0, .slice none 0 0, .int .i64 0] 32 (0, 0)) := by rw [<- hw3]; exact heap_alloc_new _ _
 have hb12 : Below w.heap.size w w2 := hb1.trans (hb2.mono hb1.size)
 have hbw : Below w.heap.size w w3 := hb12.trans (hb3.mono hb12.size)
 have h1 := za (za hr1 hb2) hb3
 have h2 := za hr2 hb3
 have Hr3 := ihq hr3; have Hbw := ihq hbw; have HW := ihq h
 have Hsz := ihq (show w.heap.size < w1.heap.size /\ w1.heap.size < w2.heap.size /\ w2.heap.size < w3.heap.size from ⟨(Array.getElem?_eq_some_iff.1 hr1).1, (Array.getElem?_eq_some_iff.1 hr2).1, (Array.getElem?_eq_some_iff.1 hr3).1⟩)
 have F := ihq (fun V (hv : Below w3.heap.size w3 V) => (zK.of (za h1 hv) (za h2 hv) : zK w w1 f c V))
 have H3 := ihq (h.below hbw)
 have K1 := ihq (RVol f c.a w3 (h.below hbw))
 unfold Rf.val at K1
 obtain ⟨s0, s1, s2, s3, sl, c0, c1, c2, c3⟩ := F.out w3 (Below.refl _ _)
 rw [hv] at K1
 simp only [ixV] at K1
 have hk1 : (c.k == 1) = false := by simp; omega
 have hk2 : (c.k == 2) = false := by simp; omega
 have hk3 : (c.k == 3) = true := by simpa using hk
 clear hk
 clear h hb1 hb2 hb3 hb12 hbw hr1 hr2 hr3 h1 h2
 go_enter Tryz.func17, Tryz.ntmps17
 go_wp2_with ((go_at_call 49; refine K1.out.mono ?_; rintro e w4 ⟨rfl, hb4⟩; have Hb4 := ihq hb4; obtain ⟨ds0, ds1, ds2, ds3, dsl, dc0, dc1, dc2, dc3⟩ := F.out w4 hb4; obtain ⟨w9, hst, hr9, ht9⟩ := zk (za Hr3.out hb4) rfl f.p f.v f.k f.nx; have Hr9 := ihq hr9; have Ht9 := ihq ht9; clear hr9 ht9; clear hb4))
 refine bodyPost_ret (v := .tuple #[.agg #[.slice f.p.A f.p.n f.p.c, .slice f.v.A f.v.n f.v.c, .slice f.k.A f.k.n f.k.c, .int .i64 f.nx], .int .i64 7]) (zj rfl _ _ w2.heap.size 32 #[.slice f.p.A f.p.n f.p.c, .slice f.v.A f.v.n f.v.c, .slice f.k.A f.k.n f.k.c, .int .i64 f.nx] (0, 0) _ (.int .i64 7) rfl rfl Hr9.out Tryz.underlying32 rfl zw) rfl ?_
 exact zL HW.out Hbw.out Hb4.out (by have := Hsz.out; omega) Ht9.out
set_option maxRecDepth 100000 in
set_option maxHeartbeats 2000000 in
theorem Rdo_4no (f : Rf) (c : Cmd) (w : World) (h : RfOk w f) (hc : yj c) (hk : c.k = 4) (hr : c.b < 1 \/ 512 < c.b) :
  Calls Tryz.prog 17 #[f.val, cmdA c] w (yg f f.dat 1 w) := by
 unfold Rf.val cmdA
 obtain ⟨w1, hw1, hb1, hr1⟩ := yb w f
 obtain ⟨w2, hw2, hb2, hr2⟩ := zN w1 c
 obtain ⟨w3, hw3⟩ : ∃ w3, w2.alloc (.cells #[.slice none 0 0, .slice none 0 0, .slice none 0 0, .int .i64 0] 32) = w3 := ⟨_, rfl⟩
 have hb3 : Below w2.heap.size w2 w3 := by rw [<- hw3]; exact zg _ _
 have hr3 : w3.heap[w2.heap.size]? = some (.cells #[.slice none 0 0, .slice none 0 0, .slice none 0 0, .int .i64 0] 32 (0, 0)) := by rw [<- hw3]; exact heap_alloc_new _ _
 have hb12 : Below w.heap.size w w2 := hb1.trans (hb2.mono hb1.size)
 have hbw : Below w.heap.size w w3 := hb12.trans (hb3.mono hb12.size)
 have h1 := za (za hr1 hb2) hb3
 have h2 := za hr2 hb3
 have Hr3 := ihq hr3; have Hbw := ihq hbw; have HW := ihq h
 have Hsz := ihq (show w.heap.size < w1.heap.size /\ w1.heap.size < w2.heap.size /\ w2.heap.size < w3.heap.size from ⟨(Array.getElem?_eq_some_iff.1 hr1).1, (Array.getElem?_eq_some_iff.1 hr2).1, (Array.getElem?_eq_some_iff.1 hr3).1⟩)
 have F := ihq (fun V (hv : Below w3.heap.size w3 V) => (zK.of (za h1 hv) (za h2 hv) : zK w w1 f c V))
 have H3 := ihq (h.below hbw)
 have K1 := ihq (RVol f c.a w3 (h.below hbw))
 unfold Rf.val at K1
 obtain ⟨s0, s1, s2, s3, sl, c0, c1, c2, c3⟩ := F.out w3 (Below.refl _ _)
 obtain ⟨va, hva⟩ : ∃ v, ixV (yS f.dat.vs c.a) = v := ⟨_, rfl⟩
 rw [hva] at K1
 have hk1 : (c.k == 1) = false := by simp; omega
 have hk2 : (c.k == 2) = false := by simp; omega
 have hk3 : (c.k == 3) = false := by simp; omega
 have hk4 : (c.k == 4) = true := by simpa using hk
 clear hk
 clear hva
 clear h hb1 hb2 hb3 hb12 hbw hr1 hr2 hr3 h1 h2
 by_cases a1 : c.b < 1
 ·go_enter Tryz.func17, Tryz.ntmps17
  go_wp2_with ((go_at_call 49; refine K1.out.mono ?_; rintro e w4 ⟨rfl, hb4⟩; have Hb4 := ihq hb4; obtain ⟨ds0, ds1, ds2, ds3, dsl, dc0, dc1, dc2, dc3⟩ := F.out w4 hb4; obtain ⟨w9, hst, hr9, ht9⟩ := zk (za Hr3.out hb4) rfl f.p f.v f.k f.nx; have Hr9 := ihq hr9; have Ht9 := ihq ht9; clear hr9 ht9; clear hb4))
  refine bodyPost_ret (v := .tuple #[.agg #[.slice f.p.A f.p.n f.p.c, .slice f.v.A f.v.n f.v.c, .slice f.k.A f.k.n f.k.c, .int .i64 f.nx], .int .i64 1]) (zj rfl _ _ w2.heap.size 32 #[.slice f.p.A f.p.n f.p.c, .slice f.v.A f.v.n f.v.c, .slice f.k.A f.k.n f.k.c, .int .i64 f.nx] (0, 0) _ (.int .i64 1) rfl rfl Hr9.out Tryz.underlying32 rfl zw) rfl ?_
  exact zL HW.out Hbw.out Hb4.out (by have := Hsz.out; omega) Ht9.out
 ·have a2 : 512 < c.b := by omega
  go_enter Tryz.func17, Tryz.ntmps17
  go_wp2_with ((go_at_call 49; refine K1.out.mono ?_; rintro e w4 ⟨rfl, hb4⟩; have Hb4 := ihq hb4; obtain ⟨ds0, ds1, ds2, ds3, dsl, dc0, dc1, dc2, dc3⟩ := F.out w4 hb4; obtain ⟨w9, hst, hr9, ht9⟩ := zk (za Hr3.out hb4) rfl f.p f.v f.k f.nx; have Hr9 := ihq hr9; have Ht9 := ihq ht9; clear hr9 ht9; clear hb4))
  refine bodyPost_ret (v := .tuple #[.agg #[.slice f.p.A f.p.n f.p.c, .slice f.v.A f.v.n f.v.c, .slice f.k.A f.k.n f.k.c, .int .i64 f.nx], .int .i64 1]) (zj rfl _ _ w2.heap.size 32 #[.slice f.p.A f.p.n f.p.c, .slice f.v.A f.v.n f.v.c, .slice f.k.A f.k.n f.k.c, .int .i64 f.nx] (0, 0) _ (.int .i64 1) rfl rfl Hr9.out Tryz.underlying32 rfl zw) rfl ?_
  exact zL HW.out Hbw.out Hb4.out (by have := Hsz.out; omega) Ht9.out
set_option maxRecDepth 100000 in
set_option maxHeartbeats 2000000 in
theorem Rdo_4none (f : Rf) (c : Cmd) (w : World) (h : RfOk w f) (hc : yj c) (hk : c.k = 4) (h1 : 1 <= c.b) (h2b : c.b <= 512) (hv : yS f.dat.vs c.a = none) :
  Calls Tryz.prog 17 #[f.val, cmdA c] w (yg f f.dat 7 w) := by
 unfold Rf.val cmdA
 obtain ⟨w1, hw1, hb1, hr1⟩ := yb w f
 obtain ⟨w2, hw2, hb2, hr2⟩ := zN w1 c
 obtain ⟨w3, hw3⟩ : ∃ w3, w2.alloc (.cells #[.slice none 0 0, .slice none 0 0, .slice none 0 0, .int .i64 0] 32) = w3 := ⟨_, rfl⟩
 have hb3 : Below w2.heap.size w2 w3 := by rw [<- hw3]; exact zg _ _
 have hr3 : w3.heap[w2.heap.size]? = some (.cells #[.slice none 0 0, .slice none 0 0, .slice none 0 0, .int .i64 0] 32 (0, 0)) := by rw [<- hw3]; exact heap_alloc_new _ _
 have hb12 : Below w.heap.size w w2 := hb1.trans (hb2.mono hb1.size)
 have hbw : Below w.heap.size w w3 := hb12.trans (hb3.mono hb12.size)
 have h1 := za (za hr1 hb2) hb3
 have h2 := za hr2 hb3
 have Hr3 := ihq hr3; have Hbw := ihq hbw; have HW := ihq h
 have Hsz := ihq (show w.heap.size < w1.heap.size /\ w1.heap.size < w2.heap.size /\ w2.heap.size < w3.heap.size from ⟨(Array.getElem?_eq_some_iff.1 hr1).1, (Array.getElem?_eq_some_iff.1 hr2).1, (Array.getElem?_eq_some_iff.1 hr3).1⟩)
 have F := ihq (fun V (hv : Below w3.heap.size w3 V) => (zK.of (za h1 hv) (za h2 hv) : zK w w1 f c V))
 have H3 := ihq (h.below hbw)
 have K1 := ihq (RVol f c.a w3 (h.below hbw))
 unfold Rf.val at K1
 obtain ⟨s0, s1, s2, s3, sl, c0, c1, c2, c3⟩ := F.out w3 (Below.refl _ _)
 rw [hv] at K1
 simp only [ixV] at K1
 have a1 : ¬ c.b < 1 := by omega
 have a2 : ¬ 512 < c.b := by omega
 have hk1 : (c.k == 1) = false := by simp; omega
 have hk2 : (c.k == 2) = false := by simp; omega
 have hk3 : (c.k == 3) = false := by simp; omega
 have hk4 : (c.k == 4) = true := by simpa using hk
 clear hk
 clear h hb1 hb2 hb3 hb12 hbw hr1 hr2 hr3 h1 h2
 go_enter Tryz.func17, Tryz.ntmps17
 go_wp2_with ((go_at_call 49; refine K1.out.mono ?_; rintro e w4 ⟨rfl, hb4⟩; have Hb4 := ihq hb4; obtain ⟨ds0, ds1, ds2, ds3, dsl, dc0, dc1, dc2, dc3⟩ := F.out w4 hb4; obtain ⟨w9, hst, hr9, ht9⟩ := zk (za Hr3.out hb4) rfl f.p f.v f.k f.nx; have Hr9 := ihq hr9; have Ht9 := ihq ht9; clear hr9 ht9; clear hb4))
 refine bodyPost_ret (v := .tuple #[.agg #[.slice f.p.A f.p.n f.p.c, .slice f.v.A f.v.n f.v.c, .slice f.k.A f.k.n f.k.c, .int .i64 f.nx], .int .i64 7]) (zj rfl _ _ w2.heap.size 32 #[.slice f.p.A f.p.n f.p.c, .slice f.v.A f.v.n f.v.c, .slice f.k.A f.k.n f.k.c, .int .i64 f.nx] (0, 0) _ (.int .i64 7) rfl rfl Hr9.out Tryz.underlying32 rfl zw) rfl ?_
 exact zL HW.out Hbw.out Hb4.out (by have := Hsz.out; omega) Ht9.out
end Go.Proofs.YteebkolccbcehaaGreat
