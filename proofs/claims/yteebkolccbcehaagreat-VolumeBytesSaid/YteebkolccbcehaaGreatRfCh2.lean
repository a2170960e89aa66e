/-
  Contract of dotterelref18's chunk: its later refusals. Conditions: a state that can be read, a command of numbers that an int holds.
-/
import Derived.Test.YteebkolccbcehaaGreatRfChk
import Derived.Test.YteebkolccbcehaaGreatJE
set_option linter.all false
namespace Go.Proofs.YteebkolccbcehaaGreat
open Go.ChangeShapes Go.WideShapes Go.ChangeAt Go.RowKit
attribute [local irreducible] wpQuiet
attribute [local go_sem ↓] yX y9 yd yv yK
set_option maxRecDepth 100000 in
set_option maxHeartbeats 2000000 in
theorem Rchunk_old (f : Rf) (c : Cmd) (q : Nat) (k : Ck) (w : World) (h : RfOk w f) (hc : yj c) (hx : chIx f.dat.cs c.a = some q) (hk : f.K[q]? = some k) (h7 : c.k ≠ 7) (he : k.ep ≠ c.b) :
  Calls Tryz.prog 55 #[f.val, cmdA c] w (yg f f.dat 10 w) := by
 unfold Rf.val cmdA
 obtain ⟨w1, hw1, hb1, hr1⟩ := yb w f
 obtain ⟨w2, hw2, hb2, hr2⟩ := zN w1 c
 obtain ⟨w3, hw3⟩ : ∃ w3, w2.alloc (.cells #[.slice none 0 0, .slice none 0 0, .slice none 0 0, .int .i64 0] 32) = w3 := ⟨_, rfl⟩
 have hb3 : Below w2.heap.size w2 w3 := by rw [<- hw3]; exact zg _ _
 have hr3 : w3.heap[w2.heap.size]? = some (.cells #[.slice none 0 0, .slice none 0 0, .slice none 0 0, .int .i64 0] 32 (0, 0)) := by rw [<- hw3]; exact heap_alloc_new _ _
 have hb12 : Below w.heap.size w w2 := hb1.trans (hb2.mono hb1.size)
 have hbw : Below w.heap.size w w3 := hb12.trans (hb3.mono hb12.size)
 have h1 := za (za hr1 hb2) hb3
 have h2 := za hr2 hb3
 have Hr3 := ihq hr3; have Hbw := ihq hbw; have HW := ihq h
 have Hsz := ihq (show w.heap.size < w1.heap.size /\ w1.heap.size < w2.heap.size /\ w2.heap.size < w3.heap.size from ⟨(Array.getElem?_eq_some_iff.1 hr1).1, (Array.getElem?_eq_some_iff.1 hr2).1, (Array.getElem?_eq_some_iff.1 hr3).1⟩)
 have F := ihq (fun V (hv : Below w3.heap.size w3 V) => (zK.of (za h1 hv) (za h2 hv) : zK w w1 f c V))
 have H3 := ihq (h.below hbw)
 have K1 := ihq (xR f c.a w3 (h.below hbw))
 unfold Rf.val at K1
 obtain ⟨s0, s1, s2, s3, sl, c0, c1, c2, c3⟩ := F.out w3 (Below.refl _ _)
 rw [hx] at K1
 simp only [ixV] at K1
 have hq0 : ¬ (q : Int) < 0 := by omega
 have Hk := ihq hk
 have hq1 : (q : Int) < (f.k.n : Int) := by have := (List.getElem?_eq_some_iff.1 hk).1; have := h.k.len; omega
 have hq2 : (0 : Int) <= (q : Int) := by omega
 have HKok := ihq (fun V (hv : Below w3.heap.size w3 V) => (H3.out.below hv).k.ok k (List.mem_of_getElem? hk))
 have h7b : (c.k == 7) = false := by simpa using h7
 have heb : (k.ep == c.b) = false := by simpa using he
 clear he
 clear hx hk
 clear h hb1 hb2 hb3 hb12 hbw hr1 hr2 hr3 h1 h2
 go_enter Tryz.func55, Tryz.ntmps55
 go_wp2_with (first
  | (go_at_call 54; refine K1.out.mono ?_; rintro e w4 ⟨rfl, hb4⟩; have Hb4 := ihq hb4; obtain ⟨ds0, ds1, ds2, ds3, dsl, dc0, dc1, dc2, dc3⟩ := F.out w4 hb4; obtain ⟨gk, ok, hAk, hck⟩ := (H3.out.below hb4).k.get Hk.out; rw [hAk] at ds2; have hldk := zC hck; obtain ⟨wz, w5, hwz, hstk, hb5, hr5⟩ := yq w4 k; have Hb5 := ihq (hb4.trans (hb5.mono hb4.size)); obtain ⟨xs0, xs1, xs2, xs3, xsl, xc0, xc1, xc2, xc3⟩ := F.out w5 Hb5.out; obtain ⟨k0, k1, k2, k3, k4⟩ := CkAt.of_row hr5; have hldx := zC (CkAt.of_row hr5); have Hr5 := ihq hr5; obtain ⟨w9, hst, hr9, ht9⟩ := zk (za Hr3.out Hb5.out) rfl f.p f.v f.k f.nx; have Hr9 := ihq hr9; have Ht9 := ihq ht9; clear hr9 ht9; clear hb4 hb5 hck hAk hr5))
 refine bodyPost_ret (v := .tuple #[.agg #[.slice f.p.A f.p.n f.p.c, .slice f.v.A f.v.n f.v.c, .slice f.k.A f.k.n f.k.c, .int .i64 f.nx], .int .i64 10]) (zj rfl _ _ w2.heap.size 32 #[.slice f.p.A f.p.n f.p.c, .slice f.v.A f.v.n f.v.c, .slice f.k.A f.k.n f.k.c, .int .i64 f.nx] (0, 0) _ (.int .i64 10) rfl rfl Hr9.out Tryz.underlying32 rfl zw) rfl ?_
 exact zL HW.out Hbw.out Hb5.out (by have := Hsz.out; omega) Ht9.out
set_option maxRecDepth 100000 in
set_option maxHeartbeats 2000000 in
theorem Rchunk_old7 (f : Rf) (c : Cmd) (q : Nat) (k : Ck) (w : World) (h : RfOk w f) (hc : yj c) (hx : chIx f.dat.cs c.a = some q) (hk : f.K[q]? = some k) (n : Nat) (h7 : c.k = 7) (hn : n < 16) (hcn : c.c = (n : Int)) (hpk : f.pk n ≠ 0) (he : k.ep ≠ c.b) :
  Calls Tryz.prog 55 #[f.val, cmdA c] w (yg f f.dat 10 w) := by
 obtain ⟨ck, ca, cb, cc, cp⟩ := c
 simp only at h7 hcn hx he ⊢
 subst h7; subst hcn
 unfold Rf.val cmdA
 obtain ⟨w1, hw1, hb1, hr1⟩ := yb w f
 obtain ⟨w2, hw2, hb2, hr2⟩ := zN w1 ⟨7, ca, cb, (n : Int), cp⟩
 obtain ⟨w3, hw3⟩ : ∃ w3, w2.alloc (.cells #[.slice none 0 0, .slice none 0 0, .slice none 0 0, .int .i64 0] 32) = w3 := ⟨_, rfl⟩
 have hb3 : Below w2.heap.size w2 w3 := by rw [<- hw3]; exact zg _ _
 have hr3 : w3.heap[w2.heap.size]? = some (.cells #[.slice none 0 0, .slice none 0 0, .slice none 0 0, .int .i64 0] 32 (0, 0)) := by rw [<- hw3]; exact heap_alloc_new _ _
 have hb12 : Below w.heap.size w w2 := hb1.trans (hb2.mono hb1.size)
 have hbw : Below w.heap.size w w3 := hb12.trans (hb3.mono hb12.size)
 have h1 := za (za hr1 hb2) hb3
 have h2 := za hr2 hb3
 have Hr3 := ihq hr3; have Hbw := ihq hbw; have HW := ihq h
 have Hsz := ihq (show w.heap.size < w1.heap.size /\ w1.heap.size < w2.heap.size /\ w2.heap.size < w3.heap.size from ⟨(Array.getElem?_eq_some_iff.1 hr1).1, (Array.getElem?_eq_some_iff.1 hr2).1, (Array.getElem?_eq_some_iff.1 hr3).1⟩)
 have F := ihq (fun V (hv : Below w3.heap.size w3 V) => (zK.of (za h1 hv) (za h2 hv) : zK w w1 f ⟨7, ca, cb, (n : Int), cp⟩ V))
 have H3 := ihq (h.below hbw)
 have K1 := ihq (xR f ca w3 (h.below hbw))
 unfold Rf.val at K1
 obtain ⟨s0, s1, s2, s3, sl, c0, c1, c2, c3⟩ := F.out w3 (Below.refl _ _)
 simp only at s0 s1 s2 s3 sl c0 c1 c2 c3 F hw2
 rw [hx] at K1
 simp only [ixV] at K1
 have hq0 : ¬ (q : Int) < 0 := by omega
 have Hk := ihq hk
 have hq1 : (q : Int) < (f.k.n : Int) := by have := (List.getElem?_eq_some_iff.1 hk).1; have := h.k.len; omega
 have hq2 : (0 : Int) <= (q : Int) := by omega
 have HKok := ihq (fun V (hv : Below w3.heap.size w3 V) => (H3.out.below hv).k.ok k (List.mem_of_getElem? hk))
 have i0 : (0 : Int) <= (n : Int) := by omega
 have i1 : (n : Int) < (f.p.n : Int) := by have := h.pn; omega
 have i2 : ¬ (n : Int) < 0 := by omega
 have i3 : ¬ (15 : Int) < (n : Int) := by omega
 obtain ⟨gp, op, hA, _⟩ := H3.out.pick hn
 have HP := ihq (fun V (hv : Below w3.heap.size w3 V) => show V.cell? ⟨gp, op + n, none⟩ = some (.int .i64 (f.pk n)) from by
  obtain ⟨g', o', hA', e⟩ := (H3.out.below hv).pick hn
  rw [hA] at hA'
  injection hA' with hA'
  injection hA' with e1 e2 _
  subst e1; subst e2
  exact e)
 have hpz : (f.pk n == 0) = false := by simpa using hpk
 obtain ⟨pv, hpv0⟩ : ∃ pv, f.pk n = pv := ⟨_, rfl⟩
 rw [hpv0] at HP hpz
 have HA := ihq hA
 clear hA hpk hpv0
 have heb : (k.ep == cb) = false := by simpa using he
 clear he
 clear hx hk
 clear h hb1 hb2 hb3 hb12 hbw hr1 hr2 hr3 h1 h2
 go_enter Tryz.func55, Tryz.ntmps55
 go_wp2_with (first
  | (go_at_call 54; refine K1.out.mono ?_; rintro e w4 ⟨rfl, hb4⟩; have Hb4 := ihq hb4; obtain ⟨ds0, ds1, ds2, ds3, dsl, dc0, dc1, dc2, dc3⟩ := F.out w4 hb4; rw [HA.out] at ds0; have hpv := HP.out w4 hb4; obtain ⟨gk, ok, hAk, hck⟩ := (H3.out.below hb4).k.get Hk.out; rw [hAk] at ds2; have hldk := zC hck; obtain ⟨wz, w5, hwz, hstk, hb5, hr5⟩ := yq w4 k; have Hb5 := ihq (hb4.trans (hb5.mono hb4.size)); obtain ⟨xs0, xs1, xs2, xs3, xsl, xc0, xc1, xc2, xc3⟩ := F.out w5 Hb5.out; obtain ⟨k0, k1, k2, k3, k4⟩ := CkAt.of_row hr5; have hldx := zC (CkAt.of_row hr5); have Hr5 := ihq hr5; obtain ⟨w9, hst, hr9, ht9⟩ := zk (za Hr3.out Hb5.out) rfl f.p f.v f.k f.nx; have Hr9 := ihq hr9; have Ht9 := ihq ht9; clear hr9 ht9; clear hb4 hb5 hck hAk hr5))
 refine bodyPost_ret (v := .tuple #[.agg #[.slice f.p.A f.p.n f.p.c, .slice f.v.A f.v.n f.v.c, .slice f.k.A f.k.n f.k.c, .int .i64 f.nx], .int .i64 10]) (zj rfl _ _ w2.heap.size 32 #[.slice f.p.A f.p.n f.p.c, .slice f.v.A f.v.n f.v.c, .slice f.k.A f.k.n f.k.c, .int .i64 f.nx] (0, 0) _ (.int .i64 10) rfl rfl Hr9.out Tryz.underlying32 rfl zw) rfl ?_
 exact zL HW.out Hbw.out Hb5.out (by have := Hsz.out; omega) Ht9.out
set_option maxRecDepth 100000 in
set_option maxHeartbeats 2000000 in
theorem Rchunk_6no (f : Rf) (c : Cmd) (q : Nat) (k : Ck) (w : World) (h : RfOk w f) (hc : yj c) (hx : chIx f.dat.cs c.a = some q) (hk : f.K[q]? = some k) (h6 : c.k = 6) (he : k.ep = c.b) (hh : hasK c.c k.dat = false) :
  Calls Tryz.prog 55 #[f.val, cmdA c] w (yg f f.dat 1 w) := by
 unfold Rf.val cmdA
 obtain ⟨w1, hw1, hb1, hr1⟩ := yb w f
 obtain ⟨w2, hw2, hb2, hr2⟩ := zN w1 c
 obtain ⟨w3, hw3⟩ : ∃ w3, w2.alloc (.cells #[.slice none 0 0, .slice none 0 0, .slice none 0 0, .int .i64 0] 32) = w3 := ⟨_, rfl⟩
 have hb3 : Below w2.heap.size w2 w3 := by rw [<- hw3]; exact zg _ _
 have hr3 : w3.heap[w2.heap.size]? = some (.cells #[.slice none 0 0, .slice none 0 0, .slice none 0 0, .int .i64 0] 32 (0, 0)) := by rw [<- hw3]; exact heap_alloc_new _ _
 have hb12 : Below w.heap.size w w2 := hb1.trans (hb2.mono hb1.size)
 have hbw : Below w.heap.size w w3 := hb12.trans (hb3.mono hb12.size)
 have h1 := za (za hr1 hb2) hb3
 have h2 := za hr2 hb3
 have Hr3 := ihq hr3; have Hbw := ihq hbw; have HW := ihq h
 have Hsz := ihq (show w.heap.size < w1.heap.size /\ w1.heap.size < w2.heap.size /\ w2.heap.size < w3.heap.size from ⟨(Array.getElem?_eq_some_iff.1 hr1).1, (Array.getElem?_eq_some_iff.1 hr2).1, (Array.getElem?_eq_some_iff.1 hr3).1⟩)
 have F := ihq (fun V (hv : Below w3.heap.size w3 V) => (zK.of (za h1 hv) (za h2 hv) : zK w w1 f c V))
 have H3 := ihq (h.below hbw)
 have K1 := ihq (xR f c.a w3 (h.below hbw))
 unfold Rf.val at K1
 obtain ⟨s0, s1, s2, s3, sl, c0, c1, c2, c3⟩ := F.out w3 (Below.refl _ _)
 rw [hx] at K1
 simp only [ixV] at K1
 have hq0 : ¬ (q : Int) < 0 := by omega
 have Hk := ihq hk
 have hq1 : (q : Int) < (f.k.n : Int) := by have := (List.getElem?_eq_some_iff.1 hk).1; have := h.k.len; omega
 have hq2 : (0 : Int) <= (q : Int) := by omega
 have HKok := ihq (fun V (hv : Below w3.heap.size w3 V) => (H3.out.below hv).k.ok k (List.mem_of_getElem? hk))
 have h7b : (c.k == 7) = false := by rw [h6]; rfl
 have h6b : (c.k == 6) = true := by rw [h6]; rfl
 have heb : (k.ep == c.b) = true := by simpa using he
 clear he
 have KH := ihq (fun V (hv : Below w3.heap.size w3 V) => RHas k c.c V (HKok.out V hv))
 unfold ckA at KH
 rw [hh] at KH
 clear h6 hh
 clear hx hk
 clear h hb1 hb2 hb3 hb12 hbw hr1 hr2 hr3 h1 h2
 go_enter Tryz.func55, Tryz.ntmps55
 go_wp2_with (first
  | (go_at_call 73; refine (KH.out w5 Hb5.out).mono ?_; rintro e w6 ⟨rfl, hb6⟩; have Hb6 := ihq (Hb5.out.trans (hb6.mono Hb5.out.size)); obtain ⟨ys0, ys1, ys2, ys3, ysl, yc0, yc1, yc2, yc3⟩ := F.out w6 Hb6.out; obtain ⟨w9, hst, hr9, ht9⟩ := zk (za Hr3.out Hb6.out) rfl f.p f.v f.k f.nx; have Hr9 := ihq hr9; have Ht9 := ihq ht9; clear hr9 ht9; clear hb6)
  | (go_at_call 54; refine K1.out.mono ?_; rintro e w4 ⟨rfl, hb4⟩; have Hb4 := ihq hb4; obtain ⟨ds0, ds1, ds2, ds3, dsl, dc0, dc1, dc2, dc3⟩ := F.out w4 hb4; obtain ⟨gk, ok, hAk, hck⟩ := (H3.out.below hb4).k.get Hk.out; rw [hAk] at ds2; have hldk := zC hck; obtain ⟨wz, w5, hwz, hstk, hb5, hr5⟩ := yq w4 k; have Hb5 := ihq (hb4.trans (hb5.mono hb4.size)); obtain ⟨xs0, xs1, xs2, xs3, xsl, xc0, xc1, xc2, xc3⟩ := F.out w5 Hb5.out; obtain ⟨k0, k1, k2, k3, k4⟩ := CkAt.of_row hr5; have hldx := zC (CkAt.of_row hr5); have Hr5 := ihq hr5; clear hb4 hb5 hck hAk hr5))
 refine bodyPost_ret (v := .tuple #[.agg #[.slice f.p.A f.p.n f.p.c, .slice f.v.A f.v.n f.v.c, .slice f.k.A f.k.n f.k.c, .int .i64 f.nx], .int .i64 1]) (zj rfl _ _ w2.heap.size 32 #[.slice f.p.A f.p.n f.p.c, .slice f.v.A f.v.n f.v.c, .slice f.k.A f.k.n f.k.c, .int .i64 f.nx] (0, 0) _ (.int .i64 1) rfl rfl Hr9.out Tryz.underlying32 rfl zw) rfl ?_
 exact zL HW.out Hbw.out Hb6.out (by have := Hsz.out; omega) Ht9.out
set_option maxRecDepth 100000 in
set_option maxHeartbeats 2000000 in
theorem Rchunk_6sole (f : Rf) (c : Cmd) (q : Nat) (k : Ck) (w : World) (h : RfOk w f) (hc : yj c) (hx : chIx f.dat.cs c.a = some q) (hk : f.K[q]? = some k) (h6 : c.k = 6) (he : k.ep = c.b) (hh : hasK c.c k.dat = true) (hms : k.ms = [c.c]) :
  Calls Tryz.prog 55 #[f.val, cmdA c] w (yg f f.dat 9 w) := by
 unfold Rf.val cmdA
 obtain ⟨w1, hw1, hb1, hr1⟩ := yb w f
 obtain ⟨w2, hw2, hb2, hr2⟩ := zN w1 c
 obtain ⟨w3, hw3⟩ : ∃ w3, w2.alloc (.cells #[.slice none 0 0, .slice none 0 0, .slice none 0 0, .int .i64 0] 32) = w3 := ⟨_, rfl⟩
 have hb3 : Below w2.heap.size w2 w3 := by rw [<- hw3]; exact zg _ _
 have hr3 : w3.heap[w2.heap.size]? = some (.cells #[.slice none 0 0, .slice none 0 0, .slice none 0 0, .int .i64 0] 32 (0, 0)) := by rw [<- hw3]; exact heap_alloc_new _ _
 have hb12 : Below w.heap.size w w2 := hb1.trans (hb2.mono hb1.size)
 have hbw : Below w.heap.size w w3 := hb12.trans (hb3.mono hb12.size)
 have h1 := za (za hr1 hb2) hb3
 have h2 := za hr2 hb3
 have Hr3 := ihq hr3; have Hbw := ihq hbw; have HW := ihq h
 have Hsz := ihq (show w.heap.size < w1.heap.size /\ w1.heap.size < w2.heap.size /\ w2.heap.size < w3.heap.size from ⟨(Array.getElem?_eq_some_iff.1 hr1).1, (Array.getElem?_eq_some_iff.1 hr2).1, (Array.getElem?_eq_some_iff.1 hr3).1⟩)
 have F := ihq (fun V (hv : Below w3.heap.size w3 V) => (zK.of (za h1 hv) (za h2 hv) : zK w w1 f c V))
 have H3 := ihq (h.below hbw)
 have K1 := ihq (xR f c.a w3 (h.below hbw))
 unfold Rf.val at K1
 obtain ⟨s0, s1, s2, s3, sl, c0, c1, c2, c3⟩ := F.out w3 (Below.refl _ _)
 rw [hx] at K1
 simp only [ixV] at K1
 have hq0 : ¬ (q : Int) < 0 := by omega
 have Hk := ihq hk
 have hq1 : (q : Int) < (f.k.n : Int) := by have := (List.getElem?_eq_some_iff.1 hk).1; have := h.k.len; omega
 have hq2 : (0 : Int) <= (q : Int) := by omega
 have HKok := ihq (fun V (hv : Below w3.heap.size w3 V) => (H3.out.below hv).k.ok k (List.mem_of_getElem? hk))
 have h7b : (c.k == 7) = false := by rw [h6]; rfl
 have h6b : (c.k == 6) = true := by rw [h6]; rfl
 have heb : (k.ep == c.b) = true := by simpa using he
 clear he
 have KH := ihq (fun V (hv : Below w3.heap.size w3 V) => RHas k c.c V (HKok.out V hv))
 unfold ckA at KH
 rw [hh] at KH
 have hl1 : ((k.m.n : Int) == 1) = true := by have := (HKok.out w3 (Below.refl _ _)).m.len; rw [hms] at this; simp at this; simp; omega
 have hl3 : 0 < k.m.n := by simp at hl1; omega
 have hl4 : decide (0 < k.m.n) = true := decide_eq_true hl3
 have HM0 := ihq (fun V (hv : Below w3.heap.size w3 V) => show ∃ g o, k.m.A = some ⟨g, o, none⟩ /\ V.cell? ⟨g, o, none⟩ = some (.int .i64 c.c) from by
  rcases (HKok.out V hv).m.see.1 with e | ⟨g, o, e1, e2⟩
  ·rw [hms] at e; simp [zo] at e
  ·exact ⟨g, o, e1, by simpa using e2 0 (.int .i64 c.c) (by rw [hms]; rfl)⟩)
 clear h6 hh hms
 clear hx hk
 clear h hb1 hb2 hb3 hb12 hbw hr1 hr2 hr3 h1 h2
 go_enter Tryz.func55, Tryz.ntmps55
 go_wp2_with (first
  | (go_at_call 73; refine (KH.out w5 Hb5.out).mono ?_; rintro e w6 ⟨rfl, hb6⟩; have Hb6 := ihq (Hb5.out.trans (hb6.mono Hb5.out.size)); obtain ⟨ys0, ys1, ys2, ys3, ysl, yc0, yc1, yc2, yc3⟩ := F.out w6 Hb6.out; have R6 := ihq (fun p : zO w6 => za (za Hr5.out hb6) p.h); have q1 : ∀ p : zO w6, p.v.cell? ⟨w4.heap.size, 3, none⟩ = some (.slice k.m.A k.m.n k.m.c) := fun p => zc (R6.out p) 3; obtain ⟨gm, om, hAm, _⟩ := HM0.out w6 Hb6.out; have q2 : ∀ p : zO w6, p.v.cell? ⟨gm, om, none⟩ = some (.int .i64 c.c) := fun p => (by obtain ⟨g', o', e1, e2⟩ := HM0.out p.v (Hb6.out.trans (p.h.mono Hb6.out.size)); rw [hAm] at e1; injection e1 with e1; injection e1 with e3 e4 _; subst e3; subst e4; exact e2); have q3 : ∀ p : zO w6, p.v.cell? ⟨w1.heap.size, 3, none⟩ = some (.int .i64 c.c) := fun p => (F.out p.v (Hb6.out.trans (p.h.mono Hb6.out.size))).c3; simp only [hAm] at q1; clear hb6)
  | (go_at_call 54; refine K1.out.mono ?_; rintro e w4 ⟨rfl, hb4⟩; have Hb4 := ihq hb4; obtain ⟨ds0, ds1, ds2, ds3, dsl, dc0, dc1, dc2, dc3⟩ := F.out w4 hb4; obtain ⟨gk, ok, hAk, hck⟩ := (H3.out.below hb4).k.get Hk.out; rw [hAk] at ds2; have hldk := zC hck; obtain ⟨wz, w5, hwz, hstk, hb5, hr5⟩ := yq w4 k; have Hb5 := ihq (hb4.trans (hb5.mono hb4.size)); obtain ⟨xs0, xs1, xs2, xs3, xsl, xc0, xc1, xc2, xc3⟩ := F.out w5 Hb5.out; obtain ⟨k0, k1, k2, k3, k4⟩ := CkAt.of_row hr5; have hldx := zC (CkAt.of_row hr5); have Hr5 := ihq hr5; clear hb4 hb5 hck hAk hr5))
 refine zB (by kernel_rfl) (by kernel_rfl) ?_
 repeat (quiet_step (fail))
 refine wpQuiet_nil ?_
 rintro w8 ⟨⟨w7, hb7⟩, e⟩
 have e2 : w7 = w8 := e.symm
 subst e2
 clear e
 have Hb7 := ihq (Hb6.out.trans (hb7.mono Hb6.out.size)); clear hb7
 obtain ⟨zs0, zs1, zs2, zs3, zsl, zc0, zc1, zc2, zc3⟩ := F.out w7 Hb7.out
 obtain ⟨w9, hst, hr9, ht9⟩ := zk (za Hr3.out Hb7.out) rfl f.p f.v f.k f.nx; have Hr9 := ihq hr9; have Ht9 := ihq ht9; clear hr9 ht9
 go_wp2
 refine bodyPost_ret (v := .tuple #[.agg #[.slice f.p.A f.p.n f.p.c, .slice f.v.A f.v.n f.v.c, .slice f.k.A f.k.n f.k.c, .int .i64 f.nx], .int .i64 9]) (zj rfl _ _ w2.heap.size 32 #[.slice f.p.A f.p.n f.p.c, .slice f.v.A f.v.n f.v.c, .slice f.k.A f.k.n f.k.c, .int .i64 f.nx] (0, 0) _ (.int .i64 9) rfl rfl Hr9.out Tryz.underlying32 rfl zw) rfl ?_
 exact zL HW.out Hbw.out Hb7.out (by have := Hsz.out; omega) Ht9.out
set_option maxRecDepth 100000 in
set_option maxHeartbeats 2000000 in
theorem Rchunk_8no (f : Rf) (c : Cmd) (q : Nat) (k : Ck) (w : World) (h : RfOk w f) (hc : yj c) (hx : chIx f.dat.cs c.a = some q) (hk : f.K[q]? = some k) (h8 : c.k = 8) (he : k.ep = c.b) (hh : decide (c.c ∈ k.js) = false) :
  Calls Tryz.prog 55 #[f.val, cmdA c] w (yg f f.dat 1 w) := by
 unfold Rf.val cmdA
 obtain ⟨w1, hw1, hb1, hr1⟩ := yb w f
 obtain ⟨w2, hw2, hb2, hr2⟩ := zN w1 c
 obtain ⟨w3, hw3⟩ : ∃ w3, w2.alloc (.cells #[.slice none 0 0, .slice none 0 0, .slice none 0 0, .int .i64 0] 32) = w3 := ⟨_, rfl⟩
 have hb3 : Below w2.heap.size w2 w3 := by rw [<- hw3]; exact zg _ _
 have hr3 : w3.heap[w2.heap.size]? = some (.cells #[.slice none 0 0, .slice none 0 0, .slice none 0 0, .int .i64 0] 32 (0, 0)) := by rw [<- hw3]; exact heap_alloc_new _ _
 have hb12 : Below w.heap.size w w2 := hb1.trans (hb2.mono hb1.size)
 have hbw : Below w.heap.size w w3 := hb12.trans (hb3.mono hb12.size)
 have h1 := za (za hr1 hb2) hb3
 have h2 := za hr2 hb3
 have Hr3 := ihq hr3; have Hbw := ihq hbw; have HW := ihq h
 have Hsz := ihq (show w.heap.size < w1.heap.size /\ w1.heap.size < w2.heap.size /\ w2.heap.size < w3.heap.size from ⟨(Array.getElem?_eq_some_iff.1 hr1).1, (Array.getElem?_eq_some_iff.1 hr2).1, (Array.getElem?_eq_some_iff.1 hr3).1⟩)
 have F := ihq (fun V (hv : Below w3.heap.size w3 V) => (zK.of (za h1 hv) (za h2 hv) : zK w w1 f c V))
 have H3 := ihq (h.below hbw)
 have K1 := ihq (xR f c.a w3 (h.below hbw))
 unfold Rf.val at K1
 obtain ⟨s0, s1, s2, s3, sl, c0, c1, c2, c3⟩ := F.out w3 (Below.refl _ _)
 rw [hx] at K1
 simp only [ixV] at K1
 have hq0 : ¬ (q : Int) < 0 := by omega
 have Hk := ihq hk
 have hq1 : (q : Int) < (f.k.n : Int) := by have := (List.getElem?_eq_some_iff.1 hk).1; have := h.k.len; omega
 have hq2 : (0 : Int) <= (q : Int) := by omega
 have HKok := ihq (fun V (hv : Below w3.heap.size w3 V) => (H3.out.below hv).k.ok k (List.mem_of_getElem? hk))
 have h7b : (c.k == 7) = false := by rw [h8]; rfl
 have h6b : (c.k == 6) = false := by rw [h8]; rfl
 have h8b : (c.k == 8) = true := by rw [h8]; rfl
 have heb : (k.ep == c.b) = true := by simpa using he
 clear he
 have KJ := ihq (fun V (hv : Below w3.heap.size w3 V) => (HKok.out V hv).j.has c.c)
 rw [hh] at KJ
 clear h8 hh
 clear hx hk
 clear h hb1 hb2 hb3 hb12 hbw hr1 hr2 hr3 h1 h2
 go_enter Tryz.func55, Tryz.ntmps55
 go_wp2_with (first
  | (go_at_call 90; refine (KJ.out w5 Hb5.out).mono ?_; rintro e w6 ⟨rfl, e2⟩; have e3 := e2.symm; subst e3; clear e2)
  | (go_at_call 54; refine K1.out.mono ?_; rintro e w4 ⟨rfl, hb4⟩; have Hb4 := ihq hb4; obtain ⟨ds0, ds1, ds2, ds3, dsl, dc0, dc1, dc2, dc3⟩ := F.out w4 hb4; obtain ⟨gk, ok, hAk, hck⟩ := (H3.out.below hb4).k.get Hk.out; rw [hAk] at ds2; have hldk := zC hck; obtain ⟨wz, w5, hwz, hstk, hb5, hr5⟩ := yq w4 k; have Hb5 := ihq (hb4.trans (hb5.mono hb4.size)); obtain ⟨xs0, xs1, xs2, xs3, xsl, xc0, xc1, xc2, xc3⟩ := F.out w5 Hb5.out; obtain ⟨k0, k1, k2, k3, k4⟩ := CkAt.of_row hr5; have hldx := zC (CkAt.of_row hr5); have Hr5 := ihq hr5; obtain ⟨w9, hst, hr9, ht9⟩ := zk (za Hr3.out Hb5.out) rfl f.p f.v f.k f.nx; have Hr9 := ihq hr9; have Ht9 := ihq ht9; clear hr9 ht9; clear hb4 hb5 hck hAk hr5))
 refine bodyPost_ret (v := .tuple #[.agg #[.slice f.p.A f.p.n f.p.c, .slice f.v.A f.v.n f.v.c, .slice f.k.A f.k.n f.k.c, .int .i64 f.nx], .int .i64 1]) (zj rfl _ _ w2.heap.size 32 #[.slice f.p.A f.p.n f.p.c, .slice f.v.A f.v.n f.v.c, .slice f.k.A f.k.n f.k.c, .int .i64 f.nx] (0, 0) _ (.int .i64 1) rfl rfl Hr9.out Tryz.underlying32 rfl zw) rfl ?_
 exact zL HW.out Hbw.out Hb5.out (by have := Hsz.out; omega) Ht9.out
set_option maxRecDepth 100000 in
set_option maxHeartbeats 2000000 in
theorem Rchunk_7has (f : Rf) (c : Cmd) (q : Nat) (k : Ck) (w : World) (h : RfOk w f) (hc : yj c) (hx : chIx f.dat.cs c.a = some q) (hk : f.K[q]? = some k) (n : Nat) (h7 : c.k = 7) (hn : n < 16) (hcn : c.c = (n : Int)) (hpk : f.pk n ≠ 0) (he : k.ep = c.b) (hh : hasK c.c k.dat = true) :
  Calls Tryz.prog 55 #[f.val, cmdA c] w (yg f f.dat 8 w) := by
 obtain ⟨ck, ca, cb, cc, cp⟩ := c
 simp only at h7 hcn hx he hh ⊢
 subst h7; subst hcn
 unfold Rf.val cmdA
 obtain ⟨w1, hw1, hb1, hr1⟩ := yb w f
 obtain ⟨w2, hw2, hb2, hr2⟩ := zN w1 ⟨7, ca, cb, (n : Int), cp⟩
 obtain ⟨w3, hw3⟩ : ∃ w3, w2.alloc (.cells #[.slice none 0 0, .slice none 0 0, .slice none 0 0, .int .i64 0] 32) = w3 := ⟨_, rfl⟩
 have hb3 : Below w2.heap.size w2 w3 := by rw [<- hw3]; exact zg _ _
 have hr3 : w3.heap[w2.heap.size]? = some (.cells #[.slice none 0 0, .slice none 0 0, .slice none 0 0, .int .i64 0] 32 (0, 0)) := by rw [<- hw3]; exact heap_alloc_new _ _
 have hb12 : Below w.heap.size w w2 := hb1.trans (hb2.mono hb1.size)
 have hbw : Below w.heap.size w w3 := hb12.trans (hb3.mono hb12.size)
 have h1 := za (za hr1 hb2) hb3
 have h2 := za hr2 hb3
 have Hr3 := ihq hr3; have Hbw := ihq hbw; have HW := ihq h
 have Hsz := ihq (show w.heap.size < w1.heap.size /\ w1.heap.size < w2.heap.size /\ w2.heap.size < w3.heap.size from ⟨(Array.getElem?_eq_some_iff.1 hr1).1, (Array.getElem?_eq_some_iff.1 hr2).1, (Array.getElem?_eq_some_iff.1 hr3).1⟩)
 have F := ihq (fun V (hv : Below w3.heap.size w3 V) => (zK.of (za h1 hv) (za h2 hv) : zK w w1 f ⟨7, ca, cb, (n : Int), cp⟩ V))
 have H3 := ihq (h.below hbw)
 have K1 := ihq (xR f ca w3 (h.below hbw))
 unfold Rf.val at K1
 obtain ⟨s0, s1, s2, s3, sl, c0, c1, c2, c3⟩ := F.out w3 (Below.refl _ _)
 simp only at s0 s1 s2 s3 sl c0 c1 c2 c3 F hw2
 rw [hx] at K1
 simp only [ixV] at K1
 have hq0 : ¬ (q : Int) < 0 := by omega
 have Hk := ihq hk
 have hq1 : (q : Int) < (f.k.n : Int) := by have := (List.getElem?_eq_some_iff.1 hk).1; have := h.k.len; omega
 have hq2 : (0 : Int) <= (q : Int) := by omega
 have HKok := ihq (fun V (hv : Below w3.heap.size w3 V) => (H3.out.below hv).k.ok k (List.mem_of_getElem? hk))
 have i0 : (0 : Int) <= (n : Int) := by omega
 have i1 : (n : Int) < (f.p.n : Int) := by have := h.pn; omega
 have i2 : ¬ (n : Int) < 0 := by omega
 have i3 : ¬ (15 : Int) < (n : Int) := by omega
 obtain ⟨gp, op, hA, _⟩ := H3.out.pick hn
 have HP := ihq (fun V (hv : Below w3.heap.size w3 V) => show V.cell? ⟨gp, op + n, none⟩ = some (.int .i64 (f.pk n)) from by
  obtain ⟨g', o', hA', e⟩ := (H3.out.below hv).pick hn
  rw [hA] at hA'
  injection hA' with hA'
  injection hA' with e1 e2 _
  subst e1; subst e2
  exact e)
 have hpz : (f.pk n == 0) = false := by simpa using hpk
 obtain ⟨pv, hpv0⟩ : ∃ pv, f.pk n = pv := ⟨_, rfl⟩
 rw [hpv0] at HP hpz
 have HA := ihq hA
 clear hA hpk hpv0
 have heb : (k.ep == cb) = true := by simpa using he
 clear he
 have KH := ihq (fun V (hv : Below w3.heap.size w3 V) => RHas k (n : Int) V (HKok.out V hv))
 unfold ckA at KH
 rw [hh] at KH
 clear hh
 clear hx hk
 clear h hb1 hb2 hb3 hb12 hbw hr1 hr2 hr3 h1 h2
 go_enter Tryz.func55, Tryz.ntmps55
 go_wp2_with (first
  | (go_at_call 73; refine (KH.out w5 Hb5.out).mono ?_; rintro e w6 ⟨rfl, hb6⟩; have Hb6 := ihq (Hb5.out.trans (hb6.mono Hb5.out.size)); obtain ⟨ys0, ys1, ys2, ys3, ysl, yc0, yc1, yc2, yc3⟩ := F.out w6 Hb6.out; obtain ⟨w9, hst, hr9, ht9⟩ := zk (za Hr3.out Hb6.out) rfl f.p f.v f.k f.nx; have Hr9 := ihq hr9; have Ht9 := ihq ht9; clear hr9 ht9; clear hb6)
  | (go_at_call 54; refine K1.out.mono ?_; rintro e w4 ⟨rfl, hb4⟩; have Hb4 := ihq hb4; obtain ⟨ds0, ds1, ds2, ds3, dsl, dc0, dc1, dc2, dc3⟩ := F.out w4 hb4; rw [HA.out] at ds0; have hpv := HP.out w4 hb4; obtain ⟨gk, ok, hAk, hck⟩ := (H3.out.below hb4).k.get Hk.out; rw [hAk] at ds2; have hldk := zC hck; obtain ⟨wz, w5, hwz, hstk, hb5, hr5⟩ := yq w4 k; have Hb5 := ihq (hb4.trans (hb5.mono hb4.size)); obtain ⟨xs0, xs1, xs2, xs3, xsl, xc0, xc1, xc2, xc3⟩ := F.out w5 Hb5.out; obtain ⟨k0, k1, k2, k3, k4⟩ := CkAt.of_row hr5; have hldx := zC (CkAt.of_row hr5); have Hr5 := ihq hr5; clear hb4 hb5 hck hAk hr5))
 refine bodyPost_ret (v := .tuple #[.agg #[.slice f.p.A f.p.n f.p.c, .slice f.v.A f.v.n f.v.c, .slice f.k.A f.k.n f.k.c, .int .i64 f.nx], .int .i64 8]) (zj rfl _ _ w2.heap.size 32 #[.slice f.p.A f.p.n f.p.c, .slice f.v.A f.v.n f.v.c, .slice f.k.A f.k.n f.k.c, .int .i64 f.nx] (0, 0) _ (.int .i64 8) rfl rfl Hr9.out Tryz.underlying32 rfl zw) rfl ?_
 exact zL HW.out Hbw.out Hb6.out (by have := Hsz.out; omega) Ht9.out
set_option maxRecDepth 100000 in
set_option maxHeartbeats 2000000 in
theorem Rchunk_7full (f : Rf) (c : Cmd) (q : Nat) (k : Ck) (w : World) (h : RfOk w f) (hc : yj c) (hx : chIx f.dat.cs c.a = some q) (hk : f.K[q]? = some k) (n : Nat) (h7 : c.k = 7) (hn : n < 16) (hcn : c.c = (n : Int)) (hpk : f.pk n ≠ 0) (he : k.ep = c.b) (hh : hasK c.c k.dat = false) (hfull : 4 <= k.ms.length + k.js.length) (hm6 : k.ms.length <= 1000000) (hj6 : k.js.length <= 1000000) :
  Calls Tryz.prog 55 #[f.val, cmdA c] w (yg f f.dat 6 w) := by
 obtain ⟨ck, ca, cb, cc, cp⟩ := c
 simp only at h7 hcn hx he hh ⊢
 subst h7; subst hcn
 unfold Rf.val cmdA
 obtain ⟨w1, hw1, hb1, hr1⟩ := yb w f
 obtain ⟨w2, hw2, hb2, hr2⟩ := zN w1 ⟨7, ca, cb, (n : Int), cp⟩
 obtain ⟨w3, hw3⟩ : ∃ w3, w2.alloc (.cells #[.slice none 0 0, .slice none 0 0, .slice none 0 0, .int .i64 0] 32) = w3 := ⟨_, rfl⟩
 have hb3 : Below w2.heap.size w2 w3 := by rw [<- hw3]; exact zg _ _
 have hr3 : w3.heap[w2.heap.size]? = some (.cells #[.slice none 0 0, .slice none 0 0, .slice none 0 0, .int .i64 0] 32 (0, 0)) := by rw [<- hw3]; exact heap_alloc_new _ _
 have hb12 : Below w.heap.size w w2 := hb1.trans (hb2.mono hb1.size)
 have hbw : Below w.heap.size w w3 := hb12.trans (hb3.mono hb12.size)
 have h1 := za (za hr1 hb2) hb3
 have h2 := za hr2 hb3
 have Hr3 := ihq hr3; have Hbw := ihq hbw; have HW := ihq h
 have Hsz := ihq (show w.heap.size < w1.heap.size /\ w1.heap.size < w2.heap.size /\ w2.heap.size < w3.heap.size from ⟨(Array.getElem?_eq_some_iff.1 hr1).1, (Array.getElem?_eq_some_iff.1 hr2).1, (Array.getElem?_eq_some_iff.1 hr3).1⟩)
 have F := ihq (fun V (hv : Below w3.heap.size w3 V) => (zK.of (za h1 hv) (za h2 hv) : zK w w1 f ⟨7, ca, cb, (n : Int), cp⟩ V))
 have H3 := ihq (h.below hbw)
 have K1 := ihq (xR f ca w3 (h.below hbw))
 unfold Rf.val at K1
 obtain ⟨s0, s1, s2, s3, sl, c0, c1, c2, c3⟩ := F.out w3 (Below.refl _ _)
 simp only at s0 s1 s2 s3 sl c0 c1 c2 c3 F hw2
 rw [hx] at K1
 simp only [ixV] at K1
 have hq0 : ¬ (q : Int) < 0 := by omega
 have Hk := ihq hk
 have hq1 : (q : Int) < (f.k.n : Int) := by have := (List.getElem?_eq_some_iff.1 hk).1; have := h.k.len; omega
 have hq2 : (0 : Int) <= (q : Int) := by omega
 have HKok := ihq (fun V (hv : Below w3.heap.size w3 V) => (H3.out.below hv).k.ok k (List.mem_of_getElem? hk))
 have i0 : (0 : Int) <= (n : Int) := by omega
 have i1 : (n : Int) < (f.p.n : Int) := by have := h.pn; omega
 have i2 : ¬ (n : Int) < 0 := by omega
 have i3 : ¬ (15 : Int) < (n : Int) := by omega
 obtain ⟨gp, op, hA, _⟩ := H3.out.pick hn
 have HP := ihq (fun V (hv : Below w3.heap.size w3 V) => show V.cell? ⟨gp, op + n, none⟩ = some (.int .i64 (f.pk n)) from by
  obtain ⟨g', o', hA', e⟩ := (H3.out.below hv).pick hn
  rw [hA] at hA'
  injection hA' with hA'
  injection hA' with e1 e2 _
  subst e1; subst e2
  exact e)
 have hpz : (f.pk n == 0) = false := by simpa using hpk
 obtain ⟨pv, hpv0⟩ : ∃ pv, f.pk n = pv := ⟨_, rfl⟩
 rw [hpv0] at HP hpz
 have HA := ihq hA
 clear hA hpk hpv0
 have heb : (k.ep == cb) = true := by simpa using he
 clear he
 have KH := ihq (fun V (hv : Below w3.heap.size w3 V) => RHas k (n : Int) V (HKok.out V hv))
 unfold ckA at KH
 rw [hh] at KH
 have hf1 : (4 : Int) <= (k.m.n : Int) + (k.j.n : Int) := by have h1 := (HKok.out w3 (Below.refl _ _)).m.len; have h2 := (HKok.out w3 (Below.refl _ _)).j.len; omega
 have hf2 : (k.m.n : Int) <= 1000000 := by have h1 := (HKok.out w3 (Below.refl _ _)).m.len; omega
 have hf3 : (k.j.n : Int) <= 1000000 := by have h2 := (HKok.out w3 (Below.refl _ _)).j.len; omega
 clear hh hfull hm6 hj6
 clear hx hk
 clear h hb1 hb2 hb3 hb12 hbw hr1 hr2 hr3 h1 h2
 go_enter Tryz.func55, Tryz.ntmps55
 go_wp2_with (first
  | (go_at_call 73; refine (KH.out w5 Hb5.out).mono ?_; rintro e w6 ⟨rfl, hb6⟩; have Hb6 := ihq (Hb5.out.trans (hb6.mono Hb5.out.size)); obtain ⟨ys0, ys1, ys2, ys3, ysl, yc0, yc1, yc2, yc3⟩ := F.out w6 Hb6.out; have R6 := za Hr5.out hb6; have q1 := zc R6 3; have q2 := zc R6 4; simp at q1 q2; obtain ⟨w9, hst, hr9, ht9⟩ := zk (za Hr3.out Hb6.out) rfl f.p f.v f.k f.nx; have Hr9 := ihq hr9; have Ht9 := ihq ht9; clear hr9 ht9; clear hb6)
  | (go_at_call 54; refine K1.out.mono ?_; rintro e w4 ⟨rfl, hb4⟩; have Hb4 := ihq hb4; obtain ⟨ds0, ds1, ds2, ds3, dsl, dc0, dc1, dc2, dc3⟩ := F.out w4 hb4; rw [HA.out] at ds0; have hpv := HP.out w4 hb4; obtain ⟨gk, ok, hAk, hck⟩ := (H3.out.below hb4).k.get Hk.out; rw [hAk] at ds2; have hldk := zC hck; obtain ⟨wz, w5, hwz, hstk, hb5, hr5⟩ := yq w4 k; have Hb5 := ihq (hb4.trans (hb5.mono hb4.size)); obtain ⟨xs0, xs1, xs2, xs3, xsl, xc0, xc1, xc2, xc3⟩ := F.out w5 Hb5.out; obtain ⟨k0, k1, k2, k3, k4⟩ := CkAt.of_row hr5; have hldx := zC (CkAt.of_row hr5); have Hr5 := ihq hr5; clear hb4 hb5 hck hAk hr5))
 refine bodyPost_ret (v := .tuple #[.agg #[.slice f.p.A f.p.n f.p.c, .slice f.v.A f.v.n f.v.c, .slice f.k.A f.k.n f.k.c, .int .i64 f.nx], .int .i64 6]) (zj rfl _ _ w2.heap.size 32 #[.slice f.p.A f.p.n f.p.c, .slice f.v.A f.v.n f.v.c, .slice f.k.A f.k.n f.k.c, .int .i64 f.nx] (0, 0) _ (.int .i64 6) rfl rfl Hr9.out Tryz.underlying32 rfl zw) rfl ?_
 exact zL HW.out Hbw.out Hb6.out (by have := Hsz.out; omega) Ht9.out
end Go.Proofs.YteebkolccbcehaaGreat
