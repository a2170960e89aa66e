/-
  Joined: RfDo3, RfDo2, RfSet, RfDo5, RfDo6. Conditions: each theorem's own.
-/
import Derived.Test.YteebkolccbcehaaGreatRfDo1
import Derived.StillTailTactics

section
set_option linter.all false
namespace Go.Proofs.YteebkolccbcehaaGreat
open Go.ChangeShapes Go.WideShapes Go.ChangeAt Go.RowKit
attribute [local go_sem ↓] yX y9 yd yv yK yA
set_option maxRecDepth 100000 in
set_option maxHeartbeats 2000000 in
theorem Rdo_5no (f : Rf) (c : Cmd) (w : World) (h : RfOk w f) (hc : yj c) (hk : c.k = 5) (hr : yc c.p = false) :
  Calls Tryz.prog 17 #[f.val, cmdA c] w (yg f f.dat 1 w) := by
 unfold Rf.val cmdA
 obtain ⟨w1, hw1, hb1, hr1⟩ := yb w f
 obtain ⟨w2, hw2, hb2, hr2⟩ := zN w1 c
 obtain ⟨w3, hw3⟩ : ∃ w3, w2.alloc (.cells #[.slice none 0 0, .slice none 0 0, .slice none 0 0, .int .i64 0] 32) = w3 := ⟨_, rfl⟩
 have hb3 : Below w2.heap.size w2 w3 := by rw [<- hw3]; exact zg _ _
 have hr3 : w3.heap[w2.heap.size]? = some (.cells #[.slice none 0 0, .slice none 0 0, .slice none 0 0, .int .i64 0] 32 (0, 0)) := by rw [<- hw3]; exact heap_alloc_new _ _
 have hb12 : Below w.heap.size w w2 := hb1.trans (hb2.mono hb1.size)
 have hbw : Below w.heap.size w w3 := hb12.trans (hb3.mono hb12.size)
 have h1 := za (za hr1 hb2) hb3
 have h2 := za hr2 hb3
 have Hr3 := ihq hr3; have Hbw := ihq hbw; have HW := ihq h
 have Hsz := ihq (show w.heap.size < w1.heap.size /\ w1.heap.size < w2.heap.size /\ w2.heap.size < w3.heap.size from ⟨(Array.getElem?_eq_some_iff.1 hr1).1, (Array.getElem?_eq_some_iff.1 hr2).1, (Array.getElem?_eq_some_iff.1 hr3).1⟩)
 have F := ihq (fun V (hv : Below w3.heap.size w3 V) => (zK.of (za h1 hv) (za h2 hv) : zK w w1 f c V))
 have H3 := ihq (h.below hbw)
 have K1 := ihq (RVol f c.a w3 (h.below hbw))
 unfold Rf.val at K1
 obtain ⟨s0, s1, s2, s3, sl, c0, c1, c2, c3⟩ := F.out w3 (Below.refl _ _)
 obtain ⟨va, hva⟩ : ∃ v, ixV (yS f.dat.vs c.a) = v := ⟨_, rfl⟩
 rw [hva] at K1
 clear hva
 have hk1 : (c.k == 1) = false := by simp; omega
 have hk2 : (c.k == 2) = false := by simp; omega
 have hk3 : (c.k == 3) = false := by simp; omega
 have hk4 : (c.k == 4) = false := by simp; omega
 have hk5 : (c.k == 5) = true := by simpa using hk
 have KR := ihq (fun V (hv : Below w3.heap.size w3 V) => xA c.p V)
 rw [hr] at KR
 have HPl := ihq (fun V (hv : Below w3.heap.size w3 V) => zZ (xT.pol (w := w1) (za h2 hv) hc.hp))
 clear hk hr
 clear h hb1 hb2 hb3 hb12 hbw hr1 hr2 hr3 h1 h2
 go_enter Tryz.func17, Tryz.ntmps17
 go_wp2_with (first
  | (go_at_call 50; refine (KR.out w4 Hb4.out).mono ?_; rintro e w5 ⟨rfl, hb5⟩; have Hb5 := ihq (Hb4.out.trans (hb5.mono Hb4.out.size)); obtain ⟨xs0, xs1, xs2, xs3, xsl, xc0, xc1, xc2, xc3⟩ := F.out w5 Hb5.out; obtain ⟨w9, hst, hr9, ht9⟩ := zk (za Hr3.out Hb5.out) rfl f.p f.v f.k f.nx; have Hr9 := ihq hr9; have Ht9 := ihq ht9; clear hr9 ht9; clear hb5)
  | (go_at_call 49; refine K1.out.mono ?_; rintro e w4 ⟨rfl, hb4⟩; have Hb4 := ihq hb4; obtain ⟨ds0, ds1, ds2, ds3, dsl, dc0, dc1, dc2, dc3⟩ := F.out w4 hb4; have hpl := HPl.out w4 hb4; clear hb4))
 refine bodyPost_ret (v := .tuple #[.agg #[.slice f.p.A f.p.n f.p.c, .slice f.v.A f.v.n f.v.c, .slice f.k.A f.k.n f.k.c, .int .i64 f.nx], .int .i64 1]) (zj rfl _ _ w2.heap.size 32 #[.slice f.p.A f.p.n f.p.c, .slice f.v.A f.v.n f.v.c, .slice f.k.A f.k.n f.k.c, .int .i64 f.nx] (0, 0) _ (.int .i64 1) rfl rfl Hr9.out Tryz.underlying32 rfl zw) rfl ?_
 exact zL HW.out Hbw.out Hb5.out (by have := Hsz.out; omega) Ht9.out
set_option maxRecDepth 100000 in
set_option maxHeartbeats 2000000 in
theorem Rdo_5none (f : Rf) (c : Cmd) (w : World) (h : RfOk w f) (hc : yj c) (hk : c.k = 5) (hr : yc c.p = true) (hv : yS f.dat.vs c.a = none) :
  Calls Tryz.prog 17 #[f.val, cmdA c] w (yg f f.dat 7 w) := by
 unfold Rf.val cmdA
 obtain ⟨w1, hw1, hb1, hr1⟩ := yb w f
 obtain ⟨w2, hw2, hb2, hr2⟩ := zN w1 c
 obtain ⟨w3, hw3⟩ : ∃ w3, w2.alloc (.cells #[.slice none 0 0, .slice none 0 0, .slice none 0 0, .int .i64 0] 32) = w3 := ⟨_, rfl⟩
 have hb3 : Below w2.heap.size w2 w3 := by rw [<- hw3]; exact zg _ _
 have hr3 : w3.heap[w2.heap.size]? = some (.cells #[.slice none 0 0, .slice none 0 0, .slice none 0 0, .int .i64 0] 32 (0, 0)) := by rw [<- hw3]; exact heap_alloc_new _ _
 have hb12 : Below w.heap.size w w2 := hb1.trans (hb2.mono hb1.size)
 have hbw : Below w.heap.size w w3 := hb12.trans (hb3.mono hb12.size)
 have h1 := za (za hr1 hb2) hb3
 have h2 := za hr2 hb3
 have Hr3 := ihq hr3; have Hbw := ihq hbw; have HW := ihq h
 have Hsz := ihq (show w.heap.size < w1.heap.size /\ w1.heap.size < w2.heap.size /\ w2.heap.size < w3.heap.size from ⟨(Array.getElem?_eq_some_iff.1 hr1).1, (Array.getElem?_eq_some_iff.1 hr2).1, (Array.getElem?_eq_some_iff.1 hr3).1⟩)
 have F := ihq (fun V (hv : Below w3.heap.size w3 V) => (zK.of (za h1 hv) (za h2 hv) : zK w w1 f c V))
 have H3 := ihq (h.below hbw)
 have K1 := ihq (RVol f c.a w3 (h.below hbw))
 unfold Rf.val at K1
 obtain ⟨s0, s1, s2, s3, sl, c0, c1, c2, c3⟩ := F.out w3 (Below.refl _ _)
 rw [hv] at K1
 simp only [ixV] at K1
 clear hv
 have hk1 : (c.k == 1) = false := by simp; omega
 have hk2 : (c.k == 2) = false := by simp; omega
 have hk3 : (c.k == 3) = false := by simp; omega
 have hk4 : (c.k == 4) = false := by simp; omega
 have hk5 : (c.k == 5) = true := by simpa using hk
 have KR := ihq (fun V (hv : Below w3.heap.size w3 V) => xA c.p V)
 rw [hr] at KR
 have HPl := ihq (fun V (hv : Below w3.heap.size w3 V) => zZ (xT.pol (w := w1) (za h2 hv) hc.hp))
 clear hk hr
 clear h hb1 hb2 hb3 hb12 hbw hr1 hr2 hr3 h1 h2
 go_enter Tryz.func17, Tryz.ntmps17
 go_wp2_with (first
  | (go_at_call 50; refine (KR.out w4 Hb4.out).mono ?_; rintro e w5 ⟨rfl, hb5⟩; have Hb5 := ihq (Hb4.out.trans (hb5.mono Hb4.out.size)); obtain ⟨xs0, xs1, xs2, xs3, xsl, xc0, xc1, xc2, xc3⟩ := F.out w5 Hb5.out; obtain ⟨w9, hst, hr9, ht9⟩ := zk (za Hr3.out Hb5.out) rfl f.p f.v f.k f.nx; have Hr9 := ihq hr9; have Ht9 := ihq ht9; clear hr9 ht9; clear hb5)
  | (go_at_call 49; refine K1.out.mono ?_; rintro e w4 ⟨rfl, hb4⟩; have Hb4 := ihq hb4; obtain ⟨ds0, ds1, ds2, ds3, dsl, dc0, dc1, dc2, dc3⟩ := F.out w4 hb4; have hpl := HPl.out w4 hb4; clear hb4))
 refine bodyPost_ret (v := .tuple #[.agg #[.slice f.p.A f.p.n f.p.c, .slice f.v.A f.v.n f.v.c, .slice f.k.A f.k.n f.k.c, .int .i64 f.nx], .int .i64 7]) (zj rfl _ _ w2.heap.size 32 #[.slice f.p.A f.p.n f.p.c, .slice f.v.A f.v.n f.v.c, .slice f.k.A f.k.n f.k.c, .int .i64 f.nx] (0, 0) _ (.int .i64 7) rfl rfl Hr9.out Tryz.underlying32 rfl zw) rfl ?_
 exact zL HW.out Hbw.out Hb5.out (by have := Hsz.out; omega) Ht9.out
end Go.Proofs.YteebkolccbcehaaGreat
end

section
set_option linter.all false
namespace Go.Proofs.YteebkolccbcehaaGreat
open Go.ChangeShapes Go.WideShapes Go.ChangeAt Go.RowKit
theorem own_setI {w : World} {B g n c j : Nat} {us : List Int} (h : w.ownsRow B 3 1 (.slice (some ⟨g, 0, none⟩) n c) n (zo us)) (hj : j < us.length) (v : Int) :
  (w.setCell ⟨g, j, none⟩ (.int .i64 v)).ownsRow B 3 1 (.slice (some ⟨g, 0, none⟩) n c) n (zo (us.set j v)) /\ Turned (fun b => b = g) w (w.setCell ⟨g, j, none⟩ (.int .i64 v)) /\
   (∃ x, w.cell? ⟨g, j, none⟩ = some x) /\ w.frozen? ⟨g, j, none⟩ = false := by
 have hlen := h.1
 rw [zz] at hlen
 rcases h.2 with ⟨hv, _⟩ | ⟨g', cap, cur, hv, hg, hh, h1, h2, h3, h4⟩
 ·cases hv
 injection hv with hv _ hc
 injection hv with hv
 injection hv with hv
 subst hv; subst hc
 have hs := zG hh j (.int .i64 v)
 refine ⟨⟨by rw [zz, List.length_set]; exact hlen, .inr ⟨g, c, _, rfl, hg, hs, h1, h2, by simpa using h3, ?_⟩⟩, (Turned.refl (fun b => b = g) w).setCell (b := ⟨g, j, none⟩) (fun _ => rfl) _, ⟨_, by rw [zc hh, Array.getElem?_eq_getElem (by omega)]⟩, zt hh _⟩
 have e : zo (us.set j v) = (zo us).set j (.int .i64 v) := by simp [zo, List.map_set]
 rw [e, <- h4, Array.toList_setIfInBounds, List.take_set]
theorem picks_set (pk : Nat -> Int) {n : Nat} (hn : n < 16) (v : Int) : yJ (fun i => if (i : Int) = (n : Int) then v else pk i) = (yJ pk).set n v := by
 unfold yJ
 apply List.ext_getElem?
 intro j
 rw [List.getElem?_set]
 simp only [List.getElem?_map, List.length_map, List.length_range]
 by_cases h : n = j
 ·subst h
  rw [if_pos rfl, if_pos hn, List.getElem?_range hn]
  simp
 ·rw [if_neg h]
  by_cases hj : j < 16
  ·rw [List.getElem?_range hj]
   simp only [Option.map_some]
   rw [if_neg (by omega)]
  ·rw [List.getElem?_eq_none (by simp; omega)]
   rfl
attribute [local go_sem ↓] yX y9 yd yv yK
set_option maxRecDepth 100000 in
set_option maxHeartbeats 2000000 in
theorem Rdo_1yes (f : Rf) (c : Cmd) (n B : Nat) (w0 w : World) (ho : xh B w0 w f) (hc : yj c) (hk : c.k = 1) (hn : n < 16) (ha : c.a = (n : Int)) (hb : 1 <= c.b /\ c.b <= 64) :
  Calls Tryz.prog 17 #[f.val, cmdA c] w (yg f { f.dat with pk := fun i => if (i : Int) = c.a then c.b else f.pk i } 0 w) := by
 obtain ⟨ck, ca, cb, cc, cp⟩ := c
 simp only at hk ha hb ⊢
 subst hk; subst ha
 have h := ho.ok
 unfold Rf.val cmdA
 obtain ⟨w1, hw1, hb1, hr1⟩ := yb w f
 obtain ⟨w2, hw2, hb2, hr2⟩ := zN w1 ⟨1, (n : Int), cb, cc, cp⟩
 obtain ⟨w3, hw3⟩ : ∃ w3, w2.alloc (.cells #[.slice none 0 0, .slice none 0 0, .slice none 0 0, .int .i64 0] 32) = w3 := ⟨_, rfl⟩
 have hb3 : Below w2.heap.size w2 w3 := by rw [<- hw3]; exact zg _ _
 have hr3 : w3.heap[w2.heap.size]? = some (.cells #[.slice none 0 0, .slice none 0 0, .slice none 0 0, .int .i64 0] 32 (0, 0)) := by rw [<- hw3]; exact heap_alloc_new _ _
 have hb12 : Below w.heap.size w w2 := hb1.trans (hb2.mono hb1.size)
 have hbw : Below w.heap.size w w3 := hb12.trans (hb3.mono hb12.size)
 have h1 := za (za hr1 hb2) hb3
 have h2 := za hr2 hb3
 have Hr3 := ihq hr3; have Hbw := ihq hbw; have HW := ihq h
 have Hsz := ihq (show w.heap.size < w1.heap.size /\ w1.heap.size < w2.heap.size /\ w2.heap.size < w3.heap.size from ⟨(Array.getElem?_eq_some_iff.1 hr1).1, (Array.getElem?_eq_some_iff.1 hr2).1, (Array.getElem?_eq_some_iff.1 hr3).1⟩)
 have F := ihq (fun V (hv : Below w3.heap.size w3 V) => (zK.of (za h1 hv) (za h2 hv) : zK w w1 f ⟨1, (n : Int), cb, cc, cp⟩ V))
 have H3 := ihq (h.below hbw)
 have K1 := ihq (RVol f (n : Int) w3 (h.below hbw))
 unfold Rf.val at K1
 obtain ⟨s0, s1, s2, s3, sl, c0, c1, c2, c3⟩ := F.out w3 (Below.refl _ _)
 simp only at s0 s1 s2 s3 sl c0 c1 c2 c3 F hw2
 obtain ⟨va, hva⟩ : ∃ v, ixV (yS f.dat.vs (n : Int)) = v := ⟨_, rfl⟩
 rw [hva] at K1
 have b1 : ¬ cb < 1 := by omega
 have b2 : ¬ (64 : Int) < cb := by omega
 have i0 : (0 : Int) <= (n : Int) := by omega
 have i2 : ¬ (n : Int) < 0 := by omega
 have i3 : ¬ (15 : Int) < (n : Int) := by omega
 have i1 : (n : Int) < (f.p.n : Int) := by have := h.pn; omega
 have HO := ihq ho
 obtain ⟨gp, hAp⟩ : ∃ g, f.p.A = some ⟨g, 0, none⟩ := by
  rcases ho.p.2 with ⟨e, e2⟩ | ⟨g, cap, cur, e, _⟩
  ·have := h.pn; omega
  ·injection e with e _ _; exact ⟨g, e⟩
 have hop := ho.p
 rw [hAp] at hop
 have HOp := ihq hop; have HAp := ihq hAp
 have Hgl := ihq (show B <= gp /\ gp < w.heap.size from ⟨(hop.lt gp rfl).1, (hop.lt gp rfl).2⟩)
 have BXF := ihq (fun V V' (hv : Below w3.heap.size w3 V) (ht : Turned (fun b => b = gp) V V') => (⟨zK.of (ht.heap (za h1 hv) (by have := Hgl.out; omega)) (ht.heap (za h2 hv) (by have := Hgl.out; have := Hsz.out; omega)), ht.heap (za Hr3.out hv) (by have := Hgl.out; have := Hsz.out; omega)⟩ : zK w w1 f ⟨1, (n : Int), cb, cc, cp⟩ V' /\ V'.heap[w2.heap.size]? = some (.cells #[.slice none 0 0, .slice none 0 0, .slice none 0 0, .int .i64 0] 32 (0, 0))))
 clear hva ho hop hAp
 clear h hb1 hb2 hb3 hb12 hbw hr1 hr2 hr3 h1 h2
 go_enter Tryz.func17, Tryz.ntmps17
 go_wp2_with ((go_at_call 49; refine K1.out.mono ?_; rintro e w4 ⟨rfl, hb4⟩; have Hb4 := ihq hb4; obtain ⟨ds0, ds1, ds2, ds3, dsl, dc0, dc1, dc2, dc3⟩ := F.out w4 hb4; rw [HAp.out] at ds0; obtain ⟨hown5, ht5, ⟨x5, hx5⟩, hf5⟩ := own_setI (zh (zh HOp.out Hbw.out) hb4) (j := n) (by simp [yJ]; omega) cb; obtain ⟨V1, hV1⟩ : ∃ V, w4.setCell ⟨gp, n, none⟩ (.int .i64 cb) = V := ⟨_, rfl⟩; rw [hV1] at hown5 ht5; obtain ⟨⟨es0, es1, es2, es3, esl, ec0, ec1, ec2, ec3⟩, hbx⟩ := BXF.out w4 V1 hb4 ht5; obtain ⟨w9, hst, hr9, ht9⟩ := zk hbx rfl f.p f.v f.k f.nx; have Hr9 := ihq hr9; have Ht9 := ihq ht9; have Hown5 := ihq hown5; have Ht5 := ihq ht5; clear hr9 ht9 hown5 ht5 hbx; clear hb4))
 refine bodyPost_ret (v := .tuple #[.agg #[.slice f.p.A f.p.n f.p.c, .slice f.v.A f.v.n f.v.c, .slice f.k.A f.k.n f.k.c, .int .i64 f.nx], .int .i64 0]) (zj rfl _ _ w2.heap.size 32 #[.slice f.p.A f.p.n f.p.c, .slice f.v.A f.v.n f.v.c, .slice f.k.A f.k.n f.k.c, .int .i64 f.nx] (0, 0) _ (.int .i64 0) rfl rfl Hr9.out Tryz.underlying32 rfl zw) rfl ?_
 have s3 := Hsz.out; have sb := Hbw.out.size; have s4 := Hb4.out.size; have sg := Hgl.out
 have hb4 : Below w.heap.size w w4 := Hbw.out.trans (Hb4.out.mono Hbw.out.size)
 have ho := HO.out
 have neP : ∀ {T : TypeId} {z m : Nat} {v : Value} {xs : List Value}, T ≠ 3 -> w.ownsRow B T z v m xs -> w9.ownsRow B T z v m xs := fun {T z m v xs} hT o => by
  have o4 := zh o hb4
  have o5 := ze Ht5.out o4 (fun b e hb => zq o HOp.out hT e (by rw [hb]; rfl))
  exact ze Ht9.out o5 (fun b e hb => by have := (o.lt b e).2; omega)
 have op : w9.ownsRow B 3 1 (.slice f.p.A f.p.n f.p.c) f.p.n (zo (yJ fun i => if (i : Int) = (n : Int) then cb else f.pk i)) := by
  rw [HAp.out, picks_set f.pk hn cb]
  exact ze Ht9.out Hown5.out (fun b e hb => by have e1 : gp = b := Option.some.inj e; omega)
 have hbl : Below w0.heap.size w0 w9 := ((ho.bel.trans (hb4.mono ho.bel.size)).trans (Ht5.out.below (fun b e => by have := ho.hB; omega) (by have := ho.bel.size; omega))).trans (Ht9.out.below (fun b e => by have := ho.hB; omega) (by have := ho.bel.size; have := Ht5.out.size; omega))
 have own : xh B w0 w9 { f with pk := fun i => if (i : Int) = (n : Int) then cb else f.pk i } :=
  ⟨op, neP (by decide) ho.v, neP (by decide) ho.k, ho.vok, ho.inp, ho.kok, ho.vl, ho.kl, fun i hi => by
   show 0 <= (if (i : Int) = (n : Int) then cb else f.pk i) /\ (if (i : Int) = (n : Int) then cb else f.pk i) <= 64
   split
   ·omega
   ·exact ho.pin i hi, ho.hB, hbl⟩
 exact ⟨{ f with pk := fun i => if (i : Int) = (n : Int) then cb else f.pk i }, rfl, rfl, own.ok, ((Turned.of_below (p := RowB f) hb4).trans Ht5.out (fun _ e => e) (fun b _ e => .inl (by rw [HAp.out, e]; rfl))).trans Ht9.out (fun _ e => e) (fun b hl e => absurd e (by omega))⟩
end Go.Proofs.YteebkolccbcehaaGreat
end

section
set_option linter.all false
namespace Go.Proofs.YteebkolccbcehaaGreat
open Go.ChangeShapes Go.WideShapes Go.ChangeAt Go.RowKit
theorem own_cell1 {w : World} {B g n c z o : Nat} {T : TypeId} {xs : List Value} (h : w.ownsRow B T z (.slice (some ⟨g, 0, none⟩) n c) n xs) (ho : o < xs.length) (v : Value) :
  (w.setCell ⟨g, o, none⟩ v).ownsRow B T z (.slice (some ⟨g, 0, none⟩) n c) n (xs.set o v) /\ Turned (fun b => b = g) w (w.setCell ⟨g, o, none⟩ v) /\ (∃ x, w.cell? ⟨g, o, none⟩ = some x) /\ w.frozen? ⟨g, o, none⟩ = false := by
 have hlen := h.1
 rcases h.2 with ⟨hv, _⟩ | ⟨g', cap, cur, hv, hg, hh, h1, h2, h3, h4⟩
 ·cases hv
 injection hv with hv _ hc
 injection hv with hv
 injection hv with hv
 subst hv; subst hc
 have hs := zG hh o v
 have hcl : o < cur.size := by
  have := congrArg List.length h4
  rw [List.length_take, Array.length_toList] at this
  omega
 refine ⟨⟨by rw [List.length_set]; exact hlen, .inr ⟨g, c, _, rfl, hg, hs, h1, h2, by simpa using h3, ?_⟩⟩, (Turned.refl (fun b => b = g) w).setCell (b := ⟨g, o, none⟩) (fun _ => rfl) _, ⟨_, by rw [zc hh, Array.getElem?_eq_getElem hcl]⟩, zt hh _⟩
 rw [<- h4, Array.toList_setIfInBounds, List.take_set]
theorem QL {w : World} {B g n c z o : Nat} {T : TypeId} {xs new : List Value} (h : w.ownsRow B T z (.slice (some ⟨g, 0, none⟩) n c) n xs) (ho : o + new.length <= xs.length) :
  (w.setCells g o new).ownsRow B T z (.slice (some ⟨g, 0, none⟩) n c) n (xs.take o ++ new ++ xs.drop (o + new.length)) /\ Turned (fun b => b = g) w (w.setCells g o new) /\ w.there g o new.length := by
 have hlen := h.1
 rcases h.2 with ⟨hv, _⟩ | ⟨g', cap, cur, hv, hg, hh, h1, h2, h3, h4⟩
 ·cases hv
 injection hv with hv _ hc
 injection hv with hv
 injection hv with hv
 subst hv; subst hc
 obtain ⟨Z, hZ⟩ : ∃ Z, cur.toList.drop (n * z) = Z := ⟨_, rfl⟩
 have e2 : cur.toList = xs ++ Z := by rw [<- h4, <- hZ, List.take_append_drop]
 have e1 : xs = xs.take o ++ (xs.drop o).take new.length ++ xs.drop (o + new.length) := by
  rw [List.append_assoc]
  conv => lhs; rw [<- List.take_append_drop o xs, <- List.take_append_drop new.length (xs.drop o), List.drop_drop]
 have ecur : cur = (xs.take o ++ (xs.drop o).take new.length ++ (xs.drop (o + new.length) ++ Z)).toArray := by
  apply Array.ext'
  rw [e2]
  conv => lhs; rw [e1]
  simp [List.append_assoc]
 have hrow : w.heap[g]? = some (.cells (xs.take o ++ (xs.drop o).take new.length ++ (xs.drop (o + new.length) ++ Z)).toArray T (0, 0)) := by rw [<- ecur]; exact hh
 have hs := XK (b := g) (e := T) (Z := xs.drop (o + new.length) ++ Z) new (xs.take o) ((xs.drop o).take new.length) w o hrow (by rw [List.length_take, List.length_drop]; omega) (by rw [List.length_take]; omega)
 have hsz : cur.size = xs.length + Z.length := by rw [<- Array.length_toList, e2, List.length_append]
 have hl3 : (xs.take o ++ new ++ xs.drop (o + new.length)).length = n * z := by
  rw [List.length_append, List.length_append, List.length_take, List.length_drop]; omega
 refine ⟨⟨hl3, .inr ⟨g, c, _, rfl, hg, hs, h1, h2, ?_, ?_⟩⟩, xG (p := fun k => k = g) (fun _ => rfl) _ _ _ (Turned.refl _ _), fun q hq => ⟨by rw [zc hh, Array.getElem?_eq_getElem (by omega)]; rfl, zt hh _⟩⟩
 ·rw [List.size_toArray, <- List.append_assoc, List.length_append, hl3]
  omega
 ·show List.take (n * z) (xs.take o ++ new ++ (xs.drop (o + new.length) ++ Z)) = _
  rw [<- List.append_assoc, <- hl3, List.take_left]
theorem Ya {X : List Vk} {q : Nat} (hq : q < X.length) (v : Vk) : vksV (X.set q v) = (vksV X).take (q * 8) ++ vkC v ++ (vksV X).drop (q * 8 + 8) := by
 have hset : X.set q v = X.take q ++ [v] ++ X.drop (q + 1) := by rw [List.set_eq_take_append_cons_drop, if_pos hq]; simp
 rw [hset, xl, xl, Xe, Xd, show q * 8 + 8 = (q + 1) * 8 by omega, Xf]
end Go.Proofs.YteebkolccbcehaaGreat
end

section
set_option linter.all false
namespace Go.Proofs.YteebkolccbcehaaGreat
open Go.ChangeShapes Go.WideShapes Go.ChangeAt Go.RowKit
def stPl (p v : Value) : Sem Unit := Instr.storeAt 37 p v
theorem stPl_eq (p v : Value) : Instr.storeAt 37 p v = stPl p v := rfl
theorem vs_pol {w : World} {B g n c q : Nat} {X : List Vk} {v : Vk} (h : w.ownsRow B 49 8 (.slice (some ⟨g, 0, none⟩) n c) n (vksV X)) (hq : X[q]? = some v) (p : Pol) :
  ∃ w', (stPl (.pointer (some ⟨g, q * 8 + 2, none⟩)) (.agg #[.int .i64 p.re, .int .i64 p.we, .int .i64 p.li, .int .i64 p.bu])).run Tryz.prog w = .ok () w' /\
   w'.ownsRow B 49 8 (.slice (some ⟨g, 0, none⟩) n c) n (vksV (X.set q { v with p := p })) /\ Turned (fun b => b = g) w w' := by
 obtain ⟨hl, hv⟩ := List.getElem?_eq_some_iff.1 hq
 obtain ⟨h1, h2, h3⟩ := QL (o := q * 8 + 2) (new := polV p) h (by rw [ya]; simp [polV]; omega)
 refine ⟨_, run_storeAt_mid w g (q * 8 + 2) 37 #[.int .i64 p.re, .int .i64 p.we, .int .i64 p.li, .int .i64 p.bu] h3 Yd (by simp [Value.oneCell']), ?_, h2⟩
 have e : vksV (X.set q { v with p := p }) = (vksV X).take (q * 8 + 2) ++ polV p ++ (vksV X).drop (q * 8 + 2 + (polV p).length) := by
  rw [Ya hl]
  have e0 : vksV X = (vksV X).take (q * 8) ++ vkC v ++ (vksV X).drop (q * 8 + 8) := by
   conv => lhs; rw [<- YT hq, Ya hl]
  have lt : ((vksV X).take (q * 8)).length = q * 8 := by rw [List.length_take, ya]; omega
  have a1 : (vksV X).take (q * 8 + 2) = (vksV X).take (q * 8) ++ [.int .i64 v.id, .int .i64 v.bl] := by
   conv => lhs; rw [e0]
   rw [List.append_assoc, List.take_append, lt, List.take_of_length_le (by rw [lt]; omega)]
   simp [vkC]
  have a2 : (vksV X).drop (q * 8 + 2 + (polV p).length) = [.int .i64 v.ver, .slice v.c.A v.c.n v.c.c] ++ (vksV X).drop (q * 8 + 8) := by
   conv => lhs; rw [e0]
   rw [List.append_assoc, List.drop_append, lt, List.drop_eq_nil_of_le (by rw [lt]; omega), show q * 8 + 2 + (polV p).length - q * 8 = 6 by (simp [polV]; omega)]
   simp [vkC]
  rw [a1, a2]
  simp [vkC, polV]
 rw [e]
 exact h1
theorem vs_ver {w : World} {B g n c q : Nat} {X : List Vk} {v : Vk} (h : w.ownsRow B 49 8 (.slice (some ⟨g, 0, none⟩) n c) n (vksV X)) (hq : X[q]? = some v) (x : Int) :
  (w.setCell ⟨g, q * 8 + 6, none⟩ (.int .i64 x)).ownsRow B 49 8 (.slice (some ⟨g, 0, none⟩) n c) n (vksV (X.set q { v with ver := x })) /\ Turned (fun b => b = g) w (w.setCell ⟨g, q * 8 + 6, none⟩ (.int .i64 x)) /\ w.frozen? ⟨g, q * 8 + 6, none⟩ = false := by
 obtain ⟨hl, hv⟩ := List.getElem?_eq_some_iff.1 hq
 obtain ⟨h1, h2, _, h4⟩ := own_cell1 (o := q * 8 + 6) h (by rw [ya]; omega) (.int .i64 x)
 refine ⟨?_, h2, h4⟩
 have e : vksV (X.set q { v with ver := x }) = (vksV X).set (q * 8 + 6) (.int .i64 x) := by
  rw [Ya hl]
  have e0 : vksV X = (vksV X).take (q * 8) ++ vkC v ++ (vksV X).drop (q * 8 + 8) := by
   conv => lhs; rw [<- YT hq, Ya hl]
  have lt : ((vksV X).take (q * 8)).length = q * 8 := by rw [List.length_take, ya]; omega
  conv => rhs; rw [e0]
  rw [List.append_assoc, List.append_assoc, List.set_append_right _ _ (by rw [lt]; omega), lt, show q * 8 + 6 - q * 8 = 6 by omega]
  rfl
 rw [e]
 exact h1
end Go.Proofs.YteebkolccbcehaaGreat
end

section
set_option linter.all false
namespace Go.Proofs.YteebkolccbcehaaGreat
open Go.ChangeShapes Go.WideShapes Go.ChangeAt Go.RowKit
theorem own_vk {w : World} {B g n c q : Nat} {X : List Vk} {v : Vk} (h : w.ownsRow B 49 8 (.slice (some ⟨g, 0, none⟩) n c) n (vksV X)) (hq : X[q]? = some v) : w.cell? ⟨g, q * 8 + 6, none⟩ = some (.int .i64 v.ver) := by
 have e := XN hq 6 _ rfl
 rcases ye h with h0 | ⟨g', o', e1, hc⟩
 ·rw [h0] at e; cases e
 ·injection e1 with e1
  injection e1 with e2 e3 _
  subst e2; subst e3
  simpa using hc _ _ e
attribute [local go_sem ↓] yX y9 yd yv yK yA stPl_eq
set_option maxRecDepth 100000 in
set_option maxHeartbeats 2000000 in
theorem Rdo_5yes (f : Rf) (c : Cmd) (q B : Nat) (v : Vk) (w0 w : World) (ho : xh B w0 w f) (hc : yj c) (hk : c.k = 5) (hr : yc c.p = true) (hv : yS f.dat.vs c.a = some q) (hX : f.X[q]? = some v) (hver : 0 <= v.ver /\ v.ver <= 35184372088832) :
  Calls Tryz.prog 17 #[f.val, cmdA c] w (yg f { f.dat with vs := f.dat.vs.set q { v.dat with p := c.p, ver := v.ver + 1 } } 0 w) := by
 have h := ho.ok
 unfold Rf.val cmdA
 obtain ⟨w1, hw1, hb1, hr1⟩ := yb w f
 obtain ⟨w2, hw2, hb2, hr2⟩ := zN w1 c
 obtain ⟨w3, hw3⟩ : ∃ w3, w2.alloc (.cells #[.slice none 0 0, .slice none 0 0, .slice none 0 0, .int .i64 0] 32) = w3 := ⟨_, rfl⟩
 have hb3 : Below w2.heap.size w2 w3 := by rw [<- hw3]; exact zg _ _
 have hr3 : w3.heap[w2.heap.size]? = some (.cells #[.slice none 0 0, .slice none 0 0, .slice none 0 0, .int .i64 0] 32 (0, 0)) := by rw [<- hw3]; exact heap_alloc_new _ _
 have hb12 : Below w.heap.size w w2 := hb1.trans (hb2.mono hb1.size)
 have hbw : Below w.heap.size w w3 := hb12.trans (hb3.mono hb12.size)
 have h1 := za (za hr1 hb2) hb3
 have h2 := za hr2 hb3
 have Hr3 := ihq hr3; have Hbw := ihq hbw; have HW := ihq h
 have Hsz := ihq (show w.heap.size < w1.heap.size /\ w1.heap.size < w2.heap.size /\ w2.heap.size < w3.heap.size from ⟨(Array.getElem?_eq_some_iff.1 hr1).1, (Array.getElem?_eq_some_iff.1 hr2).1, (Array.getElem?_eq_some_iff.1 hr3).1⟩)
 have F := ihq (fun V (hv : Below w3.heap.size w3 V) => (zK.of (za h1 hv) (za h2 hv) : zK w w1 f c V))
 have H3 := ihq (h.below hbw)
 have K1 := ihq (RVol f c.a w3 (h.below hbw))
 unfold Rf.val at K1
 obtain ⟨s0, s1, s2, s3, sl, c0, c1, c2, c3⟩ := F.out w3 (Below.refl _ _)
 rw [hv] at K1
 simp only [ixV] at K1
 have hq0 : ¬ (q : Int) < 0 := by omega
 have hq1 : (q : Int) < (f.v.n : Int) := by have := (List.getElem?_eq_some_iff.1 hX).1; have := h.v.len; omega
 have hq2 : (0 : Int) <= (q : Int) := by omega
 have HX := ihq hX
 have HO := ihq ho
 obtain ⟨gv, hAv⟩ : ∃ g, f.v.A = some ⟨g, 0, none⟩ := by
  rcases ho.v.2 with ⟨e, e2⟩ | ⟨g, cap, cur, e, _⟩
  ·have := (List.getElem?_eq_some_iff.1 hX).1; have := h.v.len; omega
  ·injection e with e _ _; exact ⟨g, e⟩
 have hov := ho.v
 rw [hAv] at hov
 have HOv := ihq hov; have HAv := ihq hAv
 have Hgl := ihq (show B <= gv /\ gv < w.heap.size from ⟨(hov.lt gv rfl).1, (hov.lt gv rfl).2⟩)
 have BXF := ihq (fun V V' (hv : Below w3.heap.size w3 V) (ht : Turned (fun b => b = gv) V V') => (⟨zK.of (ht.heap (za h1 hv) (by have := Hgl.out; omega)) (ht.heap (za h2 hv) (by have := Hgl.out; have := Hsz.out; omega)), ht.heap (za Hr3.out hv) (by have := Hgl.out; have := Hsz.out; omega)⟩ : zK w w1 f c V' /\ V'.heap[w2.heap.size]? = some (.cells #[.slice none 0 0, .slice none 0 0, .slice none 0 0, .int .i64 0] 32 (0, 0))))
 have hk1 : (c.k == 1) = false := by simp; omega
 have hk2 : (c.k == 2) = false := by simp; omega
 have hk3 : (c.k == 3) = false := by simp; omega
 have hk4 : (c.k == 4) = false := by simp; omega
 have hk5 : (c.k == 5) = true := by simpa using hk
 have KR := ihq (fun V (hv : Below w3.heap.size w3 V) => xA c.p V)
 rw [hr] at KR
 have HPl := ihq (fun V (hv : Below w3.heap.size w3 V) => zZ (xT.pol (w := w1) (za h2 hv) hc.hp))
 have Hcp := ihq hc.hp
 have Hver := ihq hver
 clear hk hr hv hX ho hov hAv hc hver
 clear h hb1 hb2 hb3 hb12 hbw hr1 hr2 hr3 h1 h2
 go_enter Tryz.func17, Tryz.ntmps17
 go_upto_region 46 with (first
  | (go_at_call 50; refine (KR.out w4 Hb4.out).mono ?_; rintro e w5 ⟨rfl, hb5⟩; have Hb5 := ihq (Hb4.out.trans (hb5.mono Hb4.out.size)); obtain ⟨xs0, xs1, xs2, xs3, xsl, xc0, xc1, xc2, xc3⟩ := F.out w5 Hb5.out; rw [HAv.out] at xs1; have hpl5 := HPl.out w5 Hb5.out; obtain ⟨V1, hstp, hown1, ht1⟩ := vs_pol (zh (zh HOv.out Hbw.out) Hb5.out) HX.out c.p; obtain ⟨⟨es0, es1, es2, es3, esl, ec0, ec1, ec2, ec3⟩, _⟩ := BXF.out w5 V1 Hb5.out ht1; rw [HAv.out] at es1; have hq9 : (f.X.set q { v with p := c.p })[q]? = some { v with p := c.p } := List.getElem?_set_self (List.getElem?_eq_some_iff.1 HX.out).1; have hcv := own_vk hown1 hq9; simp only at hcv; have Hown1 := ihq hown1; have Ht1 := ihq ht1; have Hq9 := ihq hq9; clear hb5 hown1 ht1 hq9)
  | (go_at_call 49; refine K1.out.mono ?_; rintro e w4 ⟨rfl, hb4⟩; have Hb4 := ihq hb4; obtain ⟨ds0, ds1, ds2, ds3, dsl, dc0, dc1, dc2, dc3⟩ := F.out w4 hb4; have hpl := HPl.out w4 hb4; clear hb4))
 have hv1 := Hver.out.1
 have hv2 := Hver.out.2
 go_still_tail 12, (by kernel_rfl)
 change wpList _ _ _ _ _ V1.drew
 obtain ⟨V2, hV2⟩ : ∃ V, V1.drew = V := ⟨_, rfl⟩
 have hb2 : Below V1.heap.size V1 V2 := by rw [<- hV2]; exact (Below.refl _ _).drew
 rw [hV2]
 have hown2 := zh Hown1.out hb2
 have hc2 := own_vk hown2 Hq9.out
 obtain ⟨hown3, ht3, hfz⟩ := vs_ver hown2 Hq9.out (v.ver + 1)
 obtain ⟨V3, hV3⟩ : ∃ V, V2.setCell ⟨gv, q * 8 + 6, none⟩ (.int .i64 (v.ver + 1)) = V := ⟨_, rfl⟩
 rw [hV3] at hown3 ht3
 have t53 : Turned (fun b => b = gv) w5 V3 := (Ht1.out.trans (Turned.of_below (p := fun b => b = gv) hb2) (fun _ e => e) (fun _ _ e => e)).trans ht3 (fun _ e => e) (fun _ _ e => e)
 obtain ⟨⟨fs0, fs1, fs2, fs3, fsl, fc0, fc1, fc2, fc3⟩, hbx⟩ := BXF.out w5 V3 Hb5.out t53
 obtain ⟨w9, hst, hr9, ht9⟩ := zk hbx rfl f.p f.v f.k f.nx
 have Hr9 := ihq hr9; have Ht9 := ihq ht9; have Hown3 := ihq hown3; have T53 := ihq t53
 simp only at hc2
 clear hr9 ht9 hown3 ht3 t53 hbx hown2 hb2 hV2 es0 es1 es2 es3 esl ec0 ec1 ec2 ec3
 go_wp2
 refine bodyPost_ret (v := .tuple #[.agg #[.slice f.p.A f.p.n f.p.c, .slice f.v.A f.v.n f.v.c, .slice f.k.A f.k.n f.k.c, .int .i64 f.nx], .int .i64 0]) (zj rfl _ _ w2.heap.size 32 #[.slice f.p.A f.p.n f.p.c, .slice f.v.A f.v.n f.v.c, .slice f.k.A f.k.n f.k.c, .int .i64 f.nx] (0, 0) _ (.int .i64 0) rfl rfl Hr9.out Tryz.underlying32 rfl zw) rfl ?_
 have s3 := Hsz.out; have sb := Hbw.out.size; have s5 := Hb5.out.size; have sg := Hgl.out
 have hb5 : Below w.heap.size w w5 := Hbw.out.trans (Hb5.out.mono Hbw.out.size)
 have ho := HO.out
 have neP : ∀ {T : TypeId} {z m : Nat} {v : Value} {xs : List Value}, T ≠ 49 -> w.ownsRow B T z v m xs -> w9.ownsRow B T z v m xs := fun {T z m v xs} hT o => by
  have o4 := zh o hb5
  have o5 := ze T53.out o4 (fun b e hb => zq o HOv.out hT e (by rw [hb]; rfl))
  exact ze Ht9.out o5 (fun b e hb => by have := (o.lt b e).2; omega)
 have ov : w9.ownsRow B 49 8 (.slice f.v.A f.v.n f.v.c) f.v.n (vksV (f.X.set q { v with p := c.p, ver := v.ver + 1 })) := by
  rw [HAv.out]
  have o := ze Ht9.out Hown3.out (fun b e hb => by have e1 : gv = b := Option.some.inj e; omega)
  rw [List.set_set] at o
  exact o
 have hbl : Below w0.heap.size w0 w9 := ((ho.bel.trans (hb5.mono ho.bel.size)).trans (T53.out.below (fun b e => by have := ho.hB; omega) (by have := ho.bel.size; omega))).trans (Ht9.out.below (fun b e => by have := ho.hB; omega) (by have := ho.bel.size; have := T53.out.size; omega))
 have own : xh B w0 w9 { f with X := f.X.set q { v with p := c.p, ver := v.ver + 1 } } :=
  ⟨neP (by decide) ho.p, ov, neP (by decide) ho.k, fun x hx => by
   rcases List.mem_or_eq_of_mem_set hx with hx | rfl
   ·exact ho.vok x hx
   ·exact ho.vok v (List.mem_of_getElem? HX.out), fun x hx => by
   rcases List.mem_or_eq_of_mem_set hx with hx | rfl
   ·exact ho.inp x hx
   ·exact Hcp.out, ho.kok, by show (f.X.set q _).length <= 64; rw [List.length_set]; exact ho.vl, ho.kl, ho.pin, ho.hB, hbl⟩
 exact ⟨{ f with X := f.X.set q { v with p := c.p, ver := v.ver + 1 } }, rfl, by simp only [Rf.dat, List.map_set]; rfl, own.ok,
  ((Turned.of_below (p := RowB f) hb5).trans T53.out (fun _ e => e) (fun b _ e => .inr (.inl (by rw [HAv.out, e]; rfl)))).trans Ht9.out (fun _ e => e) (fun b hl e => absurd e (by omega))⟩
end Go.Proofs.YteebkolccbcehaaGreat
end
