/-
  Joined: RfCh7, RfChA. Conditions: each theorem's own.
-/
import Derived.Test.YteebkolccbcehaaGreatJR

section
set_option linter.all false
namespace Go.Proofs.YteebkolccbcehaaGreat
open Go.ChangeShapes Go.WideShapes Go.ChangeAt Go.RowKit
theorem NoT.chunk {w : World} {gk : Nat} {cs : Array Value} {fr : Nat × Nat} {T : TypeId} (hg : w.heap[gk]? = some (.cells cs 82 fr)) (hT : T ≠ 82) : NoT w T (fun b => b = gk \/ w.heap.size <= b) := fun b cs' fr' hb e => by
 rcases hb with rfl | hb
 ·rw [hg] at e; injection e with e; injection e with _ e; exact hT e.symm
 ·rw [Array.getElem?_eq_none hb] at e; cases e
attribute [local go_sem ↓] yX y9 yd yv yK
set_option maxRecDepth 100000 in
set_option maxHeartbeats 8000000 in
theorem Rchunk_7yes (f : Rf) (c : Cmd) (q : Nat) (k : Ck) (B : Nat) (w0 w : World) (ho : xh B w0 w f) (hc : yj c) (hx : chIx f.dat.cs c.a = some q) (hk : f.K[q]? = some k) (n : Nat) (h7 : c.k = 7) (hn : n < 16) (hcn : c.c = (n : Int)) (hpk : f.pk n ≠ 0) (he : k.ep = c.b) (hh : hasK c.c k.dat = false) (hep : 0 <= k.ep /\ k.ep <= 35184372088832) (hfull : k.ms.length + k.js.length < 4) :
  Calls Tryz.prog 55 #[f.val, cmdA c] w (yg f { f.dat with cs := f.dat.cs.set q ⟨k.id, k.vo, k.ep + 1, k.ms, k.js ++ [c.c]⟩ } 0 w) := by
 obtain ⟨ck, ca, cb, cc, cp⟩ := c
 simp only at h7 hcn hx he hh ⊢
 subst h7; subst hcn
 have h := ho.ok
 unfold Rf.val cmdA
 obtain ⟨w1, hw1, hb1, hr1⟩ := yb w f
 obtain ⟨w2, hw2, hb2, hr2⟩ := zN w1 ⟨7, ca, cb, (n : Int), cp⟩
 obtain ⟨w3, hw3⟩ : ∃ w3, w2.alloc (.cells #[.slice none 0 0, .slice none 0 0, .slice none 0 0, .int .i64 0] 32) = w3 := ⟨_, rfl⟩
 have hb3 : Below w2.heap.size w2 w3 := by rw [<- hw3]; exact zg _ _
 have hr3 : w3.heap[w2.heap.size]? = some (.cells #[.slice none 0 0, .slice none 0 0, .slice none 0 0, .int .i64 0] 32 (0, 0)) := by rw [<- hw3]; exact heap_alloc_new _ _
 have hb12 : Below w.heap.size w w2 := hb1.trans (hb2.mono hb1.size)
 have hbw : Below w.heap.size w w3 := hb12.trans (hb3.mono hb12.size)
 have h1 := za (za hr1 hb2) hb3
 have h2 := za hr2 hb3
 have Hr3 := ihq hr3; have Hbw := ihq hbw; have HW := ihq h
 have Hsz := ihq (show w.heap.size < w1.heap.size /\ w1.heap.size < w2.heap.size /\ w2.heap.size < w3.heap.size from ⟨(Array.getElem?_eq_some_iff.1 hr1).1, (Array.getElem?_eq_some_iff.1 hr2).1, (Array.getElem?_eq_some_iff.1 hr3).1⟩)
 have F := ihq (fun V (hv : Below w3.heap.size w3 V) => (zK.of (za h1 hv) (za h2 hv) : zK w w1 f ⟨7, ca, cb, (n : Int), cp⟩ V))
 have H3 := ihq (h.below hbw)
 have K1 := ihq (xR f ca w3 (h.below hbw))
 unfold Rf.val at K1
 obtain ⟨s0, s1, s2, s3, sl, c0, c1, c2, c3⟩ := F.out w3 (Below.refl _ _)
 simp only at s0 s1 s2 s3 sl c0 c1 c2 c3 F hw2
 rw [hx] at K1
 simp only [ixV] at K1
 have hq0 : ¬ (q : Int) < 0 := by omega
 have Hk := ihq hk
 have hq1 : (q : Int) < (f.k.n : Int) := by have := (List.getElem?_eq_some_iff.1 hk).1; have := h.k.len; omega
 have hq2 : (0 : Int) <= (q : Int) := by omega
 have HKok := ihq (fun V (hv : Below w3.heap.size w3 V) => (H3.out.below hv).k.ok k (List.mem_of_getElem? hk))
 obtain ⟨gk, hAk⟩ : ∃ g, f.k.A = some ⟨g, 0, none⟩ := by
  rcases ho.k.2 with ⟨e, e2⟩ | ⟨g, cap, cur, e, _⟩
  ·have := (List.getElem?_eq_some_iff.1 hk).1; have := h.k.len; omega
  ·injection e with e _ _; exact ⟨g, e⟩
 have hok := ho.k
 rw [hAk] at hok
 have HO := ihq hok; have HAk := ihq hAk
 have Hgk := ihq (zD hok (k := gk) rfl)
 have Hgl := ihq (show B <= gk /\ gk < w.heap.size from ⟨(hok.lt gk rfl).1, (hok.lt gk rfl).2⟩)
 have HCk := ihq (fun V (hv : Below w3.heap.size w3 V) => show CkAt V gk (q * 5) k from by
  obtain ⟨g', o', e1, e2⟩ := (H3.out.below hv).k.get hk
  rw [hAk] at e1
  injection e1 with e1
  injection e1 with e3 e4 _
  subst e3; subst e4
  simpa using e2)
 have i0 : (0 : Int) <= (n : Int) := by omega
 have i1 : (n : Int) < (f.p.n : Int) := by have := h.pn; omega
 have i2 : ¬ (n : Int) < 0 := by omega
 have i3 : ¬ (15 : Int) < (n : Int) := by omega
 obtain ⟨gp, op, hA, _⟩ := H3.out.pick hn
 have HP := ihq (fun V (hv : Below w3.heap.size w3 V) => show V.cell? ⟨gp, op + n, none⟩ = some (.int .i64 (f.pk n)) from by
  obtain ⟨g', o', hA', e⟩ := (H3.out.below hv).pick hn
  rw [hA] at hA'
  injection hA' with hA'
  injection hA' with e1 e2 _
  subst e1; subst e2
  exact e)
 have hpz : (f.pk n == 0) = false := by simpa using hpk
 obtain ⟨pv, hpv0⟩ : ∃ pv, f.pk n = pv := ⟨_, rfl⟩
 rw [hpv0] at HP hpz
 have HA := ihq hA
 clear hA hpk hpv0
 have heb : (k.ep == cb) = true := by simpa using he
 clear he
 have KH := ihq (fun V (hv : Below w3.heap.size w3 V) => RHas k (n : Int) V (HKok.out V hv))
 unfold ckA at KH
 rw [hh] at KH
 have BXF := ihq (fun V V' (hv : Below w3.heap.size w3 V) (ht : Turned (fun b => b = gk) V V') => (⟨zK.of (ht.heap (za h1 hv) (by have := Hgl.out; omega)) (ht.heap (za h2 hv) (by have := Hgl.out; have := Hsz.out; omega)), ht.heap (za Hr3.out hv) (by have := Hgl.out; have := Hsz.out; omega)⟩ : zK w w1 f ⟨7, ca, cb, (n : Int), cp⟩ V' /\ V'.heap[w2.heap.size]? = some (.cells #[.slice none 0 0, .slice none 0 0, .slice none 0 0, .int .i64 0] 32 (0, 0))))
 have Hqk := ihq (List.getElem?_eq_some_iff.1 hk).1
 have hf1 : ¬ (4 : Int) <= (k.m.n : Int) + (k.j.n : Int) := by have h1 := (HKok.out w3 (Below.refl _ _)).m.len; have h2 := (HKok.out w3 (Below.refl _ _)).j.len; omega
 have hf2 : (k.m.n : Int) <= 1000000 := by have h1 := (HKok.out w3 (Below.refl _ _)).m.len; omega
 have hf3 : (k.j.n : Int) <= 1000000 := by have h2 := (HKok.out w3 (Below.refl _ _)).j.len; omega
 have hj6 : k.js.length <= 1000000 := by omega
 have HLn := ihq (show (zo k.js).length = k.j.n * 1 by rw [zz, (HKok.out w3 (Below.refl _ _)).j.len, Nat.mul_one])
 have HMn := ihq (show k.j.n <= 1000000 by have := (HKok.out w3 (Below.refl _ _)).j.len; omega)
 clear hx hk hh hok hAk hj6 hfull ho
 clear h hb1 hb2 hb3 hb12 hbw hr1 hr2 hr3 h1 h2
 go_enter Tryz.func55, Tryz.ntmps55
 go_wp2_with (first
  | (go_at_call 73; refine (KH.out w5 Hb5.out).mono ?_; rintro e w6 ⟨rfl, hb6⟩; have Hb6 := ihq (Hb5.out.trans (hb6.mono Hb5.out.size)); have Hr6 := ihq (za Hr5.out hb6); have r3 := zc Hr6.out 3; have r4 := zc Hr6.out 4; simp at r3 r4; clear hb6)
  | (go_at_call 54; refine K1.out.mono ?_; rintro e w4 ⟨rfl, hb4⟩; have Hb4 := ihq hb4; obtain ⟨ds0, ds1, ds2, ds3, dsl, dc0, dc1, dc2, dc3⟩ := F.out w4 hb4; rw [HAk.out] at ds2; rw [HA.out] at ds0; have hpv := HP.out w4 hb4; have hldk := zC (HCk.out w4 hb4); obtain ⟨wz, w5, hwz, hstk, hb5, hr5⟩ := yq w4 k; have Hb5 := ihq (hb4.trans (hb5.mono hb4.size)); obtain ⟨xs0, xs1, xs2, xs3, xsl, xc0, xc1, xc2, xc3⟩ := F.out w5 Hb5.out; obtain ⟨k0, k1, k2, k3, k4⟩ := CkAt.of_row hr5; have hldx := zC (CkAt.of_row hr5); have Hr5 := ihq hr5; have H45 := ihq (Nat.le_trans hb4.size (Nat.le_refl _)); clear hb4 hb5 hr5))
 have HS5 := ihq (fun V (hv : Below w6.heap.size w6 V) => (⟨zc (za Hr6.out hv) 4, (F.out V (Hb6.out.trans (hv.mono Hb6.out.size))).c3⟩ : V.cell? ⟨w4.heap.size, 4, none⟩ = some (.slice k.j.A k.j.n k.j.c) /\ V.cell? ⟨w1.heap.size, 3, none⟩ = some (.int .i64 (n : Int))))
 have HSrc := ihq (fun V (hv : Below w6.heap.size w6 V) => (HKok.out V (Hb6.out.trans (hv.mono Hb6.out.size))).j.see.1)
 have HB0 := ihq ((Below.refl w6.heap.size w6).drew)
 refine zU (S := fun V => Below w6.heap.size w6 V) 9 (by kernel_rfl) ?_
 have hHeld := HB0.out
 refine zi (i := 1) (v := ?v1) rfl (by kernel_rfl) (fun _ _ _ h => h) (Or.inl ⟨by rfl, ?hy1⟩) hHeld ?rest1
 case hy1 => (intro w' hS; obtain ⟨t1, t2⟩ := HS5.out w' hS; (try simp only [iq4, iq5, iq6]); go_simp; try with_reducible rfl)
 try simp only [Act.put, iq1, iq2, iq3, iq4, iq5, iq6]
 refine zi (i := 2) (v := ?v2) rfl (by kernel_rfl) (fun _ _ _ h => h) (Or.inl ⟨by rfl, ?hy2⟩) hHeld ?rest2
 case hy2 => (intro w' hS; obtain ⟨t1, t2⟩ := HS5.out w' hS; (try simp only [iq4, iq5, iq6]); go_simp; try with_reducible rfl)
 try simp only [Act.put, iq1, iq2, iq3, iq4, iq5, iq6]
 refine zi (i := 4) (v := ?v3) rfl (by kernel_rfl) (fun _ _ _ h => h) (Or.inl ⟨by rfl, ?hy3⟩) hHeld ?rest3
 case hy3 => (intro w' hS; obtain ⟨t1, t2⟩ := HS5.out w' hS; (try simp only [iq4, iq5, iq6]); go_simp; try with_reducible rfl)
 try simp only [Act.put, iq1, iq2, iq3, iq4, iq5, iq6]
 refine zi (i := 5) (v := ?v4) rfl (by kernel_rfl) (fun _ _ _ h => h) (Or.inl ⟨by rfl, ?hy4⟩) hHeld ?rest4
 case hy4 => (intro w' hS; obtain ⟨t1, t2⟩ := HS5.out w' hS; (try simp only [iq4, iq5, iq6]); go_simp; try with_reducible rfl)
 try simp only [Act.put, iq1, iq2, iq3, iq4, iq5, iq6]
 refine zf (rs := [0, 6]) (by kernel_rfl) (by simp) ?_
 refine zb.cons rfl (fun K hK => ?_) ?_
 ·clear hHeld
  (try simp only [iq4, iq5, iq6])
  obtain ⟨U1, hU1⟩ : ∃ W, World.alloc w6.drew (.cells #[] 3) = W := ⟨_, rfl⟩
  have OA1 := ihq (show World.ownsRow U1 w6.heap.size 3 1 (.slice (some ⟨(World.heap w6.drew).size, 0, none⟩) 0 0) 0 [] from (by rw [<- hU1]; exact yk _ _ HB0.out.size))
  have hbn : Below (World.heap w6.drew).size w6.drew U1 := by rw [<- hU1]; exact zg _ _
  have HB1 := ihq (HB0.out.trans (hbn.mono HB0.out.size))
  go_simp
  try rw [hU1]
  refine hK.out _ _ (fun _ => HB1.out) ?_
  have hHeld := HB1.out
  clear hK K hbn hU1
  try simp only [Act.put, iq1, iq2, iq3, iq4, iq5, iq6]
  refine zf (rs := [3, 6]) (by kernel_rfl) (by simp) ?_
  refine zb.cons rfl (fun K hK => ?_) ?_
  ·clear hHeld
   (try simp only [iq4, iq5, iq6])
   refine zy (by rfl) ?_
   refine zF (.tmp 102) (.tmp 104) _ (by rfl) 3 _ 1 8 Tryz.underlying28 zP (by rfl) (by omega) w6.heap.size (some ⟨(World.heap w6.drew).size, 0, none⟩) 0 0 [] (by rfl) OA1.out k.j.A k.j.n k.j.c (zo k.js) (by rfl) HLn.out (HSrc.out _ HB1.out) (yf _) (by have := HMn.out; unfold maxLen; omega) (by have := HMn.out; omega) HB1.out.size ?_
   intro MA0 mc0 U2 hown hg hbk
   simp only [Nat.zero_add, List.nil_append] at hown hbk ⊢
   have t : Turned (fun b => (Value.slice (some ⟨(World.heap w6.drew).size, 0, none⟩) 0 0).ownBlock = some b) U1 U2 := Turned.of_grown hg (fun k e => e)
   have OA2 := ihq hown
   have HB2 := ihq (HB1.out.trans (t.below (fun k e => (OA1.out.lt k e).1) HB1.out.size))
   refine hK.out _ _ (fun _ => HB2.out) ?_
   have hHeld := HB2.out
   clear hK K hown hg hbk t
   try simp only [Act.put, iq1, iq2, iq3, iq4, iq5, iq6]
   refine zf (rs := [6]) (by kernel_rfl) (by simp) ?_
   refine zb.cons rfl (fun K hK => ?_) ?_
   ·clear hHeld
    (try simp only [iq4, iq5, iq6])
    obtain ⟨U3, hU3⟩ : ∃ W, World.alloc U2 (.cells #[.int .i64 (n : Int)] 3) = W := ⟨_, rfl⟩
    have OB3 := ihq (show World.ownsRow U3 w6.heap.size 3 1 (.slice (some ⟨(World.heap U2).size, 0, none⟩) 1 1) 1 [.int .i64 (n : Int)] from (by rw [<- hU3]; exact ⟨rfl, .inr ⟨_, 1, _, rfl, HB2.out.size, heap_alloc_new _ _, Nat.le_refl _, by unfold maxLen; omega, rfl, rfl⟩⟩))
    have hbn : Below (World.heap U2).size U2 U3 := by rw [<- hU3]; exact zg _ _
    have HB3 := ihq (HB2.out.trans (hbn.mono HB2.out.size))
    have OA3 := ihq (zh OA2.out hbn)
    go_simp
    try rw [hU3]
    refine hK.out _ _ (fun _ => HB3.out) ?_
    have hHeld := HB3.out
    clear hK K hbn hU3
    try simp only [Act.put, iq1, iq2, iq3, iq4, iq5, iq6]
    refine zn (i := 7) (by kernel_rfl) rfl (fun K hK => ?_)
    clear hHeld
    (try simp only [iq4, iq5, iq6])
    refine zy (by rfl) ?_
    refine zF (.tmp 105) (.tmp 108) _ (by rfl) 3 _ 1 8 Tryz.underlying28 zP (by rfl) (by omega) w6.heap.size MA0 k.j.n mc0 (zo k.js) (by rfl) OA3.out (some ⟨(World.heap U2).size, 0, none⟩) 1 1 [.int .i64 (n : Int)] (by rfl) (by rfl) (ye OB3.out) (by intro u hu; simp at hu; subst hu; rfl) (by have := HMn.out; unfold maxLen; omega) (by have := HMn.out; omega) HB3.out.size ?_
    intro MA mc w8 hown hg hbk
    have t : Turned (fun b => (Value.slice MA0 k.j.n mc0).ownBlock = some b) U3 w8 := Turned.of_grown hg (fun k e => e)
    have HB8 := ihq (HB3.out.trans (t.below (fun k e => (OA3.out.lt k e).1) HB3.out.size))
    have Hm8 := ihq hown
    refine hK.out _ _ (fun _ => HB8.out) ?_
    have hHeld := HB8.out
    clear hK K hown hg hbk t
    try simp only [Act.put, iq1, iq2, iq3, iq4, iq5, iq6]
    refine zi (i := 8) (v := ?v5) rfl (by kernel_rfl) (fun _ _ _ h => h) (Or.inl ⟨by rfl, ?hy5⟩) hHeld ?rest5
    case hy5 => (intro w' hS; obtain ⟨t1, t2⟩ := HS5.out w' hS; (try simp only [iq4, iq5, iq6]); go_simp; try with_reducible rfl)
    try simp only [Act.put, iq1, iq2, iq3, iq4, iq5, iq6]
    clear hHeld
    obtain ⟨V1, hV1⟩ : ∃ V, w8.setCell ⟨w4.heap.size, 4, none⟩ (.slice MA (k.j.n + 1) mc) = V := ⟨_, rfl⟩
    have hr8 := za Hr6.out HB8.out
    have p0 := zc hr8 4
    have p1 := zt hr8 4
    have hrV1 := zG hr8 4 (.slice MA (k.j.n + 1) mc)
    rw [hV1] at hrV1
    have p5 := zc hrV1 2
    have p6 := zt hrV1 2
    obtain ⟨V2, hV2⟩ : ∃ V, V1.setCell ⟨w4.heap.size, 2, none⟩ (.int .i64 (k.ep + 1)) = V := ⟨_, rfl⟩
    have hrV2 := zG hrV1 2 (.int .i64 (k.ep + 1))
    rw [hV2] at hrV2
    have tV2 : Turned (fun b => b = w4.heap.size) w8 V2 := by (rw [<- hV2, <- hV1]; exact ((Turned.refl (fun b => b = w4.heap.size) w8).setCell (b := ⟨w4.heap.size, 4, none⟩) (fun _ => rfl) _).setCell (b := ⟨w4.heap.size, 2, none⟩) (fun _ => rfl) _)
    have Hb8 := ihq (Hb6.out.trans (HB8.out.mono Hb6.out.size))
    have HbV2 := ihq (Hb8.out.trans (tV2.below (fun b e => by have := H45.out; omega) Hb8.out.size))
    obtain ⟨vs0, vs1, vs2, vs3, vsl, vc0, vc1, vc2, vc3⟩ := F.out V2 HbV2.out
    rw [HAk.out] at vs2
    have hldV := zC (k := ⟨k.id, k.vo, k.ep + 1, k.m, ⟨MA, k.j.n + 1, mc⟩, k.ms, k.js ++ [(n : Int)]⟩) (CkAt.of_row hrV2)
    simp only at hldV
    obtain ⟨V3, hst3, hown3, ht3⟩ := ZX (zh (zh HO.out Hbw.out) HbV2.out) (Hqk.out) ⟨k.id, k.vo, k.ep + 1, k.m, ⟨MA, k.j.n + 1, mc⟩, k.ms, k.js ++ [(n : Int)]⟩
    simp only at hst3
    obtain ⟨⟨es0, es1, es2, es3, esl, ec0, ec1, ec2, ec3⟩, hbx⟩ := BXF.out V2 V3 HbV2.out ht3
    obtain ⟨w10, hst, hr10, ht10⟩ := zk hbx rfl f.p f.v f.k f.nx
    have Hr10 := ihq hr10; have Ht10 := ihq ht10; have Hown3 := ihq hown3; have Ht3 := ihq ht3; have TV2 := ihq tV2
    simp at p0 p5
    clear hr8 hrV1 hrV2 tV2 hown3 ht3 hr10 ht10 hbx
    refine zn (i := 9) (by kernel_rfl) rfl (fun K hK => ?_)
    (try simp only [iq4, iq5, iq6])
    go_simp
    try rw [hV1]
    refine hK.out _ _ (fun h => (by cases h)) ?_
    clear hK K
    try simp only [Act.put, iq1, iq2, iq3, iq4, iq5, iq6]
    refine zu (by kernel_rfl) ?_ _
    go_wp2
    refine bodyPost_ret (v := .tuple #[.agg #[.slice f.p.A f.p.n f.p.c, .slice f.v.A f.v.n f.v.c, .slice f.k.A f.k.n f.k.c, .int .i64 f.nx], .int .i64 0]) (zj rfl _ _ w2.heap.size 32 #[.slice f.p.A f.p.n f.p.c, .slice f.v.A f.v.n f.v.c, .slice f.k.A f.k.n f.k.c, .int .i64 f.nx] (0, 0) _ (.int .i64 0) rfl rfl Hr10.out Tryz.underlying32 rfl zw) rfl ?_
    have g5 : w4.heap.size < w6.heap.size := (Array.getElem?_eq_some_iff.1 Hr6.out).1
    have s3 := Hsz.out; have s4 := H45.out; have sg := Hgl.out; have sb := Hbw.out.size; have sv := HbV2.out.size; have s5 := Hb6.out.size
    have hbV : Below w.heap.size w V2 := Hbw.out.trans (HbV2.out.mono Hbw.out.size)
    have oj : w10.ownsRow w.heap.size 3 1 (.slice MA (k.j.n + 1) mc) (k.j.n + 1) (zo (k.js ++ [(n : Int)])) := by
     have o0 := Hm8.out
     rw [<- xZ (n : Int), <- zW] at o0
     have o3 := ze TV2.out o0 (fun b e hb => by have := (o0.lt b e).1; omega)
     have o4 := ze Ht3.out o3 (fun b e hb => by have := (o3.lt b e).1; omega)
     exact zY (ze Ht10.out o4 (fun b e hb => by have := (o4.lt b e).1; omega)) (by omega)
    have ht : Turned (fun b => b = gk \/ w.heap.size <= b) w w10 :=
     ((Turned.of_below (p := fun b => b = gk \/ w.heap.size <= b) hbV).trans Ht3.out (fun _ e => e) (fun b _ e => .inl e)).trans Ht10.out (fun _ e => e) (fun b _ e => .inr (by omega))
    have hrow := ze Ht10.out Hown3.out (fun b e hb => by have e1 : gk = b := Option.some.inj e; omega)
    obtain ⟨cs, hcs⟩ := Hgk.out
    exact ⟨{ f with K := f.K.set q ⟨k.id, k.vo, k.ep + 1, k.m, ⟨MA, k.j.n + 1, mc⟩, k.ms, k.js ++ [(n : Int)]⟩ }, rfl, by simp only [Rf.dat, List.map_set]; rfl,
     Zh HW.out HAk.out ⟨cs, (0, 0), hcs⟩ ht hrow ⟨(HW.out.k.ok k (List.mem_of_getElem? Hk.out)).m.turned ht (NoT.chunk hcs (by decide)), zQ.own oj⟩, ht.mono (fun b hl e => e.elim (fun e => .inr (.inr (by rw [HAk.out, e]; rfl))) (fun e => absurd e (by omega)))⟩
   exact zb.nil
  refine zb.cons rfl (fun K hK => ?_) ?_
  ·clear hHeld
   (try simp only [iq4, iq5, iq6])
   obtain ⟨U2, hU2⟩ : ∃ W, World.alloc U1 (.cells #[.int .i64 (n : Int)] 3) = W := ⟨_, rfl⟩
   have OB2 := ihq (show World.ownsRow U2 w6.heap.size 3 1 (.slice (some ⟨(World.heap U1).size, 0, none⟩) 1 1) 1 [.int .i64 (n : Int)] from (by rw [<- hU2]; exact ⟨rfl, .inr ⟨_, 1, _, rfl, HB1.out.size, heap_alloc_new _ _, Nat.le_refl _, by unfold maxLen; omega, rfl, rfl⟩⟩))
   have hbn : Below (World.heap U1).size U1 U2 := by rw [<- hU2]; exact zg _ _
   have HB2 := ihq (HB1.out.trans (hbn.mono HB1.out.size))
   have OA2 := ihq (zh OA1.out hbn)
   have NE2 := ihq (show (World.heap w6.drew).size ≠ (World.heap U1).size from (by have := (Array.getElem?_eq_some_iff.1 (zD OA1.out (k := (World.heap w6.drew).size) rfl).choose_spec).1; omega))
   go_simp
   try rw [hU2]
   refine hK.out _ _ (fun _ => HB2.out) ?_
   have hHeld := HB2.out
   clear hK K hbn hU2
   try simp only [Act.put, iq1, iq2, iq3, iq4, iq5, iq6]
   refine zf (rs := [3]) (by kernel_rfl) (by simp) ?_
   refine zb.cons rfl (fun K hK => ?_) ?_
   ·clear hHeld
    (try simp only [iq4, iq5, iq6])
    refine zy (by rfl) ?_
    refine zF (.tmp 102) (.tmp 104) _ (by rfl) 3 _ 1 8 Tryz.underlying28 zP (by rfl) (by omega) w6.heap.size (some ⟨(World.heap w6.drew).size, 0, none⟩) 0 0 [] (by rfl) OA2.out k.j.A k.j.n k.j.c (zo k.js) (by rfl) HLn.out (HSrc.out _ HB2.out) (yf _) (by have := HMn.out; unfold maxLen; omega) (by have := HMn.out; omega) HB2.out.size ?_
    intro MA0 mc0 U3 hown hg hbk
    simp only [Nat.zero_add, List.nil_append] at hown hbk ⊢
    have t : Turned (fun b => (Value.slice (some ⟨(World.heap w6.drew).size, 0, none⟩) 0 0).ownBlock = some b) U2 U3 := Turned.of_grown hg (fun k e => e)
    have OA3 := ihq hown
    have HB3 := ihq (HB2.out.trans (t.below (fun k e => (OA2.out.lt k e).1) HB2.out.size))
    have OB3 := ihq (ze t OB2.out (fun k e e' => NE2.out (Option.some.inj (e'.trans e.symm))))
    have NF3 := ihq (show ∀ b, (Value.slice MA0 k.j.n mc0).ownBlock = some b -> b ≠ (World.heap U1).size from fun b hk e => by rcases hbk b hk with h | h; (exact NE2.out ((Option.some.inj h).trans e)); (have := (Array.getElem?_eq_some_iff.1 (zD OB2.out (k := (World.heap U1).size) rfl).choose_spec).1; omega))
    refine hK.out _ _ (fun _ => HB3.out) ?_
    have hHeld := HB3.out
    clear hK K hown hg hbk t
    try simp only [Act.put, iq1, iq2, iq3, iq4, iq5, iq6]
    refine zn (i := 7) (by kernel_rfl) rfl (fun K hK => ?_)
    clear hHeld
    (try simp only [iq4, iq5, iq6])
    refine zy (by rfl) ?_
    refine zF (.tmp 105) (.tmp 108) _ (by rfl) 3 _ 1 8 Tryz.underlying28 zP (by rfl) (by omega) w6.heap.size MA0 k.j.n mc0 (zo k.js) (by rfl) OA3.out (some ⟨(World.heap U1).size, 0, none⟩) 1 1 [.int .i64 (n : Int)] (by rfl) (by rfl) (ye OB3.out) (by intro u hu; simp at hu; subst hu; rfl) (by have := HMn.out; unfold maxLen; omega) (by have := HMn.out; omega) HB3.out.size ?_
    intro MA mc w8 hown hg hbk
    have t : Turned (fun b => (Value.slice MA0 k.j.n mc0).ownBlock = some b) U3 w8 := Turned.of_grown hg (fun k e => e)
    have HB8 := ihq (HB3.out.trans (t.below (fun k e => (OA3.out.lt k e).1) HB3.out.size))
    have Hm8 := ihq hown
    refine hK.out _ _ (fun _ => HB8.out) ?_
    have hHeld := HB8.out
    clear hK K hown hg hbk t
    try simp only [Act.put, iq1, iq2, iq3, iq4, iq5, iq6]
    refine zi (i := 8) (v := ?v6) rfl (by kernel_rfl) (fun _ _ _ h => h) (Or.inl ⟨by rfl, ?hy6⟩) hHeld ?rest6
    case hy6 => (intro w' hS; obtain ⟨t1, t2⟩ := HS5.out w' hS; (try simp only [iq4, iq5, iq6]); go_simp; try with_reducible rfl)
    try simp only [Act.put, iq1, iq2, iq3, iq4, iq5, iq6]
    clear hHeld
    obtain ⟨V1, hV1⟩ : ∃ V, w8.setCell ⟨w4.heap.size, 4, none⟩ (.slice MA (k.j.n + 1) mc) = V := ⟨_, rfl⟩
    have hr8 := za Hr6.out HB8.out
    have p0 := zc hr8 4
    have p1 := zt hr8 4
    have hrV1 := zG hr8 4 (.slice MA (k.j.n + 1) mc)
    rw [hV1] at hrV1
    have p5 := zc hrV1 2
    have p6 := zt hrV1 2
    obtain ⟨V2, hV2⟩ : ∃ V, V1.setCell ⟨w4.heap.size, 2, none⟩ (.int .i64 (k.ep + 1)) = V := ⟨_, rfl⟩
    have hrV2 := zG hrV1 2 (.int .i64 (k.ep + 1))
    rw [hV2] at hrV2
    have tV2 : Turned (fun b => b = w4.heap.size) w8 V2 := by (rw [<- hV2, <- hV1]; exact ((Turned.refl (fun b => b = w4.heap.size) w8).setCell (b := ⟨w4.heap.size, 4, none⟩) (fun _ => rfl) _).setCell (b := ⟨w4.heap.size, 2, none⟩) (fun _ => rfl) _)
    have Hb8 := ihq (Hb6.out.trans (HB8.out.mono Hb6.out.size))
    have HbV2 := ihq (Hb8.out.trans (tV2.below (fun b e => by have := H45.out; omega) Hb8.out.size))
    obtain ⟨vs0, vs1, vs2, vs3, vsl, vc0, vc1, vc2, vc3⟩ := F.out V2 HbV2.out
    rw [HAk.out] at vs2
    have hldV := zC (k := ⟨k.id, k.vo, k.ep + 1, k.m, ⟨MA, k.j.n + 1, mc⟩, k.ms, k.js ++ [(n : Int)]⟩) (CkAt.of_row hrV2)
    simp only at hldV
    obtain ⟨V3, hst3, hown3, ht3⟩ := ZX (zh (zh HO.out Hbw.out) HbV2.out) (Hqk.out) ⟨k.id, k.vo, k.ep + 1, k.m, ⟨MA, k.j.n + 1, mc⟩, k.ms, k.js ++ [(n : Int)]⟩
    simp only at hst3
    obtain ⟨⟨es0, es1, es2, es3, esl, ec0, ec1, ec2, ec3⟩, hbx⟩ := BXF.out V2 V3 HbV2.out ht3
    obtain ⟨w10, hst, hr10, ht10⟩ := zk hbx rfl f.p f.v f.k f.nx
    have Hr10 := ihq hr10; have Ht10 := ihq ht10; have Hown3 := ihq hown3; have Ht3 := ihq ht3; have TV2 := ihq tV2
    simp at p0 p5
    clear hr8 hrV1 hrV2 tV2 hown3 ht3 hr10 ht10 hbx
    refine zn (i := 9) (by kernel_rfl) rfl (fun K hK => ?_)
    (try simp only [iq4, iq5, iq6])
    go_simp
    try rw [hV1]
    refine hK.out _ _ (fun h => (by cases h)) ?_
    clear hK K
    try simp only [Act.put, iq1, iq2, iq3, iq4, iq5, iq6]
    refine zu (by kernel_rfl) ?_ _
    go_wp2
    refine bodyPost_ret (v := .tuple #[.agg #[.slice f.p.A f.p.n f.p.c, .slice f.v.A f.v.n f.v.c, .slice f.k.A f.k.n f.k.c, .int .i64 f.nx], .int .i64 0]) (zj rfl _ _ w2.heap.size 32 #[.slice f.p.A f.p.n f.p.c, .slice f.v.A f.v.n f.v.c, .slice f.k.A f.k.n f.k.c, .int .i64 f.nx] (0, 0) _ (.int .i64 0) rfl rfl Hr10.out Tryz.underlying32 rfl zw) rfl ?_
    have g5 : w4.heap.size < w6.heap.size := (Array.getElem?_eq_some_iff.1 Hr6.out).1
    have s3 := Hsz.out; have s4 := H45.out; have sg := Hgl.out; have sb := Hbw.out.size; have sv := HbV2.out.size; have s5 := Hb6.out.size
    have hbV : Below w.heap.size w V2 := Hbw.out.trans (HbV2.out.mono Hbw.out.size)
    have oj : w10.ownsRow w.heap.size 3 1 (.slice MA (k.j.n + 1) mc) (k.j.n + 1) (zo (k.js ++ [(n : Int)])) := by
     have o0 := Hm8.out
     rw [<- xZ (n : Int), <- zW] at o0
     have o3 := ze TV2.out o0 (fun b e hb => by have := (o0.lt b e).1; omega)
     have o4 := ze Ht3.out o3 (fun b e hb => by have := (o3.lt b e).1; omega)
     exact zY (ze Ht10.out o4 (fun b e hb => by have := (o4.lt b e).1; omega)) (by omega)
    have ht : Turned (fun b => b = gk \/ w.heap.size <= b) w w10 :=
     ((Turned.of_below (p := fun b => b = gk \/ w.heap.size <= b) hbV).trans Ht3.out (fun _ e => e) (fun b _ e => .inl e)).trans Ht10.out (fun _ e => e) (fun b _ e => .inr (by omega))
    have hrow := ze Ht10.out Hown3.out (fun b e hb => by have e1 : gk = b := Option.some.inj e; omega)
    obtain ⟨cs, hcs⟩ := Hgk.out
    exact ⟨{ f with K := f.K.set q ⟨k.id, k.vo, k.ep + 1, k.m, ⟨MA, k.j.n + 1, mc⟩, k.ms, k.js ++ [(n : Int)]⟩ }, rfl, by simp only [Rf.dat, List.map_set]; rfl,
     Zh HW.out HAk.out ⟨cs, (0, 0), hcs⟩ ht hrow ⟨(HW.out.k.ok k (List.mem_of_getElem? Hk.out)).m.turned ht (NoT.chunk hcs (by decide)), zQ.own oj⟩, ht.mono (fun b hl e => e.elim (fun e => .inr (.inr (by rw [HAk.out, e]; rfl))) (fun e => absurd e (by omega)))⟩
   exact zb.nil
  exact zb.nil
 refine zb.cons rfl (fun K hK => ?_) ?_
 ·clear hHeld
  (try simp only [iq4, iq5, iq6])
  obtain ⟨U1, hU1⟩ : ∃ W, World.alloc w6.drew (.cells #[.int .i64 (n : Int)] 3) = W := ⟨_, rfl⟩
  have OB1 := ihq (show World.ownsRow U1 w6.heap.size 3 1 (.slice (some ⟨(World.heap w6.drew).size, 0, none⟩) 1 1) 1 [.int .i64 (n : Int)] from (by rw [<- hU1]; exact ⟨rfl, .inr ⟨_, 1, _, rfl, HB0.out.size, heap_alloc_new _ _, Nat.le_refl _, by unfold maxLen; omega, rfl, rfl⟩⟩))
  have hbn : Below (World.heap w6.drew).size w6.drew U1 := by rw [<- hU1]; exact zg _ _
  have HB1 := ihq (HB0.out.trans (hbn.mono HB0.out.size))
  go_simp
  try rw [hU1]
  refine hK.out _ _ (fun _ => HB1.out) ?_
  have hHeld := HB1.out
  clear hK K hbn hU1
  try simp only [Act.put, iq1, iq2, iq3, iq4, iq5, iq6]
  refine zf (rs := [0]) (by kernel_rfl) (by simp) ?_
  refine zb.cons rfl (fun K hK => ?_) ?_
  ·clear hHeld
   (try simp only [iq4, iq5, iq6])
   obtain ⟨U2, hU2⟩ : ∃ W, World.alloc U1 (.cells #[] 3) = W := ⟨_, rfl⟩
   have OA2 := ihq (show World.ownsRow U2 w6.heap.size 3 1 (.slice (some ⟨(World.heap U1).size, 0, none⟩) 0 0) 0 [] from (by rw [<- hU2]; exact yk _ _ HB1.out.size))
   have hbn : Below (World.heap U1).size U1 U2 := by rw [<- hU2]; exact zg _ _
   have HB2 := ihq (HB1.out.trans (hbn.mono HB1.out.size))
   have OB2 := ihq (zh OB1.out hbn)
   have NE2 := ihq (show (World.heap U1).size ≠ (World.heap w6.drew).size from (by have := (Array.getElem?_eq_some_iff.1 (zD OB1.out (k := (World.heap w6.drew).size) rfl).choose_spec).1; omega))
   go_simp
   try rw [hU2]
   refine hK.out _ _ (fun _ => HB2.out) ?_
   have hHeld := HB2.out
   clear hK K hbn hU2
   try simp only [Act.put, iq1, iq2, iq3, iq4, iq5, iq6]
   refine zf (rs := [3]) (by kernel_rfl) (by simp) ?_
   refine zb.cons rfl (fun K hK => ?_) ?_
   ·clear hHeld
    (try simp only [iq4, iq5, iq6])
    refine zy (by rfl) ?_
    refine zF (.tmp 102) (.tmp 104) _ (by rfl) 3 _ 1 8 Tryz.underlying28 zP (by rfl) (by omega) w6.heap.size (some ⟨(World.heap U1).size, 0, none⟩) 0 0 [] (by rfl) OA2.out k.j.A k.j.n k.j.c (zo k.js) (by rfl) HLn.out (HSrc.out _ HB2.out) (yf _) (by have := HMn.out; unfold maxLen; omega) (by have := HMn.out; omega) HB2.out.size ?_
    intro MA0 mc0 U3 hown hg hbk
    simp only [Nat.zero_add, List.nil_append] at hown hbk ⊢
    have t : Turned (fun b => (Value.slice (some ⟨(World.heap U1).size, 0, none⟩) 0 0).ownBlock = some b) U2 U3 := Turned.of_grown hg (fun k e => e)
    have OA3 := ihq hown
    have HB3 := ihq (HB2.out.trans (t.below (fun k e => (OA2.out.lt k e).1) HB2.out.size))
    have OB3 := ihq (ze t OB2.out (fun k e e' => NE2.out (Option.some.inj (e'.trans e.symm))))
    have NF3 := ihq (show ∀ b, (Value.slice MA0 k.j.n mc0).ownBlock = some b -> b ≠ (World.heap w6.drew).size from fun b hk e => by rcases hbk b hk with h | h; (exact NE2.out ((Option.some.inj h).trans e)); (have := (Array.getElem?_eq_some_iff.1 (zD OB2.out (k := (World.heap w6.drew).size) rfl).choose_spec).1; omega))
    refine hK.out _ _ (fun _ => HB3.out) ?_
    have hHeld := HB3.out
    clear hK K hown hg hbk t
    try simp only [Act.put, iq1, iq2, iq3, iq4, iq5, iq6]
    refine zn (i := 7) (by kernel_rfl) rfl (fun K hK => ?_)
    clear hHeld
    (try simp only [iq4, iq5, iq6])
    refine zy (by rfl) ?_
    refine zF (.tmp 105) (.tmp 108) _ (by rfl) 3 _ 1 8 Tryz.underlying28 zP (by rfl) (by omega) w6.heap.size MA0 k.j.n mc0 (zo k.js) (by rfl) OA3.out (some ⟨(World.heap w6.drew).size, 0, none⟩) 1 1 [.int .i64 (n : Int)] (by rfl) (by rfl) (ye OB3.out) (by intro u hu; simp at hu; subst hu; rfl) (by have := HMn.out; unfold maxLen; omega) (by have := HMn.out; omega) HB3.out.size ?_
    intro MA mc w8 hown hg hbk
    have t : Turned (fun b => (Value.slice MA0 k.j.n mc0).ownBlock = some b) U3 w8 := Turned.of_grown hg (fun k e => e)
    have HB8 := ihq (HB3.out.trans (t.below (fun k e => (OA3.out.lt k e).1) HB3.out.size))
    have Hm8 := ihq hown
    refine hK.out _ _ (fun _ => HB8.out) ?_
    have hHeld := HB8.out
    clear hK K hown hg hbk t
    try simp only [Act.put, iq1, iq2, iq3, iq4, iq5, iq6]
    refine zi (i := 8) (v := ?v7) rfl (by kernel_rfl) (fun _ _ _ h => h) (Or.inl ⟨by rfl, ?hy7⟩) hHeld ?rest7
    case hy7 => (intro w' hS; obtain ⟨t1, t2⟩ := HS5.out w' hS; (try simp only [iq4, iq5, iq6]); go_simp; try with_reducible rfl)
    try simp only [Act.put, iq1, iq2, iq3, iq4, iq5, iq6]
    clear hHeld
    obtain ⟨V1, hV1⟩ : ∃ V, w8.setCell ⟨w4.heap.size, 4, none⟩ (.slice MA (k.j.n + 1) mc) = V := ⟨_, rfl⟩
    have hr8 := za Hr6.out HB8.out
    have p0 := zc hr8 4
    have p1 := zt hr8 4
    have hrV1 := zG hr8 4 (.slice MA (k.j.n + 1) mc)
    rw [hV1] at hrV1
    have p5 := zc hrV1 2
    have p6 := zt hrV1 2
    obtain ⟨V2, hV2⟩ : ∃ V, V1.setCell ⟨w4.heap.size, 2, none⟩ (.int .i64 (k.ep + 1)) = V := ⟨_, rfl⟩
    have hrV2 := zG hrV1 2 (.int .i64 (k.ep + 1))
    rw [hV2] at hrV2
    have tV2 : Turned (fun b => b = w4.heap.size) w8 V2 := by (rw [<- hV2, <- hV1]; exact ((Turned.refl (fun b => b = w4.heap.size) w8).setCell (b := ⟨w4.heap.size, 4, none⟩) (fun _ => rfl) _).setCell (b := ⟨w4.heap.size, 2, none⟩) (fun _ => rfl) _)
    have Hb8 := ihq (Hb6.out.trans (HB8.out.mono Hb6.out.size))
    have HbV2 := ihq (Hb8.out.trans (tV2.below (fun b e => by have := H45.out; omega) Hb8.out.size))
    obtain ⟨vs0, vs1, vs2, vs3, vsl, vc0, vc1, vc2, vc3⟩ := F.out V2 HbV2.out
    rw [HAk.out] at vs2
    have hldV := zC (k := ⟨k.id, k.vo, k.ep + 1, k.m, ⟨MA, k.j.n + 1, mc⟩, k.ms, k.js ++ [(n : Int)]⟩) (CkAt.of_row hrV2)
    simp only at hldV
    obtain ⟨V3, hst3, hown3, ht3⟩ := ZX (zh (zh HO.out Hbw.out) HbV2.out) (Hqk.out) ⟨k.id, k.vo, k.ep + 1, k.m, ⟨MA, k.j.n + 1, mc⟩, k.ms, k.js ++ [(n : Int)]⟩
    simp only at hst3
    obtain ⟨⟨es0, es1, es2, es3, esl, ec0, ec1, ec2, ec3⟩, hbx⟩ := BXF.out V2 V3 HbV2.out ht3
    obtain ⟨w10, hst, hr10, ht10⟩ := zk hbx rfl f.p f.v f.k f.nx
    have Hr10 := ihq hr10; have Ht10 := ihq ht10; have Hown3 := ihq hown3; have Ht3 := ihq ht3; have TV2 := ihq tV2
    simp at p0 p5
    clear hr8 hrV1 hrV2 tV2 hown3 ht3 hr10 ht10 hbx
    refine zn (i := 9) (by kernel_rfl) rfl (fun K hK => ?_)
    (try simp only [iq4, iq5, iq6])
    go_simp
    try rw [hV1]
    refine hK.out _ _ (fun h => (by cases h)) ?_
    clear hK K
    try simp only [Act.put, iq1, iq2, iq3, iq4, iq5, iq6]
    refine zu (by kernel_rfl) ?_ _
    go_wp2
    refine bodyPost_ret (v := .tuple #[.agg #[.slice f.p.A f.p.n f.p.c, .slice f.v.A f.v.n f.v.c, .slice f.k.A f.k.n f.k.c, .int .i64 f.nx], .int .i64 0]) (zj rfl _ _ w2.heap.size 32 #[.slice f.p.A f.p.n f.p.c, .slice f.v.A f.v.n f.v.c, .slice f.k.A f.k.n f.k.c, .int .i64 f.nx] (0, 0) _ (.int .i64 0) rfl rfl Hr10.out Tryz.underlying32 rfl zw) rfl ?_
    have g5 : w4.heap.size < w6.heap.size := (Array.getElem?_eq_some_iff.1 Hr6.out).1
    have s3 := Hsz.out; have s4 := H45.out; have sg := Hgl.out; have sb := Hbw.out.size; have sv := HbV2.out.size; have s5 := Hb6.out.size
    have hbV : Below w.heap.size w V2 := Hbw.out.trans (HbV2.out.mono Hbw.out.size)
    have oj : w10.ownsRow w.heap.size 3 1 (.slice MA (k.j.n + 1) mc) (k.j.n + 1) (zo (k.js ++ [(n : Int)])) := by
     have o0 := Hm8.out
     rw [<- xZ (n : Int), <- zW] at o0
     have o3 := ze TV2.out o0 (fun b e hb => by have := (o0.lt b e).1; omega)
     have o4 := ze Ht3.out o3 (fun b e hb => by have := (o3.lt b e).1; omega)
     exact zY (ze Ht10.out o4 (fun b e hb => by have := (o4.lt b e).1; omega)) (by omega)
    have ht : Turned (fun b => b = gk \/ w.heap.size <= b) w w10 :=
     ((Turned.of_below (p := fun b => b = gk \/ w.heap.size <= b) hbV).trans Ht3.out (fun _ e => e) (fun b _ e => .inl e)).trans Ht10.out (fun _ e => e) (fun b _ e => .inr (by omega))
    have hrow := ze Ht10.out Hown3.out (fun b e hb => by have e1 : gk = b := Option.some.inj e; omega)
    obtain ⟨cs, hcs⟩ := Hgk.out
    exact ⟨{ f with K := f.K.set q ⟨k.id, k.vo, k.ep + 1, k.m, ⟨MA, k.j.n + 1, mc⟩, k.ms, k.js ++ [(n : Int)]⟩ }, rfl, by simp only [Rf.dat, List.map_set]; rfl,
     Zh HW.out HAk.out ⟨cs, (0, 0), hcs⟩ ht hrow ⟨(HW.out.k.ok k (List.mem_of_getElem? Hk.out)).m.turned ht (NoT.chunk hcs (by decide)), zQ.own oj⟩, ht.mono (fun b hl e => e.elim (fun e => .inr (.inr (by rw [HAk.out, e]; rfl))) (fun e => absurd e (by omega)))⟩
   exact zb.nil
  exact zb.nil
 exact zb.nil
end Go.Proofs.YteebkolccbcehaaGreat
end

section
set_option linter.all false
namespace Go.Proofs.YteebkolccbcehaaGreat
open Go.ChangeShapes Go.WideShapes Go.ChangeAt Go.RowKit
structure KFit (r : RS) : Prop where
 ep : ∀ k ∈ r.cs, 0 <= k.ep /\ k.ep <= 35184372088832
 ml : ∀ k ∈ r.cs, k.ms.length <= 1000000
 jl : ∀ k ∈ r.cs, k.js.length <= 1000000
theorem Rchunk_any (f : Rf) (c : Cmd) (B : Nat) (w0 w : World) (ho : xh B w0 w f) (hf : KFit f.dat) (hc : yj c) (hk : c.k = 6 \/ c.k = 7 \/ c.k = 8) :
  Calls Tryz.prog 55 #[f.val, cmdA c] w (yg f (ZJ f.dat c).1 (ZJ f.dat c).2 w) := by
 have h := ho.ok
 unfold ZJ
 cases hx : chIx f.dat.cs c.a with
 | none => exact (Rchunk_none f c w h hx)
 | some q =>
  simp only
  have hq : ∃ k, f.K[q]? = some k := by
   have h1 := List.findIdx?_eq_some_iff_getElem.1 hx
   obtain ⟨h1, _⟩ := h1
   have e : f.dat.cs.length = f.K.length := List.length_map ..
   exact ⟨_, List.getElem?_eq_getElem (by omega)⟩
  obtain ⟨k, hq⟩ := hq
  have hqd : f.dat.cs[q]? = some k.dat := by show (f.K.map Ck.dat)[q]? = _; rw [List.getElem?_map, hq]; rfl
  have hm := List.mem_of_getElem? hqd
  by_cases hs : c.k = 7 /\ (c.c < 0 \/ 15 < c.c \/ f.dat.pk c.c.toNat = 0)
  ·rw [if_pos hs]
   exact (Rchunk_srv f c q w h hc hx hs.1 hs.2)
  ·rw [if_neg hs, hqd]
   simp only
   have hep := hf.ep _ hm
   have hml := hf.ml _ hm
   have hjl := hf.jl _ hm
   have srv : c.k = 7 -> ∃ n : Nat, n < 16 /\ c.c = (n : Int) /\ f.pk n ≠ 0 := fun h7 => by
    have h2 : ¬ (c.c < 0 \/ 15 < c.c \/ f.dat.pk c.c.toNat = 0) := fun e => hs ⟨h7, e⟩
    have h3 : ¬ c.c < 0 /\ ¬ 15 < c.c /\ ¬ f.dat.pk c.c.toNat = 0 := ⟨fun e => h2 (.inl e), fun e => h2 (.inr (.inl e)), fun e => h2 (.inr (.inr e))⟩
    exact ⟨c.c.toNat, by omega, by omega, h3.2.2⟩
   by_cases he : k.ep = c.b
   ·have he' : ¬ k.dat.ep ≠ c.b := fun hn => hn he
    rw [if_neg he']
    unfold xF
    rcases hk with h6 | h7 | h8
    ·rw [if_pos h6]
     cases hh : hasK c.c k.dat with
     | false =>
      rw [if_pos rfl]
      exact (Rchunk_6no f c q k w h hc hx hq h6 he hh)
     | true =>
      rw [if_neg (by simp)]
      by_cases hms : k.ms = [c.c]
      ·rw [if_pos (show k.dat.ms = [c.c] from hms)]
       exact (Rchunk_6sole f c q k w h hc hx hq h6 he hh hms)
      ·rw [if_neg (show ¬ k.dat.ms = [c.c] from hms)]
       by_cases hl : k.ms.length = 1
       ·obtain ⟨x0, hx0⟩ := List.length_eq_one_iff.1 hl
        exact Rchunk_6one f c q k B w0 w ho hc hx hq h6 he hh hep hml hjl x0 hx0 (fun e => hms (by rw [hx0, e]))
       ·exact Rchunk_6many f c q k B w0 w ho hc hx hq h6 he hh hep hml hjl hl
    ·rw [if_neg (by omega), if_pos h7]
     obtain ⟨n, hn, hcn, hpk⟩ := srv h7
     cases hh : hasK c.c k.dat with
     | true =>
      rw [if_pos rfl]
      exact (Rchunk_7has f c q k w h hc hx hq n h7 hn hcn hpk he hh)
     | false =>
      rw [if_neg (by simp)]
      by_cases hfull : 4 <= k.ms.length + k.js.length
      ·rw [if_pos (show 4 <= k.dat.ms.length + k.dat.js.length from hfull)]
       exact (Rchunk_7full f c q k w h hc hx hq n h7 hn hcn hpk he hh hfull hml hjl)
      ·rw [if_neg (show ¬ 4 <= k.dat.ms.length + k.dat.js.length from hfull)]
       exact Rchunk_7yes f c q k B w0 w ho hc hx hq n h7 hn hcn hpk he hh hep (by omega)
    ·rw [if_neg (by omega), if_neg (by omega)]
     by_cases hj : c.c ∈ k.js
     ·rw [if_pos (show c.c ∈ k.dat.js from hj)]
      exact Rchunk_8yes f c q k B w0 w ho hc hx hq h8 he (decide_eq_true hj) hep hml hjl
     ·rw [if_neg (show ¬ c.c ∈ k.dat.js from hj)]
      exact (Rchunk_8no f c q k w h hc hx hq h8 he (decide_eq_false hj))
   ·rw [if_pos (show k.dat.ep ≠ c.b from he)]
    by_cases h7 : c.k = 7
    ·obtain ⟨n, hn, hcn, hpk⟩ := srv h7
     exact (Rchunk_old7 f c q k w h hc hx hq n h7 hn hcn hpk he)
    ·exact (Rchunk_old f c q k w h hc hx hq h7 he)
end Go.Proofs.YteebkolccbcehaaGreat
end
