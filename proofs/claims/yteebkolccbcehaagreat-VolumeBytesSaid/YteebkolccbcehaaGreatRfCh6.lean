/-
  Contract of dotterelref18's chunk where it drops a server. Conditions: a state whose rows are its own, a command of numbers that an int holds.
-/
import Derived.Test.YteebkolccbcehaaGreatRfCh2
set_option linter.all false
namespace Go.Proofs.YteebkolccbcehaaGreat
open Go.ChangeShapes Go.WideShapes Go.ChangeAt Go.RowKit
theorem Zh {B gk q : Nat} {w W : World} {f : Rf} {kk : Ck} (h : RfOk w f) (hA : f.k.A = some ⟨gk, 0, none⟩) (hg : ∃ cs fr, w.heap[gk]? = some (.cells cs 82 fr))
  (ht : Turned (fun b => b = gk \/ w.heap.size <= b) w W) (hrow : W.ownsRow B 82 5 (.slice (some ⟨gk, 0, none⟩) f.k.n f.k.c) f.k.n (cksV (f.K.set q kk))) (hk : CkOk W kk) :
  RfOk W { f with K := f.K.set q kk } := by
 obtain ⟨cs, fr, hg⟩ := hg
 have no : ∀ {T : TypeId}, T ≠ 82 -> NoT w T (fun b => b = gk \/ w.heap.size <= b) := fun {T} hT b cs' fr' hb e => by
  rcases hb with rfl | hb
  ·rw [hg] at e; injection e with e; injection e with _ e; exact hT e.symm
  ·rw [Array.getElem?_eq_none hb] at e; cases e
 have hkt : KsT W ⟨some ⟨gk, 0, none⟩, f.k.n, f.k.c⟩ (f.K.set q kk) := KsT.own hrow fun x hx => by
  rcases List.mem_or_eq_of_mem_set hx with hx | rfl
  ·exact (h.k.ok x hx).turned ht (no (by decide))
  ·exact hk
 exact ⟨h.p.turned ht (no (by decide)), h.v.turned ht (no (by decide)) (no (by decide)), ⟨hkt.len, hkt.cap, hkt.max, by show yP W _ f.k.A _; rw [hA]; exact hkt.see, hkt.ok⟩, h.vl, by show (f.K.set q kk).length <= 10000; rw [List.length_set]; exact h.kl, h.pin⟩
attribute [local irreducible] wpQuiet
attribute [local go_sem ↓] yX y9 yd yv yK
set_option maxRecDepth 100000 in
set_option maxHeartbeats 2000000 in
theorem Rchunk_6many (f : Rf) (c : Cmd) (q : Nat) (k : Ck) (B : Nat) (w0 w : World) (ho : xh B w0 w f) (hc : yj c) (hx : chIx f.dat.cs c.a = some q) (hk : f.K[q]? = some k) (h6 : c.k = 6) (he : k.ep = c.b) (hh : hasK c.c k.dat = true) (hep : 0 <= k.ep /\ k.ep <= 35184372088832) (hm6 : k.ms.length <= 1000000) (hj6 : k.js.length <= 1000000) (hms : k.ms.length ≠ 1) :
  Calls Tryz.prog 55 #[f.val, cmdA c] w (yg f { f.dat with cs := f.dat.cs.set q ⟨k.id, k.vo, k.ep + 1, zl k.ms c.c, zl k.js c.c⟩ } 0 w) := by
 have h := ho.ok
 unfold Rf.val cmdA
 obtain ⟨w1, hw1, hb1, hr1⟩ := yb w f
 obtain ⟨w2, hw2, hb2, hr2⟩ := zN w1 c
 obtain ⟨w3, hw3⟩ : ∃ w3, w2.alloc (.cells #[.slice none 0 0, .slice none 0 0, .slice none 0 0, .int .i64 0] 32) = w3 := ⟨_, rfl⟩
 have hb3 : Below w2.heap.size w2 w3 := by rw [<- hw3]; exact zg _ _
 have hr3 : w3.heap[w2.heap.size]? = some (.cells #[.slice none 0 0, .slice none 0 0, .slice none 0 0, .int .i64 0] 32 (0, 0)) := by rw [<- hw3]; exact heap_alloc_new _ _
 have hb12 : Below w.heap.size w w2 := hb1.trans (hb2.mono hb1.size)
 have hbw : Below w.heap.size w w3 := hb12.trans (hb3.mono hb12.size)
 have h1 := za (za hr1 hb2) hb3
 have h2 := za hr2 hb3
 have Hr3 := ihq hr3; have Hbw := ihq hbw; have HW := ihq h
 have Hsz := ihq (show w.heap.size < w1.heap.size /\ w1.heap.size < w2.heap.size /\ w2.heap.size < w3.heap.size from ⟨(Array.getElem?_eq_some_iff.1 hr1).1, (Array.getElem?_eq_some_iff.1 hr2).1, (Array.getElem?_eq_some_iff.1 hr3).1⟩)
 have F := ihq (fun V (hv : Below w3.heap.size w3 V) => (zK.of (za h1 hv) (za h2 hv) : zK w w1 f c V))
 have H3 := ihq (h.below hbw)
 have K1 := ihq (xR f c.a w3 (h.below hbw))
 unfold Rf.val at K1
 obtain ⟨s0, s1, s2, s3, sl, c0, c1, c2, c3⟩ := F.out w3 (Below.refl _ _)
 rw [hx] at K1
 simp only [ixV] at K1
 have hq0 : ¬ (q : Int) < 0 := by omega
 have Hk := ihq hk
 have hq1 : (q : Int) < (f.k.n : Int) := by have := (List.getElem?_eq_some_iff.1 hk).1; have := h.k.len; omega
 have hq2 : (0 : Int) <= (q : Int) := by omega
 have HKok := ihq (fun V (hv : Below w3.heap.size w3 V) => (H3.out.below hv).k.ok k (List.mem_of_getElem? hk))
 obtain ⟨gk, hAk⟩ : ∃ g, f.k.A = some ⟨g, 0, none⟩ := by
  rcases ho.k.2 with ⟨e, e2⟩ | ⟨g, cap, cur, e, _⟩
  ·have := (List.getElem?_eq_some_iff.1 hk).1; have := h.k.len; omega
  ·injection e with e _ _; exact ⟨g, e⟩
 have hok := ho.k
 rw [hAk] at hok
 have HO := ihq hok; have HAk := ihq hAk
 have Hgk := ihq (zD hok (k := gk) rfl)
 have Hgl := ihq (show B <= gk /\ gk < w.heap.size from ⟨(hok.lt gk rfl).1, (hok.lt gk rfl).2⟩)
 have HCk := ihq (fun V (hv : Below w3.heap.size w3 V) => show CkAt V gk (q * 5) k from by
  obtain ⟨g', o', e1, e2⟩ := (H3.out.below hv).k.get hk
  rw [hAk] at e1
  injection e1 with e1
  injection e1 with e3 e4 _
  subst e3; subst e4
  simpa using e2)
 have h7b : (c.k == 7) = false := by rw [h6]; rfl
 have h6b : (c.k == 6) = true := by rw [h6]; rfl
 have heb : (k.ep == c.b) = true := by simpa using he
 clear he
 have KH := ihq (fun V (hv : Below w3.heap.size w3 V) => RHas k c.c V (HKok.out V hv))
 unfold ckA at KH
 rw [hh] at KH
 have BXF := ihq (fun V V' (hv : Below w3.heap.size w3 V) (ht : Turned (fun b => b = gk) V V') => (⟨zK.of (ht.heap (za h1 hv) (by have := Hgl.out; omega)) (ht.heap (za h2 hv) (by have := Hgl.out; have := Hsz.out; omega)), ht.heap (za Hr3.out hv) (by have := Hgl.out; have := Hsz.out; omega)⟩ : zK w w1 f c V' /\ V'.heap[w2.heap.size]? = some (.cells #[.slice none 0 0, .slice none 0 0, .slice none 0 0, .int .i64 0] 32 (0, 0))))
 have Hqk := ihq (List.getElem?_eq_some_iff.1 hk).1
 have KM := ihq (fun V (hv : Below w3.heap.size w3 V) => Yi k.m k.ms c.c V (HKok.out V hv).m hm6)
 have KJ := ihq (fun V (hv : Below w3.heap.size w3 V) => Yi k.j k.js c.c V (HKok.out V hv).j hj6)
 have hl1 : ((k.m.n : Int) == 1) = false := by have := (HKok.out w3 (Below.refl _ _)).m.len; simp; omega
 clear hx hk h6 hh hok hAk hm6 hj6 ho hms
 clear h hb1 hb2 hb3 hb12 hbw hr1 hr2 hr3 h1 h2
 go_enter Tryz.func55, Tryz.ntmps55
 go_wp2_with (first
  | (go_at_call 73; refine (KH.out w5 Hb5.out).mono ?_; rintro e w6 ⟨rfl, hb6⟩; have Hb6 := ihq (Hb5.out.trans (hb6.mono Hb5.out.size)); have Hr6 := ihq (za Hr5.out hb6); have q1 : ∀ p : zO w6, p.v.cell? ⟨w4.heap.size, 3, none⟩ = some (.slice k.m.A k.m.n k.m.c) := fun p => (zc (za Hr6.out p.h) 3); clear hb6)
  | (go_at_call 54; refine K1.out.mono ?_; rintro e w4 ⟨rfl, hb4⟩; have Hb4 := ihq hb4; obtain ⟨ds0, ds1, ds2, ds3, dsl, dc0, dc1, dc2, dc3⟩ := F.out w4 hb4; rw [HAk.out] at ds2; have hldk := zC (HCk.out w4 hb4); obtain ⟨wz, w5, hwz, hstk, hb5, hr5⟩ := yq w4 k; have Hb5 := ihq (hb4.trans (hb5.mono hb4.size)); obtain ⟨xs0, xs1, xs2, xs3, xsl, xc0, xc1, xc2, xc3⟩ := F.out w5 Hb5.out; obtain ⟨k0, k1, k2, k3, k4⟩ := CkAt.of_row hr5; have hldx := zC (CkAt.of_row hr5); have Hr5 := ihq hr5; have H45 := ihq (Nat.le_trans hb4.size (Nat.le_refl _)); clear hb4 hb5 hr5))
 refine zB (by kernel_rfl) (by kernel_rfl) ?_
 repeat (quiet_step (fail))
 refine wpQuiet_nil ?_
 rintro w8 ⟨⟨w7, hb7⟩, e⟩
 have e2 : w7 = w8 := e.symm
 subst e2
 clear e
 have Hb7 := ihq (Hb6.out.trans (hb7.mono Hb6.out.size))
 have Hr7 := ihq (za Hr6.out hb7)
 clear hb7
 obtain ⟨zs0, zs1, zs2, zs3, zsl, zc0, zc1, zc2, zc3⟩ := F.out w7 Hb7.out
 have z3 := zc Hr7.out 3
 simp at z3
 go_wp2_with (first
  | (go_at_call 91; (with_reducible refine (KJ.out V0 HbV0.out).mono ?_); rintro e w9 ⟨JA, jc, rfl, hown9, hb9⟩; have Hb9 := ihq (HbV0.out.trans (hb9.mono HbV0.out.size)); have Hj9 := ihq hown9; have Hb89 := ihq hb9; have hr9 := za HrV0.out hb9; have p3 := zc hr9 4; have p4 := zt hr9 4; obtain ⟨V1, hV1⟩ : ∃ V, w9.setCell ⟨w4.heap.size, 4, none⟩ (.slice JA (zl k.js c.c).length jc) = V := ⟨_, rfl⟩; have hrV1 := zG hr9 4 (.slice JA (zl k.js c.c).length jc); rw [hV1] at hrV1; have p5 := zc hrV1 2; have p6 := zt hrV1 2; obtain ⟨V2, hV2⟩ : ∃ V, V1.setCell ⟨w4.heap.size, 2, none⟩ (.int .i64 (k.ep + 1)) = V := ⟨_, rfl⟩; have hrV2 := zG hrV1 2 (.int .i64 (k.ep + 1)); rw [hV2] at hrV2; have tV2 : Turned (fun b => b = w4.heap.size) w9 V2 := by { rw [<- hV2, <- hV1]; exact ((Turned.refl (fun b => b = w4.heap.size) w9).setCell (b := ⟨w4.heap.size, 4, none⟩) (fun _ => rfl) _).setCell (b := ⟨w4.heap.size, 2, none⟩) (fun _ => rfl) _ }; have HbV2 := ihq (Hb9.out.trans (tV2.below (fun b e => by have := H45.out; omega) Hb9.out.size)); obtain ⟨vs0, vs1, vs2, vs3, vsl, vc0, vc1, vc2, vc3⟩ := F.out V2 HbV2.out; rw [HAk.out] at vs2; have hldV := zC (k := ⟨k.id, k.vo, k.ep + 1, ⟨MA, (zl k.ms c.c).length, mc⟩, ⟨JA, (zl k.js c.c).length, jc⟩, zl k.ms c.c, zl k.js c.c⟩) (CkAt.of_row hrV2); simp only at hldV; obtain ⟨V3, hst3, hown3, ht3⟩ := ZX (zh (zh HO.out Hbw.out) HbV2.out) (Hqk.out) ⟨k.id, k.vo, k.ep + 1, ⟨MA, (zl k.ms c.c).length, mc⟩, ⟨JA, (zl k.js c.c).length, jc⟩, zl k.ms c.c, zl k.js c.c⟩; simp only at hst3; have hbx := BXF.out V2 V3 HbV2.out ht3; obtain ⟨es0, es1, es2, es3, esl, ec0, ec1, ec2, ec3⟩ := hbx.1; obtain ⟨w10, hst, hr10, ht10⟩ := zk hbx.2 rfl f.p f.v f.k f.nx; have Hr10 := ihq hr10; have Ht10 := ihq ht10; have Hown3 := ihq hown3; have Ht3 := ihq ht3; have TV2 := ihq tV2; simp at p3 p5; clear hown9 hb9 hr9 hrV1 hrV2 tV2 hown3 ht3 hr10 ht10 hbx)
  | (go_at_call 91; (with_reducible refine (KM.out w7 Hb7.out).mono ?_); rintro e w8 ⟨MA, mc, rfl, hown8, hb8⟩; have Hb8 := ihq (Hb7.out.trans (hb8.mono Hb7.out.size)); have Hm8 := ihq hown8; have hr8 := za Hr7.out hb8; have p0 := zc hr8 3; have p1 := zt hr8 3; obtain ⟨V0, hV0⟩ : ∃ V, w8.setCell ⟨w4.heap.size, 3, none⟩ (.slice MA (zl k.ms c.c).length mc) = V := ⟨_, rfl⟩; have hrV0 := zG hr8 3 (.slice MA (zl k.ms c.c).length mc); rw [hV0] at hrV0; have tV0 : Turned (fun b => b = w4.heap.size) w8 V0 := by { rw [<- hV0]; exact (Turned.refl (fun b => b = w4.heap.size) w8).setCell (b := ⟨w4.heap.size, 3, none⟩) (fun _ => rfl) _ }; have HbV0 := ihq (Hb8.out.trans (tV0.below (fun b e => by have := H45.out; omega) Hb8.out.size)); have p2 := zc hrV0 4; simp at p0 p2; obtain ⟨us0, us1, us2, us3, usl, uc0, uc1, uc2, uc3⟩ := F.out V0 HbV0.out; have HrV0 := ihq hrV0; have TV0 := ihq tV0; clear hown8 hb8 hr8 hrV0 tV0))
 refine bodyPost_ret (v := .tuple #[.agg #[.slice f.p.A f.p.n f.p.c, .slice f.v.A f.v.n f.v.c, .slice f.k.A f.k.n f.k.c, .int .i64 f.nx], .int .i64 0]) (zj rfl _ _ w2.heap.size 32 #[.slice f.p.A f.p.n f.p.c, .slice f.v.A f.v.n f.v.c, .slice f.k.A f.k.n f.k.c, .int .i64 f.nx] (0, 0) _ (.int .i64 0) rfl rfl Hr10.out Tryz.underlying32 rfl zw) rfl ?_
 have g7 : w4.heap.size < w7.heap.size := (Array.getElem?_eq_some_iff.1 Hr7.out).1
 have g0 : w4.heap.size < V0.heap.size := (Array.getElem?_eq_some_iff.1 HrV0.out).1
 have s3 := Hsz.out; have s4 := H45.out; have sg := Hgl.out; have sb := Hbw.out.size; have sv := HbV2.out.size; have s7 := Hb7.out.size
 have hbV : Below w.heap.size w V2 := Hbw.out.trans (HbV2.out.mono Hbw.out.size)
 have om : w10.ownsRow w.heap.size 3 1 (.slice MA (zl k.ms c.c).length mc) (zl k.ms c.c).length (zo (zl k.ms c.c)) := by
  have o1 := ze TV0.out Hm8.out (fun b e hb => by have := (Hm8.out.lt b e).1; omega)
  have o2 := zh o1 Hb89.out
  have o3 := ze TV2.out o2 (fun b e hb => by have := (o2.lt b e).1; omega)
  have o4 := ze Ht3.out o3 (fun b e hb => by have := (o3.lt b e).1; omega)
  exact zY (ze Ht10.out o4 (fun b e hb => by have := (o4.lt b e).1; omega)) (by omega)
 have oj : w10.ownsRow w.heap.size 3 1 (.slice JA (zl k.js c.c).length jc) (zl k.js c.c).length (zo (zl k.js c.c)) := by
  have s0 := HbV0.out.size
  have o3 := ze TV2.out Hj9.out (fun b e hb => by have := (Hj9.out.lt b e).1; omega)
  have o4 := ze Ht3.out o3 (fun b e hb => by have := (o3.lt b e).1; omega)
  exact zY (ze Ht10.out o4 (fun b e hb => by have := (o4.lt b e).1; omega)) (by omega)
 have ht : Turned (fun b => b = gk \/ w.heap.size <= b) w w10 :=
  ((Turned.of_below (p := fun b => b = gk \/ w.heap.size <= b) hbV).trans Ht3.out (fun _ e => e) (fun b _ e => .inl e)).trans Ht10.out (fun _ e => e) (fun b _ e => .inr (by omega))
 have hrow := ze Ht10.out Hown3.out (fun b e hb => by have e1 : gk = b := Option.some.inj e; omega)
 obtain ⟨cs, hcs⟩ := Hgk.out
 exact ⟨{ f with K := f.K.set q ⟨k.id, k.vo, k.ep + 1, ⟨MA, (zl k.ms c.c).length, mc⟩, ⟨JA, (zl k.js c.c).length, jc⟩, zl k.ms c.c, zl k.js c.c⟩ }, rfl, by simp only [Rf.dat, List.map_set]; rfl,
  Zh HW.out HAk.out ⟨cs, (0, 0), hcs⟩ ht hrow ⟨zQ.own om, zQ.own oj⟩, ht.mono (fun b hl e => e.elim (fun e => .inr (.inr (by rw [HAk.out, e]; rfl))) (fun e => absurd e (by omega)))⟩
set_option maxRecDepth 100000 in
set_option maxHeartbeats 2000000 in
theorem Rchunk_6one (f : Rf) (c : Cmd) (q : Nat) (k : Ck) (B : Nat) (w0 w : World) (ho : xh B w0 w f) (hc : yj c) (hx : chIx f.dat.cs c.a = some q) (hk : f.K[q]? = some k) (h6 : c.k = 6) (he : k.ep = c.b) (hh : hasK c.c k.dat = true) (hep : 0 <= k.ep /\ k.ep <= 35184372088832) (hm6 : k.ms.length <= 1000000) (hj6 : k.js.length <= 1000000) (x0 : Int) (hms : k.ms = [x0]) (hx0 : x0 ≠ c.c) :
  Calls Tryz.prog 55 #[f.val, cmdA c] w (yg f { f.dat with cs := f.dat.cs.set q ⟨k.id, k.vo, k.ep + 1, zl k.ms c.c, zl k.js c.c⟩ } 0 w) := by
 have h := ho.ok
 unfold Rf.val cmdA
 obtain ⟨w1, hw1, hb1, hr1⟩ := yb w f
 obtain ⟨w2, hw2, hb2, hr2⟩ := zN w1 c
 obtain ⟨w3, hw3⟩ : ∃ w3, w2.alloc (.cells #[.slice none 0 0, .slice none 0 0, .slice none 0 0, .int .i64 0] 32) = w3 := ⟨_, rfl⟩
 have hb3 : Below w2.heap.size w2 w3 := by rw [<- hw3]; exact zg _ _
 have hr3 : w3.heap[w2.heap.size]? = some (.cells #[.slice none 0 0, .slice none 0 0, .slice none 0 0, .int .i64 0] 32 (0, 0)) := by rw [<- hw3]; exact heap_alloc_new _ _
 have hb12 : Below w.heap.size w w2 := hb1.trans (hb2.mono hb1.size)
 have hbw : Below w.heap.size w w3 := hb12.trans (hb3.mono hb12.size)
 have h1 := za (za hr1 hb2) hb3
 have h2 := za hr2 hb3
 have Hr3 := ihq hr3; have Hbw := ihq hbw; have HW := ihq h
 have Hsz := ihq (show w.heap.size < w1.heap.size /\ w1.heap.size < w2.heap.size /\ w2.heap.size < w3.heap.size from ⟨(Array.getElem?_eq_some_iff.1 hr1).1, (Array.getElem?_eq_some_iff.1 hr2).1, (Array.getElem?_eq_some_iff.1 hr3).1⟩)
 have F := ihq (fun V (hv : Below w3.heap.size w3 V) => (zK.of (za h1 hv) (za h2 hv) : zK w w1 f c V))
 have H3 := ihq (h.below hbw)
 have K1 := ihq (xR f c.a w3 (h.below hbw))
 unfold Rf.val at K1
 obtain ⟨s0, s1, s2, s3, sl, c0, c1, c2, c3⟩ := F.out w3 (Below.refl _ _)
 rw [hx] at K1
 simp only [ixV] at K1
 have hq0 : ¬ (q : Int) < 0 := by omega
 have Hk := ihq hk
 have hq1 : (q : Int) < (f.k.n : Int) := by have := (List.getElem?_eq_some_iff.1 hk).1; have := h.k.len; omega
 have hq2 : (0 : Int) <= (q : Int) := by omega
 have HKok := ihq (fun V (hv : Below w3.heap.size w3 V) => (H3.out.below hv).k.ok k (List.mem_of_getElem? hk))
 obtain ⟨gk, hAk⟩ : ∃ g, f.k.A = some ⟨g, 0, none⟩ := by
  rcases ho.k.2 with ⟨e, e2⟩ | ⟨g, cap, cur, e, _⟩
  ·have := (List.getElem?_eq_some_iff.1 hk).1; have := h.k.len; omega
  ·injection e with e _ _; exact ⟨g, e⟩
 have hok := ho.k
 rw [hAk] at hok
 have HO := ihq hok; have HAk := ihq hAk
 have Hgk := ihq (zD hok (k := gk) rfl)
 have Hgl := ihq (show B <= gk /\ gk < w.heap.size from ⟨(hok.lt gk rfl).1, (hok.lt gk rfl).2⟩)
 have HCk := ihq (fun V (hv : Below w3.heap.size w3 V) => show CkAt V gk (q * 5) k from by
  obtain ⟨g', o', e1, e2⟩ := (H3.out.below hv).k.get hk
  rw [hAk] at e1
  injection e1 with e1
  injection e1 with e3 e4 _
  subst e3; subst e4
  simpa using e2)
 have h7b : (c.k == 7) = false := by rw [h6]; rfl
 have h6b : (c.k == 6) = true := by rw [h6]; rfl
 have heb : (k.ep == c.b) = true := by simpa using he
 clear he
 have KH := ihq (fun V (hv : Below w3.heap.size w3 V) => RHas k c.c V (HKok.out V hv))
 unfold ckA at KH
 rw [hh] at KH
 have BXF := ihq (fun V V' (hv : Below w3.heap.size w3 V) (ht : Turned (fun b => b = gk) V V') => (⟨zK.of (ht.heap (za h1 hv) (by have := Hgl.out; omega)) (ht.heap (za h2 hv) (by have := Hgl.out; have := Hsz.out; omega)), ht.heap (za Hr3.out hv) (by have := Hgl.out; have := Hsz.out; omega)⟩ : zK w w1 f c V' /\ V'.heap[w2.heap.size]? = some (.cells #[.slice none 0 0, .slice none 0 0, .slice none 0 0, .int .i64 0] 32 (0, 0))))
 have Hqk := ihq (List.getElem?_eq_some_iff.1 hk).1
 have KM := ihq (fun V (hv : Below w3.heap.size w3 V) => Yi k.m k.ms c.c V (HKok.out V hv).m hm6)
 have KJ := ihq (fun V (hv : Below w3.heap.size w3 V) => Yi k.j k.js c.c V (HKok.out V hv).j hj6)
 have hl1 : ((k.m.n : Int) == 1) = true := by have := (HKok.out w3 (Below.refl _ _)).m.len; rw [hms] at this; simp at this; simp; omega
 have hl3 : 0 < k.m.n := by simp at hl1; omega
 have hl4 : decide (0 < k.m.n) = true := decide_eq_true hl3
 have hne0 : (x0 == c.c) = false := by simpa using hx0
 have HM0 := ihq (fun V (hv : Below w3.heap.size w3 V) => show ∃ g o, k.m.A = some ⟨g, o, none⟩ /\ V.cell? ⟨g, o, none⟩ = some (.int .i64 x0) from by
  rcases (HKok.out V hv).m.see.1 with e | ⟨g, o, e1, e2⟩
  ·rw [hms] at e; simp [zo] at e
  ·exact ⟨g, o, e1, by simpa using e2 0 (.int .i64 x0) (by rw [hms]; rfl)⟩)
 clear hx hk h6 hh hok hAk hm6 hj6 ho hms hx0
 clear h hb1 hb2 hb3 hb12 hbw hr1 hr2 hr3 h1 h2
 go_enter Tryz.func55, Tryz.ntmps55
 go_wp2_with (first
  | (go_at_call 73; refine (KH.out w5 Hb5.out).mono ?_; rintro e w6 ⟨rfl, hb6⟩; have Hb6 := ihq (Hb5.out.trans (hb6.mono Hb5.out.size)); have Hr6 := ihq (za Hr5.out hb6); have q1 : ∀ p : zO w6, p.v.cell? ⟨w4.heap.size, 3, none⟩ = some (.slice k.m.A k.m.n k.m.c) := fun p => (zc (za Hr6.out p.h) 3); obtain ⟨gm, om, hAm, _⟩ := HM0.out w6 Hb6.out; have q2 : ∀ p : zO w6, p.v.cell? ⟨gm, om, none⟩ = some (.int .i64 x0) := fun p => (by obtain ⟨g', o', e1, e2⟩ := HM0.out p.v (Hb6.out.trans (p.h.mono Hb6.out.size)); rw [hAm] at e1; injection e1 with e1; injection e1 with e3 e4 _; subst e3; subst e4; exact e2); have q3 : ∀ p : zO w6, p.v.cell? ⟨w1.heap.size, 3, none⟩ = some (.int .i64 c.c) := fun p => (F.out p.v (Hb6.out.trans (p.h.mono Hb6.out.size))).c3; simp only [hAm] at q1; clear hAm; clear hb6)
  | (go_at_call 54; refine K1.out.mono ?_; rintro e w4 ⟨rfl, hb4⟩; have Hb4 := ihq hb4; obtain ⟨ds0, ds1, ds2, ds3, dsl, dc0, dc1, dc2, dc3⟩ := F.out w4 hb4; rw [HAk.out] at ds2; have hldk := zC (HCk.out w4 hb4); obtain ⟨wz, w5, hwz, hstk, hb5, hr5⟩ := yq w4 k; have Hb5 := ihq (hb4.trans (hb5.mono hb4.size)); obtain ⟨xs0, xs1, xs2, xs3, xsl, xc0, xc1, xc2, xc3⟩ := F.out w5 Hb5.out; obtain ⟨k0, k1, k2, k3, k4⟩ := CkAt.of_row hr5; have hldx := zC (CkAt.of_row hr5); have Hr5 := ihq hr5; have H45 := ihq (Nat.le_trans hb4.size (Nat.le_refl _)); clear hb4 hb5 hr5))
 refine zB (by kernel_rfl) (by kernel_rfl) ?_
 repeat (quiet_step (fail))
 refine wpQuiet_nil ?_
 rintro w8 ⟨⟨w7, hb7⟩, e⟩
 have e2 : w7 = w8 := e.symm
 subst e2
 clear e
 have Hb7 := ihq (Hb6.out.trans (hb7.mono Hb6.out.size))
 have Hr7 := ihq (za Hr6.out hb7)
 clear hb7
 obtain ⟨zs0, zs1, zs2, zs3, zsl, zc0, zc1, zc2, zc3⟩ := F.out w7 Hb7.out
 have z3 := zc Hr7.out 3
 simp at z3
 go_wp2_with (first
  | (go_at_call 91; (with_reducible refine (KJ.out V0 HbV0.out).mono ?_); rintro e w9 ⟨JA, jc, rfl, hown9, hb9⟩; have Hb9 := ihq (HbV0.out.trans (hb9.mono HbV0.out.size)); have Hj9 := ihq hown9; have Hb89 := ihq hb9; have hr9 := za HrV0.out hb9; have p3 := zc hr9 4; have p4 := zt hr9 4; obtain ⟨V1, hV1⟩ : ∃ V, w9.setCell ⟨w4.heap.size, 4, none⟩ (.slice JA (zl k.js c.c).length jc) = V := ⟨_, rfl⟩; have hrV1 := zG hr9 4 (.slice JA (zl k.js c.c).length jc); rw [hV1] at hrV1; have p5 := zc hrV1 2; have p6 := zt hrV1 2; obtain ⟨V2, hV2⟩ : ∃ V, V1.setCell ⟨w4.heap.size, 2, none⟩ (.int .i64 (k.ep + 1)) = V := ⟨_, rfl⟩; have hrV2 := zG hrV1 2 (.int .i64 (k.ep + 1)); rw [hV2] at hrV2; have tV2 : Turned (fun b => b = w4.heap.size) w9 V2 := by { rw [<- hV2, <- hV1]; exact ((Turned.refl (fun b => b = w4.heap.size) w9).setCell (b := ⟨w4.heap.size, 4, none⟩) (fun _ => rfl) _).setCell (b := ⟨w4.heap.size, 2, none⟩) (fun _ => rfl) _ }; have HbV2 := ihq (Hb9.out.trans (tV2.below (fun b e => by have := H45.out; omega) Hb9.out.size)); obtain ⟨vs0, vs1, vs2, vs3, vsl, vc0, vc1, vc2, vc3⟩ := F.out V2 HbV2.out; rw [HAk.out] at vs2; have hldV := zC (k := ⟨k.id, k.vo, k.ep + 1, ⟨MA, (zl k.ms c.c).length, mc⟩, ⟨JA, (zl k.js c.c).length, jc⟩, zl k.ms c.c, zl k.js c.c⟩) (CkAt.of_row hrV2); simp only at hldV; obtain ⟨V3, hst3, hown3, ht3⟩ := ZX (zh (zh HO.out Hbw.out) HbV2.out) (Hqk.out) ⟨k.id, k.vo, k.ep + 1, ⟨MA, (zl k.ms c.c).length, mc⟩, ⟨JA, (zl k.js c.c).length, jc⟩, zl k.ms c.c, zl k.js c.c⟩; simp only at hst3; have hbx := BXF.out V2 V3 HbV2.out ht3; obtain ⟨es0, es1, es2, es3, esl, ec0, ec1, ec2, ec3⟩ := hbx.1; obtain ⟨w10, hst, hr10, ht10⟩ := zk hbx.2 rfl f.p f.v f.k f.nx; have Hr10 := ihq hr10; have Ht10 := ihq ht10; have Hown3 := ihq hown3; have Ht3 := ihq ht3; have TV2 := ihq tV2; simp at p3 p5; clear hown9 hb9 hr9 hrV1 hrV2 tV2 hown3 ht3 hr10 ht10 hbx)
  | (go_at_call 91; (with_reducible refine (KM.out w7 Hb7.out).mono ?_); rintro e w8 ⟨MA, mc, rfl, hown8, hb8⟩; have Hb8 := ihq (Hb7.out.trans (hb8.mono Hb7.out.size)); have Hm8 := ihq hown8; have hr8 := za Hr7.out hb8; have p0 := zc hr8 3; have p1 := zt hr8 3; obtain ⟨V0, hV0⟩ : ∃ V, w8.setCell ⟨w4.heap.size, 3, none⟩ (.slice MA (zl k.ms c.c).length mc) = V := ⟨_, rfl⟩; have hrV0 := zG hr8 3 (.slice MA (zl k.ms c.c).length mc); rw [hV0] at hrV0; have tV0 : Turned (fun b => b = w4.heap.size) w8 V0 := by { rw [<- hV0]; exact (Turned.refl (fun b => b = w4.heap.size) w8).setCell (b := ⟨w4.heap.size, 3, none⟩) (fun _ => rfl) _ }; have HbV0 := ihq (Hb8.out.trans (tV0.below (fun b e => by have := H45.out; omega) Hb8.out.size)); have p2 := zc hrV0 4; simp at p0 p2; obtain ⟨us0, us1, us2, us3, usl, uc0, uc1, uc2, uc3⟩ := F.out V0 HbV0.out; have HrV0 := ihq hrV0; have TV0 := ihq tV0; clear hown8 hb8 hr8 hrV0 tV0))
 refine bodyPost_ret (v := .tuple #[.agg #[.slice f.p.A f.p.n f.p.c, .slice f.v.A f.v.n f.v.c, .slice f.k.A f.k.n f.k.c, .int .i64 f.nx], .int .i64 0]) (zj rfl _ _ w2.heap.size 32 #[.slice f.p.A f.p.n f.p.c, .slice f.v.A f.v.n f.v.c, .slice f.k.A f.k.n f.k.c, .int .i64 f.nx] (0, 0) _ (.int .i64 0) rfl rfl Hr10.out Tryz.underlying32 rfl zw) rfl ?_
 have g7 : w4.heap.size < w7.heap.size := (Array.getElem?_eq_some_iff.1 Hr7.out).1
 have g0 : w4.heap.size < V0.heap.size := (Array.getElem?_eq_some_iff.1 HrV0.out).1
 have s3 := Hsz.out; have s4 := H45.out; have sg := Hgl.out; have sb := Hbw.out.size; have sv := HbV2.out.size; have s7 := Hb7.out.size
 have hbV : Below w.heap.size w V2 := Hbw.out.trans (HbV2.out.mono Hbw.out.size)
 have om : w10.ownsRow w.heap.size 3 1 (.slice MA (zl k.ms c.c).length mc) (zl k.ms c.c).length (zo (zl k.ms c.c)) := by
  have o1 := ze TV0.out Hm8.out (fun b e hb => by have := (Hm8.out.lt b e).1; omega)
  have o2 := zh o1 Hb89.out
  have o3 := ze TV2.out o2 (fun b e hb => by have := (o2.lt b e).1; omega)
  have o4 := ze Ht3.out o3 (fun b e hb => by have := (o3.lt b e).1; omega)
  exact zY (ze Ht10.out o4 (fun b e hb => by have := (o4.lt b e).1; omega)) (by omega)
 have oj : w10.ownsRow w.heap.size 3 1 (.slice JA (zl k.js c.c).length jc) (zl k.js c.c).length (zo (zl k.js c.c)) := by
  have s0 := HbV0.out.size
  have o3 := ze TV2.out Hj9.out (fun b e hb => by have := (Hj9.out.lt b e).1; omega)
  have o4 := ze Ht3.out o3 (fun b e hb => by have := (o3.lt b e).1; omega)
  exact zY (ze Ht10.out o4 (fun b e hb => by have := (o4.lt b e).1; omega)) (by omega)
 have ht : Turned (fun b => b = gk \/ w.heap.size <= b) w w10 :=
  ((Turned.of_below (p := fun b => b = gk \/ w.heap.size <= b) hbV).trans Ht3.out (fun _ e => e) (fun b _ e => .inl e)).trans Ht10.out (fun _ e => e) (fun b _ e => .inr (by omega))
 have hrow := ze Ht10.out Hown3.out (fun b e hb => by have e1 : gk = b := Option.some.inj e; omega)
 obtain ⟨cs, hcs⟩ := Hgk.out
 exact ⟨{ f with K := f.K.set q ⟨k.id, k.vo, k.ep + 1, ⟨MA, (zl k.ms c.c).length, mc⟩, ⟨JA, (zl k.js c.c).length, jc⟩, zl k.ms c.c, zl k.js c.c⟩ }, rfl, by simp only [Rf.dat, List.map_set]; rfl,
  Zh HW.out HAk.out ⟨cs, (0, 0), hcs⟩ ht hrow ⟨zQ.own om, zQ.own oj⟩, ht.mono (fun b hl e => e.elim (fun e => .inr (.inr (by rw [HAk.out, e]; rfl))) (fun e => absurd e (by omega)))⟩
end Go.Proofs.YteebkolccbcehaaGreat
