/-
  Joined: HeldU, RfCh8. Conditions: each theorem's own.
-/
import Derived.Test.YteebkolccbcehaaGreatHeldT
import Derived.Test.YteebkolccbcehaaGreatRfCh6
import Derived.Test.YteebkolccbcehaaGreatJP

section
set_option linter.all false
namespace Go.Proofs.YteebkolccbcehaaGreat
open Go
section
variable {P : Program} {ops : Array Oper} {Q : Exit -> Act -> World -> Prop} {md : Region.Mode} {S : World -> Prop} {t : Nat}
def zb (P : Program) (md : Region.Mode) (ops : Array Oper) (Q : Exit -> Act -> World -> Prop) (S : World -> Prop) (t fuel : Nat) (listed : Array Bool) (a : Act) (w : World) (rs : List Nat) : Prop :=
 ∀ i ∈ rs, wpOp P ops Q i (fun a' w' => ((listed.setIfInBounds i true).getD t true = false -> S w') /\ xx P md ops Q S t fuel (listed.setIfInBounds i true) a' w') a w
theorem zb.nil {fuel : Nat} {listed : Array Bool} {a : Act} {w : World} : zb P md ops Q S t fuel listed a w [] := fun _ h => by cases h
theorem zb.cons {fuel : Nat} {listed : Array Bool} {a : Act} {w : World} {i : Nat} {o : Oper} {rs : List Nat} (ho : ops[i]? = some o)
  (h : ∀ K' : Act -> World -> Prop, Shut (∀ a w, ((listed.setIfInBounds i true).getD t true = false -> S w) -> xx P md ops Q S t fuel (listed.setIfInBounds i true) a w -> K' a w) -> if Region.wanted o (yielded ops a.tmps) = true then Oper.wp P o a w K' Q else K' (a.put o.dst undef) w)
  (hs : zb P md ops Q S t fuel listed a w rs) : zb P md ops Q S t fuel listed a w (i :: rs) := fun j hj => by
 rcases List.mem_cons.1 hj with rfl | hj
 ·exact wpOp_step ho (fun K' hK => h K' (fun a w hS hW => hK a w ⟨hS, hW⟩))
 ·exact hs j hj
theorem zf {rs : List Nat} {fuel : Nat} {listed : Array Bool} {a : Act} {w : World} (hr : Region.ready md ops listed = rs) (hne : rs ≠ [])
  (h : zb P md ops Q S t fuel listed a w rs) : xx P md ops Q S t (fuel + 1) listed a w :=
 ⟨fun h0 => absurd (hr.symm.trans h0) hne, fun j hj => h j (by rwa [hr] at hj)⟩
end
end Go.Proofs.YteebkolccbcehaaGreat
end

section
set_option linter.all false
namespace Go.Proofs.YteebkolccbcehaaGreat
open Go.ChangeShapes Go.WideShapes Go.ChangeAt Go.RowKit
attribute [local go_sem ↓] yX y9 yd yv yK
theorem xZ (x : Int) : zo [x] = [.int .i64 x] := rfl
set_option maxRecDepth 100000 in
set_option maxHeartbeats 8000000 in
theorem Rchunk_8yes (f : Rf) (c : Cmd) (q : Nat) (k : Ck) (B : Nat) (w0 w : World) (ho : xh B w0 w f) (hc : yj c) (hx : chIx f.dat.cs c.a = some q) (hk : f.K[q]? = some k) (h8 : c.k = 8) (he : k.ep = c.b) (hh : decide (c.c ∈ k.js) = true) (hep : 0 <= k.ep /\ k.ep <= 35184372088832) (hm6 : k.ms.length <= 1000000) (hj6 : k.js.length <= 1000000) :
  Calls Tryz.prog 55 #[f.val, cmdA c] w (yg f { f.dat with cs := f.dat.cs.set q ⟨k.id, k.vo, k.ep + 1, k.ms ++ [c.c], zl k.js c.c⟩ } 0 w) := by
 have h := ho.ok
 unfold Rf.val cmdA
 obtain ⟨w1, hw1, hb1, hr1⟩ := yb w f
 obtain ⟨w2, hw2, hb2, hr2⟩ := zN w1 c
 obtain ⟨w3, hw3⟩ : ∃ w3, w2.alloc (.cells #[.slice none 0 0, .slice none 0 0, .slice none 0 0, .int .i64 0] 32) = w3 := ⟨_, rfl⟩
 have hb3 : Below w2.heap.size w2 w3 := by rw [<- hw3]; exact zg _ _
 have hr3 : w3.heap[w2.heap.size]? = some (.cells #[.slice none 0 0, .slice none 0 0, .slice none 0 0, .int .i64 0] 32 (0, 0)) := by rw [<- hw3]; exact heap_alloc_new _ _
 have hb12 : Below w.heap.size w w2 := hb1.trans (hb2.mono hb1.size)
 have hbw : Below w.heap.size w w3 := hb12.trans (hb3.mono hb12.size)
 have h1 := za (za hr1 hb2) hb3
 have h2 := za hr2 hb3
 have Hr3 := ihq hr3; have Hbw := ihq hbw; have HW := ihq h
 have Hsz := ihq (show w.heap.size < w1.heap.size /\ w1.heap.size < w2.heap.size /\ w2.heap.size < w3.heap.size from ⟨(Array.getElem?_eq_some_iff.1 hr1).1, (Array.getElem?_eq_some_iff.1 hr2).1, (Array.getElem?_eq_some_iff.1 hr3).1⟩)
 have F := ihq (fun V (hv : Below w3.heap.size w3 V) => (zK.of (za h1 hv) (za h2 hv) : zK w w1 f c V))
 have H3 := ihq (h.below hbw)
 have K1 := ihq (xR f c.a w3 (h.below hbw))
 unfold Rf.val at K1
 obtain ⟨s0, s1, s2, s3, sl, c0, c1, c2, c3⟩ := F.out w3 (Below.refl _ _)
 rw [hx] at K1
 simp only [ixV] at K1
 have hq0 : ¬ (q : Int) < 0 := by omega
 have Hk := ihq hk
 have hq1 : (q : Int) < (f.k.n : Int) := by have := (List.getElem?_eq_some_iff.1 hk).1; have := h.k.len; omega
 have hq2 : (0 : Int) <= (q : Int) := by omega
 have HKok := ihq (fun V (hv : Below w3.heap.size w3 V) => (H3.out.below hv).k.ok k (List.mem_of_getElem? hk))
 obtain ⟨gk, hAk⟩ : ∃ g, f.k.A = some ⟨g, 0, none⟩ := by
  rcases ho.k.2 with ⟨e, e2⟩ | ⟨g, cap, cur, e, _⟩
  ·have := (List.getElem?_eq_some_iff.1 hk).1; have := h.k.len; omega
  ·injection e with e _ _; exact ⟨g, e⟩
 have hok := ho.k
 rw [hAk] at hok
 have HO := ihq hok; have HAk := ihq hAk
 have Hgk := ihq (zD hok (k := gk) rfl)
 have Hgl := ihq (show B <= gk /\ gk < w.heap.size from ⟨(hok.lt gk rfl).1, (hok.lt gk rfl).2⟩)
 have HCk := ihq (fun V (hv : Below w3.heap.size w3 V) => show CkAt V gk (q * 5) k from by
  obtain ⟨g', o', e1, e2⟩ := (H3.out.below hv).k.get hk
  rw [hAk] at e1
  injection e1 with e1
  injection e1 with e3 e4 _
  subst e3; subst e4
  simpa using e2)
 have h7b : (c.k == 7) = false := by rw [h8]; rfl
 have h6b : (c.k == 6) = false := by rw [h8]; rfl
 have h8b : (c.k == 8) = true := by rw [h8]; rfl
 have heb : (k.ep == c.b) = true := by simpa using he
 clear he
 have KJ15 := ihq (fun V (hv : Below w3.heap.size w3 V) => (HKok.out V hv).j.has c.c)
 rw [hh] at KJ15
 have BXF := ihq (fun V V' (hv : Below w3.heap.size w3 V) (ht : Turned (fun b => b = gk) V V') => (⟨zK.of (ht.heap (za h1 hv) (by have := Hgl.out; omega)) (ht.heap (za h2 hv) (by have := Hgl.out; have := Hsz.out; omega)), ht.heap (za Hr3.out hv) (by have := Hgl.out; have := Hsz.out; omega)⟩ : zK w w1 f c V' /\ V'.heap[w2.heap.size]? = some (.cells #[.slice none 0 0, .slice none 0 0, .slice none 0 0, .int .i64 0] 32 (0, 0))))
 have Hqk := ihq (List.getElem?_eq_some_iff.1 hk).1
 have KM := ihq (fun V (hv : Below w3.heap.size w3 V) => (HKok.out V hv).m)
 have KJ := ihq (fun V (hv : Below w3.heap.size w3 V) => Yi k.j k.js c.c V (HKok.out V hv).j hj6)
 have HLn := ihq (show (zo k.ms).length = k.m.n * 1 by rw [zz, (HKok.out w3 (Below.refl _ _)).m.len, Nat.mul_one])
 have HMn := ihq (show k.m.n <= 1000000 by have := (HKok.out w3 (Below.refl _ _)).m.len; omega)
 clear hx hk h8 hh hok hAk hm6 hj6 ho
 clear h hb1 hb2 hb3 hb12 hbw hr1 hr2 hr3 h1 h2
 go_enter Tryz.func55, Tryz.ntmps55
 go_wp2_with (first
  | (go_at_call 90; refine (KJ15.out w5 Hb5.out).mono ?_; rintro e w6 ⟨rfl, e2⟩; have e3 := e2.symm; subst e3; clear e2)
  | (go_at_call 54; refine K1.out.mono ?_; rintro e w4 ⟨rfl, hb4⟩; have Hb4 := ihq hb4; obtain ⟨ds0, ds1, ds2, ds3, dsl, dc0, dc1, dc2, dc3⟩ := F.out w4 hb4; rw [HAk.out] at ds2; have hldk := zC (HCk.out w4 hb4); obtain ⟨wz, w5, hwz, hstk, hb5, hr5⟩ := yq w4 k; have Hb5 := ihq (hb4.trans (hb5.mono hb4.size)); obtain ⟨xs0, xs1, xs2, xs3, xsl, xc0, xc1, xc2, xc3⟩ := F.out w5 Hb5.out; obtain ⟨k0, k1, k2, k3, k4⟩ := CkAt.of_row hr5; have hldx := zC (CkAt.of_row hr5); have Hr5 := ihq hr5; have H45 := ihq (Nat.le_trans hb4.size (Nat.le_refl _)); clear hb4 hb5 hr5))
 have HS5 := ihq (fun V (hv : Below w5.heap.size w5 V) => (⟨zc (za Hr5.out hv) 3, (F.out V (Hb5.out.trans (hv.mono Hb5.out.size))).c3⟩ : V.cell? ⟨w4.heap.size, 3, none⟩ = some (.slice k.m.A k.m.n k.m.c) /\ V.cell? ⟨w1.heap.size, 3, none⟩ = some (.int .i64 c.c)))
 have HSrc := ihq (fun V (hv : Below w5.heap.size w5 V) => (HKok.out V (Hb5.out.trans (hv.mono Hb5.out.size))).m.see.1)
 have HB0 := ihq ((Below.refl w5.heap.size w5).drew)
 refine zU (S := fun V => Below w5.heap.size w5 V) 9 (by kernel_rfl) ?_
 have hHeld := HB0.out
 refine zi (i := 1) (v := ?v1) rfl (by kernel_rfl) (fun _ _ _ h => h) (Or.inl ⟨by rfl, ?hy1⟩) hHeld ?rest1
 case hy1 => (intro w' hS; obtain ⟨t1, t2⟩ := HS5.out w' hS; (try simp only [iq4, iq5, iq6]); go_simp; try with_reducible rfl)
 try simp only [Act.put, iq1, iq2, iq3, iq4, iq5, iq6]
 refine zi (i := 2) (v := ?v2) rfl (by kernel_rfl) (fun _ _ _ h => h) (Or.inl ⟨by rfl, ?hy2⟩) hHeld ?rest2
 case hy2 => (intro w' hS; obtain ⟨t1, t2⟩ := HS5.out w' hS; (try simp only [iq4, iq5, iq6]); go_simp; try with_reducible rfl)
 try simp only [Act.put, iq1, iq2, iq3, iq4, iq5, iq6]
 refine zi (i := 4) (v := ?v3) rfl (by kernel_rfl) (fun _ _ _ h => h) (Or.inl ⟨by rfl, ?hy3⟩) hHeld ?rest3
 case hy3 => (intro w' hS; obtain ⟨t1, t2⟩ := HS5.out w' hS; (try simp only [iq4, iq5, iq6]); go_simp; try with_reducible rfl)
 try simp only [Act.put, iq1, iq2, iq3, iq4, iq5, iq6]
 refine zi (i := 5) (v := ?v4) rfl (by kernel_rfl) (fun _ _ _ h => h) (Or.inl ⟨by rfl, ?hy4⟩) hHeld ?rest4
 case hy4 => (intro w' hS; obtain ⟨t1, t2⟩ := HS5.out w' hS; (try simp only [iq4, iq5, iq6]); go_simp; try with_reducible rfl)
 try simp only [Act.put, iq1, iq2, iq3, iq4, iq5, iq6]
 refine zf (rs := [0, 6]) (by kernel_rfl) (by simp) ?_
 refine zb.cons rfl (fun K hK => ?_) ?_
 ·clear hHeld
  (try simp only [iq4, iq5, iq6])
  obtain ⟨U1, hU1⟩ : ∃ W, World.alloc w5.drew (.cells #[] 3) = W := ⟨_, rfl⟩
  have OA1 := ihq (show World.ownsRow U1 w5.heap.size 3 1 (.slice (some ⟨(World.heap w5.drew).size, 0, none⟩) 0 0) 0 [] from (by rw [<- hU1]; exact yk _ _ HB0.out.size))
  have hbn : Below (World.heap w5.drew).size w5.drew U1 := by rw [<- hU1]; exact zg _ _
  have HB1 := ihq (HB0.out.trans (hbn.mono HB0.out.size))
  go_simp
  try rw [hU1]
  refine hK.out _ _ (fun _ => HB1.out) ?_
  have hHeld := HB1.out
  clear hK K hbn hU1
  try simp only [Act.put, iq1, iq2, iq3, iq4, iq5, iq6]
  refine zf (rs := [3, 6]) (by kernel_rfl) (by simp) ?_
  refine zb.cons rfl (fun K hK => ?_) ?_
  ·clear hHeld
   (try simp only [iq4, iq5, iq6])
   refine zy (by rfl) ?_
   refine zF (.tmp 120) (.tmp 122) _ (by rfl) 3 _ 1 8 Tryz.underlying28 zP (by rfl) (by omega) w5.heap.size (some ⟨(World.heap w5.drew).size, 0, none⟩) 0 0 [] (by rfl) OA1.out k.m.A k.m.n k.m.c (zo k.ms) (by rfl) HLn.out (HSrc.out _ HB1.out) (yf _) (by have := HMn.out; unfold maxLen; omega) (by have := HMn.out; omega) HB1.out.size ?_
   intro MA0 mc0 U2 hown hg hbk
   simp only [Nat.zero_add, List.nil_append] at hown hbk ⊢
   have t : Turned (fun b => (Value.slice (some ⟨(World.heap w5.drew).size, 0, none⟩) 0 0).ownBlock = some b) U1 U2 := Turned.of_grown hg (fun k e => e)
   have OA2 := ihq hown
   have HB2 := ihq (HB1.out.trans (t.below (fun k e => (OA1.out.lt k e).1) HB1.out.size))
   refine hK.out _ _ (fun _ => HB2.out) ?_
   have hHeld := HB2.out
   clear hK K hown hg hbk t
   try simp only [Act.put, iq1, iq2, iq3, iq4, iq5, iq6]
   refine zf (rs := [6]) (by kernel_rfl) (by simp) ?_
   refine zb.cons rfl (fun K hK => ?_) ?_
   ·clear hHeld
    (try simp only [iq4, iq5, iq6])
    obtain ⟨U3, hU3⟩ : ∃ W, World.alloc U2 (.cells #[.int .i64 c.c] 3) = W := ⟨_, rfl⟩
    have OB3 := ihq (show World.ownsRow U3 w5.heap.size 3 1 (.slice (some ⟨(World.heap U2).size, 0, none⟩) 1 1) 1 [.int .i64 c.c] from (by rw [<- hU3]; exact ⟨rfl, .inr ⟨_, 1, _, rfl, HB2.out.size, heap_alloc_new _ _, Nat.le_refl _, by unfold maxLen; omega, rfl, rfl⟩⟩))
    have hbn : Below (World.heap U2).size U2 U3 := by rw [<- hU3]; exact zg _ _
    have HB3 := ihq (HB2.out.trans (hbn.mono HB2.out.size))
    have OA3 := ihq (zh OA2.out hbn)
    go_simp
    try rw [hU3]
    refine hK.out _ _ (fun _ => HB3.out) ?_
    have hHeld := HB3.out
    clear hK K hbn hU3
    try simp only [Act.put, iq1, iq2, iq3, iq4, iq5, iq6]
    refine zn (i := 7) (by kernel_rfl) rfl (fun K hK => ?_)
    clear hHeld
    (try simp only [iq4, iq5, iq6])
    refine zy (by rfl) ?_
    refine zF (.tmp 123) (.tmp 126) _ (by rfl) 3 _ 1 8 Tryz.underlying28 zP (by rfl) (by omega) w5.heap.size MA0 k.m.n mc0 (zo k.ms) (by rfl) OA3.out (some ⟨(World.heap U2).size, 0, none⟩) 1 1 [.int .i64 c.c] (by rfl) (by rfl) (ye OB3.out) (by intro u hu; simp at hu; subst hu; rfl) (by have := HMn.out; unfold maxLen; omega) (by have := HMn.out; omega) HB3.out.size ?_
    intro MA mc w8 hown hg hbk
    have t : Turned (fun b => (Value.slice MA0 k.m.n mc0).ownBlock = some b) U3 w8 := Turned.of_grown hg (fun k e => e)
    have HB8 := ihq (HB3.out.trans (t.below (fun k e => (OA3.out.lt k e).1) HB3.out.size))
    have Hm8 := ihq hown
    refine hK.out _ _ (fun _ => HB8.out) ?_
    have hHeld := HB8.out
    clear hK K hown hg hbk t
    try simp only [Act.put, iq1, iq2, iq3, iq4, iq5, iq6]
    refine zi (i := 8) (v := ?v5) rfl (by kernel_rfl) (fun _ _ _ h => h) (Or.inl ⟨by rfl, ?hy5⟩) hHeld ?rest5
    case hy5 => (intro w' hS; obtain ⟨t1, t2⟩ := HS5.out w' hS; (try simp only [iq4, iq5, iq6]); go_simp; try with_reducible rfl)
    try simp only [Act.put, iq1, iq2, iq3, iq4, iq5, iq6]
    clear hHeld
    obtain ⟨V0, hV0⟩ : ∃ V, w8.setCell ⟨w4.heap.size, 3, none⟩ (.slice MA (k.m.n + 1) mc) = V := ⟨_, rfl⟩
    have hr8 := za Hr5.out HB8.out
    have hrV0 := zG hr8 3 (.slice MA (k.m.n + 1) mc)
    rw [hV0] at hrV0
    have tV0 : Turned (fun b => b = w4.heap.size) w8 V0 := by (rw [<- hV0]; exact (Turned.refl (fun b => b = w4.heap.size) w8).setCell (b := ⟨w4.heap.size, 3, none⟩) (fun _ => rfl) _)
    have Hb8 := ihq (Hb5.out.trans (HB8.out.mono Hb5.out.size))
    have HbV0 := ihq (Hb8.out.trans (tV0.below (fun b e => by have := H45.out; omega) Hb8.out.size))
    have p0 := zc hr8 3
    have p1 := zt hr8 3
    have p2 := zc hrV0 4
    simp at p0 p2
    obtain ⟨us0, us1, us2, us3, usl, uc0, uc1, uc2, uc3⟩ := F.out V0 HbV0.out
    have HrV0 := ihq hrV0
    have TV0 := ihq tV0
    clear hr8 hrV0 tV0
    refine zn (i := 9) (by kernel_rfl) rfl (fun K hK => ?_)
    (try simp only [iq4, iq5, iq6])
    go_simp
    try rw [hV0]
    refine hK.out _ _ (fun h => (by cases h)) ?_
    clear hK K
    try simp only [Act.put, iq1, iq2, iq3, iq4, iq5, iq6]
    refine zu (by kernel_rfl) ?_ _
    go_wp2_with (go_at_call 91; (with_reducible refine (KJ.out V0 HbV0.out).mono ?_); rintro e w9 ⟨JA, jc, rfl, hown9, hb9⟩; have Hb9 := ihq (HbV0.out.trans (hb9.mono HbV0.out.size)); have Hj9 := ihq hown9; have Hb89 := ihq hb9; have hr9 := za HrV0.out hb9; have p3 := zc hr9 4; have p4 := zt hr9 4; obtain ⟨V1, hV1⟩ : ∃ V, w9.setCell ⟨w4.heap.size, 4, none⟩ (.slice JA (zl k.js c.c).length jc) = V := ⟨_, rfl⟩; have hrV1 := zG hr9 4 (.slice JA (zl k.js c.c).length jc); rw [hV1] at hrV1; have p5 := zc hrV1 2; have p6 := zt hrV1 2; obtain ⟨V2, hV2⟩ : ∃ V, V1.setCell ⟨w4.heap.size, 2, none⟩ (.int .i64 (k.ep + 1)) = V := ⟨_, rfl⟩; have hrV2 := zG hrV1 2 (.int .i64 (k.ep + 1)); rw [hV2] at hrV2; have tV2 : Turned (fun b => b = w4.heap.size) w9 V2 := by { rw [<- hV2, <- hV1]; exact ((Turned.refl (fun b => b = w4.heap.size) w9).setCell (b := ⟨w4.heap.size, 4, none⟩) (fun _ => rfl) _).setCell (b := ⟨w4.heap.size, 2, none⟩) (fun _ => rfl) _ }; have HbV2 := ihq (Hb9.out.trans (tV2.below (fun b e => by have := H45.out; omega) Hb9.out.size)); obtain ⟨vs0, vs1, vs2, vs3, vsl, vc0, vc1, vc2, vc3⟩ := F.out V2 HbV2.out; rw [HAk.out] at vs2; have hldV := zC (k := ⟨k.id, k.vo, k.ep + 1, ⟨MA, (k.m.n + 1), mc⟩, ⟨JA, (zl k.js c.c).length, jc⟩, (k.ms ++ [c.c]), zl k.js c.c⟩) (CkAt.of_row hrV2); simp only at hldV; obtain ⟨V3, hst3, hown3, ht3⟩ := ZX (zh (zh HO.out Hbw.out) HbV2.out) (Hqk.out) ⟨k.id, k.vo, k.ep + 1, ⟨MA, (k.m.n + 1), mc⟩, ⟨JA, (zl k.js c.c).length, jc⟩, (k.ms ++ [c.c]), zl k.js c.c⟩; simp only at hst3; have hbx := BXF.out V2 V3 HbV2.out ht3; obtain ⟨es0, es1, es2, es3, esl, ec0, ec1, ec2, ec3⟩ := hbx.1; obtain ⟨w10, hst, hr10, ht10⟩ := zk hbx.2 rfl f.p f.v f.k f.nx; have Hr10 := ihq hr10; have Ht10 := ihq ht10; have Hown3 := ihq hown3; have Ht3 := ihq ht3; have TV2 := ihq tV2; simp at p3 p5; clear hown9 hb9 hr9 hrV1 hrV2 tV2 hown3 ht3 hr10 ht10 hbx)
    refine bodyPost_ret (v := .tuple #[.agg #[.slice f.p.A f.p.n f.p.c, .slice f.v.A f.v.n f.v.c, .slice f.k.A f.k.n f.k.c, .int .i64 f.nx], .int .i64 0]) (zj rfl _ _ w2.heap.size 32 #[.slice f.p.A f.p.n f.p.c, .slice f.v.A f.v.n f.v.c, .slice f.k.A f.k.n f.k.c, .int .i64 f.nx] (0, 0) _ (.int .i64 0) rfl rfl Hr10.out Tryz.underlying32 rfl zw) rfl ?_
    have g5 : w4.heap.size < w5.heap.size := (Array.getElem?_eq_some_iff.1 Hr5.out).1
    have g0 : w4.heap.size < V0.heap.size := (Array.getElem?_eq_some_iff.1 HrV0.out).1
    have s3 := Hsz.out; have s4 := H45.out; have sg := Hgl.out; have sb := Hbw.out.size; have sv := HbV2.out.size; have s5 := Hb5.out.size
    have hbV : Below w.heap.size w V2 := Hbw.out.trans (HbV2.out.mono Hbw.out.size)
    have om : w10.ownsRow w.heap.size 3 1 (.slice MA (k.m.n + 1) mc) (k.m.n + 1) (zo (k.ms ++ [c.c])) := by
     have o0 := Hm8.out
     rw [<- xZ c.c, <- zW] at o0
     have o1 := ze TV0.out o0 (fun b e hb => by have := (o0.lt b e).1; omega)
     have o2 := zh o1 Hb89.out
     have o3 := ze TV2.out o2 (fun b e hb => by have := (o2.lt b e).1; omega)
     have o4 := ze Ht3.out o3 (fun b e hb => by have := (o3.lt b e).1; omega)
     exact zY (ze Ht10.out o4 (fun b e hb => by have := (o4.lt b e).1; omega)) (by omega)
    have oj : w10.ownsRow w.heap.size 3 1 (.slice JA (zl k.js c.c).length jc) (zl k.js c.c).length (zo (zl k.js c.c)) := by
     have s0 := HbV0.out.size
     have o3 := ze TV2.out Hj9.out (fun b e hb => by have := (Hj9.out.lt b e).1; omega)
     have o4 := ze Ht3.out o3 (fun b e hb => by have := (o3.lt b e).1; omega)
     exact zY (ze Ht10.out o4 (fun b e hb => by have := (o4.lt b e).1; omega)) (by omega)
    have ht : Turned (fun b => b = gk \/ w.heap.size <= b) w w10 :=
     ((Turned.of_below (p := fun b => b = gk \/ w.heap.size <= b) hbV).trans Ht3.out (fun _ e => e) (fun b _ e => .inl e)).trans Ht10.out (fun _ e => e) (fun b _ e => .inr (by omega))
    have hrow := ze Ht10.out Hown3.out (fun b e hb => by have e1 : gk = b := Option.some.inj e; omega)
    obtain ⟨cs, hcs⟩ := Hgk.out
    exact ⟨{ f with K := f.K.set q ⟨k.id, k.vo, k.ep + 1, ⟨MA, (k.m.n + 1), mc⟩, ⟨JA, (zl k.js c.c).length, jc⟩, (k.ms ++ [c.c]), zl k.js c.c⟩ }, rfl, by simp only [Rf.dat, List.map_set]; rfl,
     Zh HW.out HAk.out ⟨cs, (0, 0), hcs⟩ ht hrow ⟨zQ.own om, zQ.own oj⟩, ht.mono (fun b hl e => e.elim (fun e => .inr (.inr (by rw [HAk.out, e]; rfl))) (fun e => absurd e (by omega)))⟩
   exact zb.nil
  refine zb.cons rfl (fun K hK => ?_) ?_
  ·clear hHeld
   (try simp only [iq4, iq5, iq6])
   obtain ⟨U2, hU2⟩ : ∃ W, World.alloc U1 (.cells #[.int .i64 c.c] 3) = W := ⟨_, rfl⟩
   have OB2 := ihq (show World.ownsRow U2 w5.heap.size 3 1 (.slice (some ⟨(World.heap U1).size, 0, none⟩) 1 1) 1 [.int .i64 c.c] from (by rw [<- hU2]; exact ⟨rfl, .inr ⟨_, 1, _, rfl, HB1.out.size, heap_alloc_new _ _, Nat.le_refl _, by unfold maxLen; omega, rfl, rfl⟩⟩))
   have hbn : Below (World.heap U1).size U1 U2 := by rw [<- hU2]; exact zg _ _
   have HB2 := ihq (HB1.out.trans (hbn.mono HB1.out.size))
   have OA2 := ihq (zh OA1.out hbn)
   have NE2 := ihq (show (World.heap w5.drew).size ≠ (World.heap U1).size from (by have := (Array.getElem?_eq_some_iff.1 (zD OA1.out (k := (World.heap w5.drew).size) rfl).choose_spec).1; omega))
   go_simp
   try rw [hU2]
   refine hK.out _ _ (fun _ => HB2.out) ?_
   have hHeld := HB2.out
   clear hK K hbn hU2
   try simp only [Act.put, iq1, iq2, iq3, iq4, iq5, iq6]
   refine zf (rs := [3]) (by kernel_rfl) (by simp) ?_
   refine zb.cons rfl (fun K hK => ?_) ?_
   ·clear hHeld
    (try simp only [iq4, iq5, iq6])
    refine zy (by rfl) ?_
    refine zF (.tmp 120) (.tmp 122) _ (by rfl) 3 _ 1 8 Tryz.underlying28 zP (by rfl) (by omega) w5.heap.size (some ⟨(World.heap w5.drew).size, 0, none⟩) 0 0 [] (by rfl) OA2.out k.m.A k.m.n k.m.c (zo k.ms) (by rfl) HLn.out (HSrc.out _ HB2.out) (yf _) (by have := HMn.out; unfold maxLen; omega) (by have := HMn.out; omega) HB2.out.size ?_
    intro MA0 mc0 U3 hown hg hbk
    simp only [Nat.zero_add, List.nil_append] at hown hbk ⊢
    have t : Turned (fun b => (Value.slice (some ⟨(World.heap w5.drew).size, 0, none⟩) 0 0).ownBlock = some b) U2 U3 := Turned.of_grown hg (fun k e => e)
    have OA3 := ihq hown
    have HB3 := ihq (HB2.out.trans (t.below (fun k e => (OA2.out.lt k e).1) HB2.out.size))
    have OB3 := ihq (ze t OB2.out (fun k e e' => NE2.out (Option.some.inj (e'.trans e.symm))))
    have NF3 := ihq (show ∀ b, (Value.slice MA0 k.m.n mc0).ownBlock = some b -> b ≠ (World.heap U1).size from fun b hk e => by rcases hbk b hk with h | h; (exact NE2.out ((Option.some.inj h).trans e)); (have := (Array.getElem?_eq_some_iff.1 (zD OB2.out (k := (World.heap U1).size) rfl).choose_spec).1; omega))
    refine hK.out _ _ (fun _ => HB3.out) ?_
    have hHeld := HB3.out
    clear hK K hown hg hbk t
    try simp only [Act.put, iq1, iq2, iq3, iq4, iq5, iq6]
    refine zn (i := 7) (by kernel_rfl) rfl (fun K hK => ?_)
    clear hHeld
    (try simp only [iq4, iq5, iq6])
    refine zy (by rfl) ?_
    refine zF (.tmp 123) (.tmp 126) _ (by rfl) 3 _ 1 8 Tryz.underlying28 zP (by rfl) (by omega) w5.heap.size MA0 k.m.n mc0 (zo k.ms) (by rfl) OA3.out (some ⟨(World.heap U1).size, 0, none⟩) 1 1 [.int .i64 c.c] (by rfl) (by rfl) (ye OB3.out) (by intro u hu; simp at hu; subst hu; rfl) (by have := HMn.out; unfold maxLen; omega) (by have := HMn.out; omega) HB3.out.size ?_
    intro MA mc w8 hown hg hbk
    have t : Turned (fun b => (Value.slice MA0 k.m.n mc0).ownBlock = some b) U3 w8 := Turned.of_grown hg (fun k e => e)
    have HB8 := ihq (HB3.out.trans (t.below (fun k e => (OA3.out.lt k e).1) HB3.out.size))
    have Hm8 := ihq hown
    refine hK.out _ _ (fun _ => HB8.out) ?_
    have hHeld := HB8.out
    clear hK K hown hg hbk t
    try simp only [Act.put, iq1, iq2, iq3, iq4, iq5, iq6]
    refine zi (i := 8) (v := ?v6) rfl (by kernel_rfl) (fun _ _ _ h => h) (Or.inl ⟨by rfl, ?hy6⟩) hHeld ?rest6
    case hy6 => (intro w' hS; obtain ⟨t1, t2⟩ := HS5.out w' hS; (try simp only [iq4, iq5, iq6]); go_simp; try with_reducible rfl)
    try simp only [Act.put, iq1, iq2, iq3, iq4, iq5, iq6]
    clear hHeld
    obtain ⟨V0, hV0⟩ : ∃ V, w8.setCell ⟨w4.heap.size, 3, none⟩ (.slice MA (k.m.n + 1) mc) = V := ⟨_, rfl⟩
    have hr8 := za Hr5.out HB8.out
    have hrV0 := zG hr8 3 (.slice MA (k.m.n + 1) mc)
    rw [hV0] at hrV0
    have tV0 : Turned (fun b => b = w4.heap.size) w8 V0 := by (rw [<- hV0]; exact (Turned.refl (fun b => b = w4.heap.size) w8).setCell (b := ⟨w4.heap.size, 3, none⟩) (fun _ => rfl) _)
    have Hb8 := ihq (Hb5.out.trans (HB8.out.mono Hb5.out.size))
    have HbV0 := ihq (Hb8.out.trans (tV0.below (fun b e => by have := H45.out; omega) Hb8.out.size))
    have p0 := zc hr8 3
    have p1 := zt hr8 3
    have p2 := zc hrV0 4
    simp at p0 p2
    obtain ⟨us0, us1, us2, us3, usl, uc0, uc1, uc2, uc3⟩ := F.out V0 HbV0.out
    have HrV0 := ihq hrV0
    have TV0 := ihq tV0
    clear hr8 hrV0 tV0
    refine zn (i := 9) (by kernel_rfl) rfl (fun K hK => ?_)
    (try simp only [iq4, iq5, iq6])
    go_simp
    try rw [hV0]
    refine hK.out _ _ (fun h => (by cases h)) ?_
    clear hK K
    try simp only [Act.put, iq1, iq2, iq3, iq4, iq5, iq6]
    refine zu (by kernel_rfl) ?_ _
    go_wp2_with (go_at_call 91; (with_reducible refine (KJ.out V0 HbV0.out).mono ?_); rintro e w9 ⟨JA, jc, rfl, hown9, hb9⟩; have Hb9 := ihq (HbV0.out.trans (hb9.mono HbV0.out.size)); have Hj9 := ihq hown9; have Hb89 := ihq hb9; have hr9 := za HrV0.out hb9; have p3 := zc hr9 4; have p4 := zt hr9 4; obtain ⟨V1, hV1⟩ : ∃ V, w9.setCell ⟨w4.heap.size, 4, none⟩ (.slice JA (zl k.js c.c).length jc) = V := ⟨_, rfl⟩; have hrV1 := zG hr9 4 (.slice JA (zl k.js c.c).length jc); rw [hV1] at hrV1; have p5 := zc hrV1 2; have p6 := zt hrV1 2; obtain ⟨V2, hV2⟩ : ∃ V, V1.setCell ⟨w4.heap.size, 2, none⟩ (.int .i64 (k.ep + 1)) = V := ⟨_, rfl⟩; have hrV2 := zG hrV1 2 (.int .i64 (k.ep + 1)); rw [hV2] at hrV2; have tV2 : Turned (fun b => b = w4.heap.size) w9 V2 := by { rw [<- hV2, <- hV1]; exact ((Turned.refl (fun b => b = w4.heap.size) w9).setCell (b := ⟨w4.heap.size, 4, none⟩) (fun _ => rfl) _).setCell (b := ⟨w4.heap.size, 2, none⟩) (fun _ => rfl) _ }; have HbV2 := ihq (Hb9.out.trans (tV2.below (fun b e => by have := H45.out; omega) Hb9.out.size)); obtain ⟨vs0, vs1, vs2, vs3, vsl, vc0, vc1, vc2, vc3⟩ := F.out V2 HbV2.out; rw [HAk.out] at vs2; have hldV := zC (k := ⟨k.id, k.vo, k.ep + 1, ⟨MA, (k.m.n + 1), mc⟩, ⟨JA, (zl k.js c.c).length, jc⟩, (k.ms ++ [c.c]), zl k.js c.c⟩) (CkAt.of_row hrV2); simp only at hldV; obtain ⟨V3, hst3, hown3, ht3⟩ := ZX (zh (zh HO.out Hbw.out) HbV2.out) (Hqk.out) ⟨k.id, k.vo, k.ep + 1, ⟨MA, (k.m.n + 1), mc⟩, ⟨JA, (zl k.js c.c).length, jc⟩, (k.ms ++ [c.c]), zl k.js c.c⟩; simp only at hst3; have hbx := BXF.out V2 V3 HbV2.out ht3; obtain ⟨es0, es1, es2, es3, esl, ec0, ec1, ec2, ec3⟩ := hbx.1; obtain ⟨w10, hst, hr10, ht10⟩ := zk hbx.2 rfl f.p f.v f.k f.nx; have Hr10 := ihq hr10; have Ht10 := ihq ht10; have Hown3 := ihq hown3; have Ht3 := ihq ht3; have TV2 := ihq tV2; simp at p3 p5; clear hown9 hb9 hr9 hrV1 hrV2 tV2 hown3 ht3 hr10 ht10 hbx)
    refine bodyPost_ret (v := .tuple #[.agg #[.slice f.p.A f.p.n f.p.c, .slice f.v.A f.v.n f.v.c, .slice f.k.A f.k.n f.k.c, .int .i64 f.nx], .int .i64 0]) (zj rfl _ _ w2.heap.size 32 #[.slice f.p.A f.p.n f.p.c, .slice f.v.A f.v.n f.v.c, .slice f.k.A f.k.n f.k.c, .int .i64 f.nx] (0, 0) _ (.int .i64 0) rfl rfl Hr10.out Tryz.underlying32 rfl zw) rfl ?_
    have g5 : w4.heap.size < w5.heap.size := (Array.getElem?_eq_some_iff.1 Hr5.out).1
    have g0 : w4.heap.size < V0.heap.size := (Array.getElem?_eq_some_iff.1 HrV0.out).1
    have s3 := Hsz.out; have s4 := H45.out; have sg := Hgl.out; have sb := Hbw.out.size; have sv := HbV2.out.size; have s5 := Hb5.out.size
    have hbV : Below w.heap.size w V2 := Hbw.out.trans (HbV2.out.mono Hbw.out.size)
    have om : w10.ownsRow w.heap.size 3 1 (.slice MA (k.m.n + 1) mc) (k.m.n + 1) (zo (k.ms ++ [c.c])) := by
     have o0 := Hm8.out
     rw [<- xZ c.c, <- zW] at o0
     have o1 := ze TV0.out o0 (fun b e hb => by have := (o0.lt b e).1; omega)
     have o2 := zh o1 Hb89.out
     have o3 := ze TV2.out o2 (fun b e hb => by have := (o2.lt b e).1; omega)
     have o4 := ze Ht3.out o3 (fun b e hb => by have := (o3.lt b e).1; omega)
     exact zY (ze Ht10.out o4 (fun b e hb => by have := (o4.lt b e).1; omega)) (by omega)
    have oj : w10.ownsRow w.heap.size 3 1 (.slice JA (zl k.js c.c).length jc) (zl k.js c.c).length (zo (zl k.js c.c)) := by
     have s0 := HbV0.out.size
     have o3 := ze TV2.out Hj9.out (fun b e hb => by have := (Hj9.out.lt b e).1; omega)
     have o4 := ze Ht3.out o3 (fun b e hb => by have := (o3.lt b e).1; omega)
     exact zY (ze Ht10.out o4 (fun b e hb => by have := (o4.lt b e).1; omega)) (by omega)
    have ht : Turned (fun b => b = gk \/ w.heap.size <= b) w w10 :=
     ((Turned.of_below (p := fun b => b = gk \/ w.heap.size <= b) hbV).trans Ht3.out (fun _ e => e) (fun b _ e => .inl e)).trans Ht10.out (fun _ e => e) (fun b _ e => .inr (by omega))
    have hrow := ze Ht10.out Hown3.out (fun b e hb => by have e1 : gk = b := Option.some.inj e; omega)
    obtain ⟨cs, hcs⟩ := Hgk.out
    exact ⟨{ f with K := f.K.set q ⟨k.id, k.vo, k.ep + 1, ⟨MA, (k.m.n + 1), mc⟩, ⟨JA, (zl k.js c.c).length, jc⟩, (k.ms ++ [c.c]), zl k.js c.c⟩ }, rfl, by simp only [Rf.dat, List.map_set]; rfl,
     Zh HW.out HAk.out ⟨cs, (0, 0), hcs⟩ ht hrow ⟨zQ.own om, zQ.own oj⟩, ht.mono (fun b hl e => e.elim (fun e => .inr (.inr (by rw [HAk.out, e]; rfl))) (fun e => absurd e (by omega)))⟩
   exact zb.nil
  exact zb.nil
 refine zb.cons rfl (fun K hK => ?_) ?_
 ·clear hHeld
  (try simp only [iq4, iq5, iq6])
  obtain ⟨U1, hU1⟩ : ∃ W, World.alloc w5.drew (.cells #[.int .i64 c.c] 3) = W := ⟨_, rfl⟩
  have OB1 := ihq (show World.ownsRow U1 w5.heap.size 3 1 (.slice (some ⟨(World.heap w5.drew).size, 0, none⟩) 1 1) 1 [.int .i64 c.c] from (by rw [<- hU1]; exact ⟨rfl, .inr ⟨_, 1, _, rfl, HB0.out.size, heap_alloc_new _ _, Nat.le_refl _, by unfold maxLen; omega, rfl, rfl⟩⟩))
  have hbn : Below (World.heap w5.drew).size w5.drew U1 := by rw [<- hU1]; exact zg _ _
  have HB1 := ihq (HB0.out.trans (hbn.mono HB0.out.size))
  go_simp
  try rw [hU1]
  refine hK.out _ _ (fun _ => HB1.out) ?_
  have hHeld := HB1.out
  clear hK K hbn hU1
  try simp only [Act.put, iq1, iq2, iq3, iq4, iq5, iq6]
  refine zf (rs := [0]) (by kernel_rfl) (by simp) ?_
  refine zb.cons rfl (fun K hK => ?_) ?_
  ·clear hHeld
   (try simp only [iq4, iq5, iq6])
   obtain ⟨U2, hU2⟩ : ∃ W, World.alloc U1 (.cells #[] 3) = W := ⟨_, rfl⟩
   have OA2 := ihq (show World.ownsRow U2 w5.heap.size 3 1 (.slice (some ⟨(World.heap U1).size, 0, none⟩) 0 0) 0 [] from (by rw [<- hU2]; exact yk _ _ HB1.out.size))
   have hbn : Below (World.heap U1).size U1 U2 := by rw [<- hU2]; exact zg _ _
   have HB2 := ihq (HB1.out.trans (hbn.mono HB1.out.size))
   have OB2 := ihq (zh OB1.out hbn)
   have NE2 := ihq (show (World.heap U1).size ≠ (World.heap w5.drew).size from (by have := (Array.getElem?_eq_some_iff.1 (zD OB1.out (k := (World.heap w5.drew).size) rfl).choose_spec).1; omega))
   go_simp
   try rw [hU2]
   refine hK.out _ _ (fun _ => HB2.out) ?_
   have hHeld := HB2.out
   clear hK K hbn hU2
   try simp only [Act.put, iq1, iq2, iq3, iq4, iq5, iq6]
   refine zf (rs := [3]) (by kernel_rfl) (by simp) ?_
   refine zb.cons rfl (fun K hK => ?_) ?_
   ·clear hHeld
    (try simp only [iq4, iq5, iq6])
    refine zy (by rfl) ?_
    refine zF (.tmp 120) (.tmp 122) _ (by rfl) 3 _ 1 8 Tryz.underlying28 zP (by rfl) (by omega) w5.heap.size (some ⟨(World.heap U1).size, 0, none⟩) 0 0 [] (by rfl) OA2.out k.m.A k.m.n k.m.c (zo k.ms) (by rfl) HLn.out (HSrc.out _ HB2.out) (yf _) (by have := HMn.out; unfold maxLen; omega) (by have := HMn.out; omega) HB2.out.size ?_
    intro MA0 mc0 U3 hown hg hbk
    simp only [Nat.zero_add, List.nil_append] at hown hbk ⊢
    have t : Turned (fun b => (Value.slice (some ⟨(World.heap U1).size, 0, none⟩) 0 0).ownBlock = some b) U2 U3 := Turned.of_grown hg (fun k e => e)
    have OA3 := ihq hown
    have HB3 := ihq (HB2.out.trans (t.below (fun k e => (OA2.out.lt k e).1) HB2.out.size))
    have OB3 := ihq (ze t OB2.out (fun k e e' => NE2.out (Option.some.inj (e'.trans e.symm))))
    have NF3 := ihq (show ∀ b, (Value.slice MA0 k.m.n mc0).ownBlock = some b -> b ≠ (World.heap w5.drew).size from fun b hk e => by rcases hbk b hk with h | h; (exact NE2.out ((Option.some.inj h).trans e)); (have := (Array.getElem?_eq_some_iff.1 (zD OB2.out (k := (World.heap w5.drew).size) rfl).choose_spec).1; omega))
    refine hK.out _ _ (fun _ => HB3.out) ?_
    have hHeld := HB3.out
    clear hK K hown hg hbk t
    try simp only [Act.put, iq1, iq2, iq3, iq4, iq5, iq6]
    refine zn (i := 7) (by kernel_rfl) rfl (fun K hK => ?_)
    clear hHeld
    (try simp only [iq4, iq5, iq6])
    refine zy (by rfl) ?_
    refine zF (.tmp 123) (.tmp 126) _ (by rfl) 3 _ 1 8 Tryz.underlying28 zP (by rfl) (by omega) w5.heap.size MA0 k.m.n mc0 (zo k.ms) (by rfl) OA3.out (some ⟨(World.heap w5.drew).size, 0, none⟩) 1 1 [.int .i64 c.c] (by rfl) (by rfl) (ye OB3.out) (by intro u hu; simp at hu; subst hu; rfl) (by have := HMn.out; unfold maxLen; omega) (by have := HMn.out; omega) HB3.out.size ?_
    intro MA mc w8 hown hg hbk
    have t : Turned (fun b => (Value.slice MA0 k.m.n mc0).ownBlock = some b) U3 w8 := Turned.of_grown hg (fun k e => e)
    have HB8 := ihq (HB3.out.trans (t.below (fun k e => (OA3.out.lt k e).1) HB3.out.size))
    have Hm8 := ihq hown
    refine hK.out _ _ (fun _ => HB8.out) ?_
    have hHeld := HB8.out
    clear hK K hown hg hbk t
    try simp only [Act.put, iq1, iq2, iq3, iq4, iq5, iq6]
    refine zi (i := 8) (v := ?v7) rfl (by kernel_rfl) (fun _ _ _ h => h) (Or.inl ⟨by rfl, ?hy7⟩) hHeld ?rest7
    case hy7 => (intro w' hS; obtain ⟨t1, t2⟩ := HS5.out w' hS; (try simp only [iq4, iq5, iq6]); go_simp; try with_reducible rfl)
    try simp only [Act.put, iq1, iq2, iq3, iq4, iq5, iq6]
    clear hHeld
    obtain ⟨V0, hV0⟩ : ∃ V, w8.setCell ⟨w4.heap.size, 3, none⟩ (.slice MA (k.m.n + 1) mc) = V := ⟨_, rfl⟩
    have hr8 := za Hr5.out HB8.out
    have hrV0 := zG hr8 3 (.slice MA (k.m.n + 1) mc)
    rw [hV0] at hrV0
    have tV0 : Turned (fun b => b = w4.heap.size) w8 V0 := by (rw [<- hV0]; exact (Turned.refl (fun b => b = w4.heap.size) w8).setCell (b := ⟨w4.heap.size, 3, none⟩) (fun _ => rfl) _)
    have Hb8 := ihq (Hb5.out.trans (HB8.out.mono Hb5.out.size))
    have HbV0 := ihq (Hb8.out.trans (tV0.below (fun b e => by have := H45.out; omega) Hb8.out.size))
    have p0 := zc hr8 3
    have p1 := zt hr8 3
    have p2 := zc hrV0 4
    simp at p0 p2
    obtain ⟨us0, us1, us2, us3, usl, uc0, uc1, uc2, uc3⟩ := F.out V0 HbV0.out
    have HrV0 := ihq hrV0
    have TV0 := ihq tV0
    clear hr8 hrV0 tV0
    refine zn (i := 9) (by kernel_rfl) rfl (fun K hK => ?_)
    (try simp only [iq4, iq5, iq6])
    go_simp
    try rw [hV0]
    refine hK.out _ _ (fun h => (by cases h)) ?_
    clear hK K
    try simp only [Act.put, iq1, iq2, iq3, iq4, iq5, iq6]
    refine zu (by kernel_rfl) ?_ _
    go_wp2_with (go_at_call 91; (with_reducible refine (KJ.out V0 HbV0.out).mono ?_); rintro e w9 ⟨JA, jc, rfl, hown9, hb9⟩; have Hb9 := ihq (HbV0.out.trans (hb9.mono HbV0.out.size)); have Hj9 := ihq hown9; have Hb89 := ihq hb9; have hr9 := za HrV0.out hb9; have p3 := zc hr9 4; have p4 := zt hr9 4; obtain ⟨V1, hV1⟩ : ∃ V, w9.setCell ⟨w4.heap.size, 4, none⟩ (.slice JA (zl k.js c.c).length jc) = V := ⟨_, rfl⟩; have hrV1 := zG hr9 4 (.slice JA (zl k.js c.c).length jc); rw [hV1] at hrV1; have p5 := zc hrV1 2; have p6 := zt hrV1 2; obtain ⟨V2, hV2⟩ : ∃ V, V1.setCell ⟨w4.heap.size, 2, none⟩ (.int .i64 (k.ep + 1)) = V := ⟨_, rfl⟩; have hrV2 := zG hrV1 2 (.int .i64 (k.ep + 1)); rw [hV2] at hrV2; have tV2 : Turned (fun b => b = w4.heap.size) w9 V2 := by { rw [<- hV2, <- hV1]; exact ((Turned.refl (fun b => b = w4.heap.size) w9).setCell (b := ⟨w4.heap.size, 4, none⟩) (fun _ => rfl) _).setCell (b := ⟨w4.heap.size, 2, none⟩) (fun _ => rfl) _ }; have HbV2 := ihq (Hb9.out.trans (tV2.below (fun b e => by have := H45.out; omega) Hb9.out.size)); obtain ⟨vs0, vs1, vs2, vs3, vsl, vc0, vc1, vc2, vc3⟩ := F.out V2 HbV2.out; rw [HAk.out] at vs2; have hldV := zC (k := ⟨k.id, k.vo, k.ep + 1, ⟨MA, (k.m.n + 1), mc⟩, ⟨JA, (zl k.js c.c).length, jc⟩, (k.ms ++ [c.c]), zl k.js c.c⟩) (CkAt.of_row hrV2); simp only at hldV; obtain ⟨V3, hst3, hown3, ht3⟩ := ZX (zh (zh HO.out Hbw.out) HbV2.out) (Hqk.out) ⟨k.id, k.vo, k.ep + 1, ⟨MA, (k.m.n + 1), mc⟩, ⟨JA, (zl k.js c.c).length, jc⟩, (k.ms ++ [c.c]), zl k.js c.c⟩; simp only at hst3; have hbx := BXF.out V2 V3 HbV2.out ht3; obtain ⟨es0, es1, es2, es3, esl, ec0, ec1, ec2, ec3⟩ := hbx.1; obtain ⟨w10, hst, hr10, ht10⟩ := zk hbx.2 rfl f.p f.v f.k f.nx; have Hr10 := ihq hr10; have Ht10 := ihq ht10; have Hown3 := ihq hown3; have Ht3 := ihq ht3; have TV2 := ihq tV2; simp at p3 p5; clear hown9 hb9 hr9 hrV1 hrV2 tV2 hown3 ht3 hr10 ht10 hbx)
    refine bodyPost_ret (v := .tuple #[.agg #[.slice f.p.A f.p.n f.p.c, .slice f.v.A f.v.n f.v.c, .slice f.k.A f.k.n f.k.c, .int .i64 f.nx], .int .i64 0]) (zj rfl _ _ w2.heap.size 32 #[.slice f.p.A f.p.n f.p.c, .slice f.v.A f.v.n f.v.c, .slice f.k.A f.k.n f.k.c, .int .i64 f.nx] (0, 0) _ (.int .i64 0) rfl rfl Hr10.out Tryz.underlying32 rfl zw) rfl ?_
    have g5 : w4.heap.size < w5.heap.size := (Array.getElem?_eq_some_iff.1 Hr5.out).1
    have g0 : w4.heap.size < V0.heap.size := (Array.getElem?_eq_some_iff.1 HrV0.out).1
    have s3 := Hsz.out; have s4 := H45.out; have sg := Hgl.out; have sb := Hbw.out.size; have sv := HbV2.out.size; have s5 := Hb5.out.size
    have hbV : Below w.heap.size w V2 := Hbw.out.trans (HbV2.out.mono Hbw.out.size)
    have om : w10.ownsRow w.heap.size 3 1 (.slice MA (k.m.n + 1) mc) (k.m.n + 1) (zo (k.ms ++ [c.c])) := by
     have o0 := Hm8.out
     rw [<- xZ c.c, <- zW] at o0
     have o1 := ze TV0.out o0 (fun b e hb => by have := (o0.lt b e).1; omega)
     have o2 := zh o1 Hb89.out
     have o3 := ze TV2.out o2 (fun b e hb => by have := (o2.lt b e).1; omega)
     have o4 := ze Ht3.out o3 (fun b e hb => by have := (o3.lt b e).1; omega)
     exact zY (ze Ht10.out o4 (fun b e hb => by have := (o4.lt b e).1; omega)) (by omega)
    have oj : w10.ownsRow w.heap.size 3 1 (.slice JA (zl k.js c.c).length jc) (zl k.js c.c).length (zo (zl k.js c.c)) := by
     have s0 := HbV0.out.size
     have o3 := ze TV2.out Hj9.out (fun b e hb => by have := (Hj9.out.lt b e).1; omega)
     have o4 := ze Ht3.out o3 (fun b e hb => by have := (o3.lt b e).1; omega)
     exact zY (ze Ht10.out o4 (fun b e hb => by have := (o4.lt b e).1; omega)) (by omega)
    have ht : Turned (fun b => b = gk \/ w.heap.size <= b) w w10 :=
     ((Turned.of_below (p := fun b => b = gk \/ w.heap.size <= b) hbV).trans Ht3.out (fun _ e => e) (fun b _ e => .inl e)).trans Ht10.out (fun _ e => e) (fun b _ e => .inr (by omega))
    have hrow := ze Ht10.out Hown3.out (fun b e hb => by have e1 : gk = b := Option.some.inj e; omega)
    obtain ⟨cs, hcs⟩ := Hgk.out
    exact ⟨{ f with K := f.K.set q ⟨k.id, k.vo, k.ep + 1, ⟨MA, (k.m.n + 1), mc⟩, ⟨JA, (zl k.js c.c).length, jc⟩, (k.ms ++ [c.c]), zl k.js c.c⟩ }, rfl, by simp only [Rf.dat, List.map_set]; rfl,
     Zh HW.out HAk.out ⟨cs, (0, 0), hcs⟩ ht hrow ⟨zQ.own om, zQ.own oj⟩, ht.mono (fun b hl e => e.elim (fun e => .inr (.inr (by rw [HAk.out, e]; rfl))) (fun e => absurd e (by omega)))⟩
   exact zb.nil
  exact zb.nil
 exact zb.nil
end Go.Proofs.YteebkolccbcehaaGreat
end
