/-
  Contract of dotterelref18's do: kind 3 where it goes through. Conditions: a state that can be read, a command of numbers that an int holds.
-/
import Derived.Test.YteebkolccbcehaaGreatJV
set_option linter.all false
namespace Go.Proofs.YteebkolccbcehaaGreat
open Go.ChangeShapes Go.WideShapes Go.ChangeAt Go.RowKit
attribute [local go_sem ↓] yX y9 yd yv yK yA
set_option maxRecDepth 100000 in
set_option maxHeartbeats 2000000 in
theorem Rdo_3yes (f : Rf) (c : Cmd) (q : Nat) (v : Vk) (w : World) (h : RfOk w f) (hc : yj c) (hk : c.k = 3) (hv : yS f.dat.vs c.a = some q) (hX : f.X[q]? = some v) :
  Calls Tryz.prog 17 #[f.val, cmdA c] w (yg f { f.dat with cs := f.dat.cs.filter (fun k => !decide (k.id ∈ v.ids)), vs := f.dat.vs.take q ++ f.dat.vs.drop (q + 1) } 0 w) := by
 unfold Rf.val cmdA
 obtain ⟨w1, hw1, hb1, hr1⟩ := yb w f
 obtain ⟨w2, hw2, hb2, hr2⟩ := zN w1 c
 obtain ⟨w3, hw3⟩ : ∃ w3, w2.alloc (.cells #[.slice none 0 0, .slice none 0 0, .slice none 0 0, .int .i64 0] 32) = w3 := ⟨_, rfl⟩
 have hb3 : Below w2.heap.size w2 w3 := by rw [<- hw3]; exact zg _ _
 have hr3 : w3.heap[w2.heap.size]? = some (.cells #[.slice none 0 0, .slice none 0 0, .slice none 0 0, .int .i64 0] 32 (0, 0)) := by rw [<- hw3]; exact heap_alloc_new _ _
 have hb12 : Below w.heap.size w w2 := hb1.trans (hb2.mono hb1.size)
 have hbw : Below w.heap.size w w3 := hb12.trans (hb3.mono hb12.size)
 have h1 := za (za hr1 hb2) hb3
 have h2 := za hr2 hb3
 have Hr3 := ihq hr3; have Hbw := ihq hbw; have HW := ihq h
 have Hsz := ihq (show w.heap.size < w1.heap.size /\ w1.heap.size < w2.heap.size /\ w2.heap.size < w3.heap.size from ⟨(Array.getElem?_eq_some_iff.1 hr1).1, (Array.getElem?_eq_some_iff.1 hr2).1, (Array.getElem?_eq_some_iff.1 hr3).1⟩)
 have F := ihq (fun V (hv : Below w3.heap.size w3 V) => (zK.of (za h1 hv) (za h2 hv) : zK w w1 f c V))
 have H3 := ihq (h.below hbw)
 have K1 := ihq (RVol f c.a w3 (h.below hbw))
 unfold Rf.val at K1
 obtain ⟨s0, s1, s2, s3, sl, c0, c1, c2, c3⟩ := F.out w3 (Below.refl _ _)
 rw [hv] at K1
 simp only [ixV] at K1
 have hq0 : ¬ (q : Int) < 0 := by omega
 have hqn := (List.getElem?_eq_some_iff.1 hX).1
 have hvl := h.v.len
 have hvc := h.v.cap
 have hvm := h.v.max
 have hvl2 := h.vl
 have hn64 : f.v.n <= 64 := by omega
 have hq1 : (q : Int) < (f.v.n : Int) := by omega
 have hq2 : (0 : Int) <= (q : Int) := by omega
 have hq3 : (q : Int) <= (f.v.c : Int) := by omega
 have hq4 : (f.v.n : Int) <= (f.v.c : Int) := by omega
 have hq5 : (q : Int) + 1 <= (f.v.n : Int) := by omega
 have hq6 : (0 : Int) <= (q : Int) + 1 := by omega
 have hq7 : (q : Int) <= 64 := by omega
 have hqm : q + (f.v.n - (q + 1)) <= 64 := by omega
 have HX := ihq hX
 have Hql := ihq hqn
 have Hvl := ihq hvl
 obtain ⟨gv, ov, hAv, hat⟩ := h.volAt hX
 have HAt := ihq hat
 have HAv := ihq hAv
 have Hs3 := ihq h1
 have hk1 : (c.k == 1) = false := by simp; omega
 have hk2 : (c.k == 2) = false := by simp; omega
 have hk3 : (c.k == 3) = true := by simpa using hk
 have KO := ihq (fun V (hv : Below w3.heap.size w3 V) => Rout f.k v.c f.K v.ids V ((H3.out.below hv).k) ((H3.out.below hv).v.ok v (List.mem_of_getElem? hX)) h.kl)
 obtain ⟨K', hK'⟩ : ∃ K', (f.K.filter fun k => !decide (k.id ∈ v.ids)) = K' := ⟨_, rfl⟩
 rw [hK'] at KO
 obtain ⟨m', hm'⟩ : ∃ m, K'.length = m := ⟨_, rfl⟩
 rw [hm'] at KO
 have HK' := ihq hK'; have Hm' := ihq hm'
 clear hk hv hX hat hK' hm' hqn hvl hvl2 hAv
 clear h hb1 hb2 hb3 hb12 hbw hr1 hr2 hr3 h1 h2
 go_enter Tryz.func17, Tryz.ntmps17
 go_upto_region 25 with (go_at_call 49; refine K1.out.mono ?_; rintro e w4 ⟨rfl, hb4⟩; have Hb4 := ihq hb4; obtain ⟨ds0, ds1, ds2, ds3, dsl, dc0, dc1, dc2, dc3⟩ := F.out w4 hb4; rw [HAv.out] at ds1; clear hb4)
 have HB0 := ihq (Below.refl w4.heap.size w4).drew
 have HS := ihq (fun V (hv : Below w4.heap.size w4 V) => (⟨(F.out V (Hb4.out.trans (hv.mono Hb4.out.size))).s2, (by have := (F.out V (Hb4.out.trans (hv.mono Hb4.out.size))).s1; rw [HAv.out] at this; exact this), ((HAt.out V (Hbw.out.trans ((Hb4.out.trans (hv.mono Hb4.out.size)).mono Hbw.out.size))).1).c7⟩ : V.cell? ⟨w.heap.size, 2, none⟩ = some (.slice f.k.A f.k.n f.k.c) /\ V.cell? ⟨w.heap.size, 1, none⟩ = some (.slice (some ⟨gv, ov, none⟩) f.v.n f.v.c) /\ V.cell? ⟨gv, ov + q * 8 + 7, none⟩ = some (.slice v.c.A v.c.n v.c.c)))
 refine zU (S := (fun V => V.cell? ⟨w.heap.size, 2, none⟩ = some (.slice f.k.A f.k.n f.k.c) /\ V.cell? ⟨w.heap.size, 1, none⟩ = some (.slice (some ⟨gv, ov, none⟩) f.v.n f.v.c) /\ V.cell? ⟨gv, ov + q * 8 + 7, none⟩ = some (.slice v.c.A v.c.n v.c.c))) 10 (by kernel_rfl) ?_
 have hHeld := (HS.out _ HB0.out)
 refine zi (i := 0) (v := ?vr1) rfl (by kernel_rfl) (fun _ _ _ h => h) (Or.inl ⟨by rfl, ?hyr1⟩) hHeld ?restr1
 case hyr1 => (intro w' hS; obtain ⟨s1, s2, s3⟩ := hS; (try simp only [iq4, iq5, iq6]); go_simp; try with_reducible rfl)
 try simp only [Act.put, iq1, iq2, iq3, iq4, iq5, iq6]
 refine zi (i := 1) (v := ?vr2) rfl (by kernel_rfl) (fun _ _ _ h => h) (Or.inl ⟨by rfl, ?hyr2⟩) hHeld ?restr2
 case hyr2 => (intro w' hS; obtain ⟨s1, s2, s3⟩ := hS; (try simp only [iq4, iq5, iq6]); go_simp; try with_reducible rfl)
 try simp only [Act.put, iq1, iq2, iq3, iq4, iq5, iq6]
 refine zi (i := 2) (v := ?vr3) rfl (by kernel_rfl) (fun _ _ _ h => h) (Or.inl ⟨by rfl, ?hyr3⟩) hHeld ?restr3
 case hyr3 => (intro w' hS; obtain ⟨s1, s2, s3⟩ := hS; (try simp only [iq4, iq5, iq6]); go_simp; try with_reducible rfl)
 try simp only [Act.put, iq1, iq2, iq3, iq4, iq5, iq6]
 refine zi (i := 3) (v := ?vr4) rfl (by kernel_rfl) (fun _ _ _ h => h) (Or.inl ⟨by rfl, ?hyr4⟩) hHeld ?restr4
 case hyr4 => (intro w' hS; obtain ⟨s1, s2, s3⟩ := hS; (try simp only [iq4, iq5, iq6]); go_simp; try with_reducible rfl)
 try simp only [Act.put, iq1, iq2, iq3, iq4, iq5, iq6]
 refine zi (i := 4) (v := ?vr5) rfl (by kernel_rfl) (fun _ _ _ h => h) (Or.inl ⟨by rfl, ?hyr5⟩) hHeld ?restr5
 case hyr5 => (intro w' hS; obtain ⟨s1, s2, s3⟩ := hS; (try simp only [iq4, iq5, iq6]); go_simp; try with_reducible rfl)
 try simp only [Act.put, iq1, iq2, iq3, iq4, iq5, iq6]
 refine zi (i := 5) (v := ?vr6) rfl (by kernel_rfl) (fun _ _ _ h => h) (Or.inl ⟨by rfl, ?hyr6⟩) hHeld ?restr6
 case hyr6 => (intro w' hS; obtain ⟨s1, s2, s3⟩ := hS; (try simp only [iq4, iq5, iq6]); go_simp; try with_reducible rfl)
 try simp only [Act.put, iq1, iq2, iq3, iq4, iq5, iq6]
 refine zi (i := 6) (v := ?vr7) rfl (by kernel_rfl) (fun _ _ _ h => h) (Or.inl ⟨by rfl, ?hyr7⟩) hHeld ?restr7
 case hyr7 => (intro w' hS; obtain ⟨s1, s2, s3⟩ := hS; (try simp only [iq4, iq5, iq6]); go_simp; try with_reducible rfl)
 try simp only [Act.put, iq1, iq2, iq3, iq4, iq5, iq6]
 refine zi (i := 7) (v := ?vr8) rfl (by kernel_rfl) (fun _ _ _ h => h) (Or.inl ⟨by rfl, ?hyr8⟩) hHeld ?restr8
 case hyr8 => (intro w' hS; obtain ⟨s1, s2, s3⟩ := hS; (try simp only [iq4, iq5, iq6]); go_simp; try with_reducible rfl)
 try simp only [Act.put, iq1, iq2, iq3, iq4, iq5, iq6]
 refine zn (i := 8) (by kernel_rfl) rfl (fun K hK => ?_)
 (try simp only [iq4, iq5, iq6])
 go_simp
 refine (KO.out _ (Hb4.out.trans (HB0.out.mono Hb4.out.size))).mono ?_
 rintro e V1 ⟨A1, c1, rfl, hown, hb⟩
 have O1 := ihq hown
 have HB1 := ihq (HB0.out.trans (hb.mono HB0.out.size))
 clear hown hb
 refine hK.out _ _ (fun _ => (HS.out _ HB1.out)) ?_
 clear hHeld
 have hHeld := (HS.out _ HB1.out)
 clear hK K
 try simp only [Act.put, iq1, iq2, iq3, iq4, iq5, iq6]
 refine zn (i := 9) (by kernel_rfl) rfl (fun K hK => ?_)
 (try simp only [iq4, iq5, iq6])
 go_simp
 refine hK.out _ _ (fun _ => (HS.out _ HB1.out)) ?_
 clear hHeld
 have hHeld := (HS.out _ HB1.out)
 clear hK K
 try simp only [Act.put, iq1, iq2, iq3, iq4, iq5, iq6]
 refine zn (i := 10) (by kernel_rfl) rfl (fun K hK => ?_)
 (try simp only [iq4, iq5, iq6])
 have bs1 := za (za Hs3.out Hb4.out) HB1.out
 have z1 := zt bs1 2
 have p1 := zc bs1 2
 obtain ⟨V2, hV2⟩ : ∃ W, V1.setCell ⟨w.heap.size, 2, none⟩ (.slice A1 m' c1) = W := ⟨_, rfl⟩
 have bs2 : V2.heap[w.heap.size]? = some (.cells #[.slice f.p.A f.p.n f.p.c, .slice f.v.A f.v.n f.v.c, .slice A1 m' c1, .int .i64 f.nx] 32 (0, 0)) := by rw [<- hV2]; exact zG bs1 2 _
 have T12 := ihq (show Turned (fun b => b = w.heap.size) V1 V2 from (by rw [<- hV2]; exact (Turned.refl (fun b => b = w.heap.size) V1).setCell (b := ⟨w.heap.size, 2, none⟩) (fun _ => rfl) _))
 have Bs2 := ihq bs2
 clear bs1 bs2
 go_simp
 refine hK.out _ _ (fun h => (by cases h)) ?_
 clear hK K
 try simp only [Act.put, iq1, iq2, iq3, iq4, iq5, iq6]
 refine zu (by kernel_rfl) ?_ _
 have hb41 : Below w4.heap.size w4 V1 := HB1.out
 have hbw1 : Below w.heap.size w V1 := Hbw.out.trans ((Hb4.out.trans (hb41.mono Hb4.out.size)).mono Hbw.out.size)
 have hbw2 : Below w.heap.size w V2 := hbw1.trans (T12.out.below (fun b e => by omega) hbw1.size)
 have Hbw1 := ihq hbw1; have Hbw2 := ihq hbw2
 have HSt2 := ihq (T12.out.heap (za (za Hr3.out Hb4.out) HB1.out) (by have := Hsz.out; omega))
 have HVs := ihq (fun V (hv : Below V2.heap.size V2 V) => ((HAt.out V (Hbw2.out.trans (hv.mono Hbw2.out.size))).2))
 have HC0 := ihq (Below.refl V2.heap.size V2).drew
 have HS2 := ihq (fun V (hv : Below V2.heap.size V2 V) => (⟨zc (za Bs2.out hv) 1, trivial⟩ : V.cell? ⟨w.heap.size, 1, none⟩ = some (.slice f.v.A f.v.n f.v.c) /\ True))
 have HS3 := ihq (fun V (hv : Below V2.heap.size V2 V) => (⟨(by have := zc (za Bs2.out hv) 1; rw [HAv.out] at this; exact this), trivial⟩ : V.cell? ⟨w.heap.size, 1, none⟩ = some (.slice (some ⟨gv, ov, none⟩) f.v.n f.v.c) /\ True))
 obtain ⟨D, hD⟩ : ∃ D, (if f.v.c = q + 1 then some (⟨gv, ov, none⟩ : Addr) else some ⟨gv, ov + (q + 1) * 8, none⟩) = D := ⟨_, rfl⟩
 have HD := ihq hD
 have HSq := ihq (show ∀ V, Below V2.heap.size V2 V -> Seen V (some ⟨gv, ov, none⟩) (vksV (f.X.take q)) from fun V hv => by rw [<- Xd]; exact (HVs.out V hv).take _)
 have HSd := ihq (show ∀ V, Below V2.heap.size V2 V -> Seen V D (vksV (f.X.drop (q + 1))) from fun V hv => by
  rw [<- Xf]
  have := (HVs.out V hv)
  rcases this with h0 | ⟨g', o', e, hcells⟩
  ·rw [h0]; exact .inl (by simp)
  ·injection e with e
   injection e with e1 e2
   subst e1; subst e2
   rw [<- HD.out]
   by_cases hce : f.v.c = q + 1
   ·refine .inl (List.drop_eq_nil_of_le ?_)
    rw [ya, Hvl.out]; omega
   ·rw [if_neg hce]
    refine .inr ⟨gv, ov + (q + 1) * 8, rfl, fun j x hx => ?_⟩
    rw [List.getElem?_drop] at hx
    have := hcells _ _ hx
    rwa [show ov + (q + 1) * 8 + j = ov + ((q + 1) * 8 + j) by omega])
 have HLq := ihq (show (vksV (f.X.take q)).length = q * 8 by rw [ya, List.length_take]; have := Hql.out; omega)
 have HLd := ihq (show (vksV (f.X.drop (q + 1))).length = (f.v.n - (q + 1)) * 8 by rw [ya, List.length_drop, Hvl.out])
 clear hb41 hbw1 hbw2
 go_upto_region 26 with fail
 have hwr : IntKind.i64.wrap ((q : Int) + 1) = (q : Int) + 1 := IntWalk.i64_in _ (by omega)
 have htn : ((q : Int) + 1).toNat = q + 1 := by omega
 refine zU (S := (fun V => V.cell? ⟨w.heap.size, 1, none⟩ = some (.slice (some ⟨gv, ov, none⟩) f.v.n f.v.c) /\ True)) 13 (by kernel_rfl) ?_
 have hHeld := (HS3.out _ HC0.out)
 refine zi (i := 1) (v := ?vq1) rfl (by kernel_rfl) (fun _ _ _ h => h) (Or.inl ⟨by rfl, ?hyq1⟩) hHeld ?restq1
 case hyq1 => (intro w' hS; obtain ⟨s1, s2⟩ := hS; (try simp only [iq4, iq5, iq6]); go_simp; try with_reducible rfl)
 try simp only [Act.put, iq1, iq2, iq3, iq4, iq5, iq6]
 refine zi (i := 2) (v := ?vq2) rfl (by kernel_rfl) (fun _ _ _ h => h) (Or.inl ⟨by rfl, ?hyq2⟩) hHeld ?restq2
 case hyq2 => (intro w' hS; obtain ⟨s1, s2⟩ := hS; (try simp only [iq4, iq5, iq6]); go_simp; try with_reducible rfl)
 try simp only [Act.put, iq1, iq2, iq3, iq4, iq5, iq6]
 refine zi (i := 3) (v := ?vq3) rfl (by kernel_rfl) (fun _ _ _ h => h) (Or.inl ⟨by rfl, ?hyq3⟩) hHeld ?restq3
 case hyq3 => (intro w' hS; obtain ⟨s1, s2⟩ := hS; (try simp only [iq4, iq5, iq6]); go_simp; try with_reducible rfl)
 try simp only [Act.put, iq1, iq2, iq3, iq4, iq5, iq6]
 refine zi (i := 4) (v := ?vq4) rfl (by kernel_rfl) (fun _ _ _ h => h) (Or.inl ⟨by rfl, ?hyq4⟩) hHeld ?restq4
 case hyq4 => (intro w' hS; obtain ⟨s1, s2⟩ := hS; (try simp only [iq4, iq5, iq6]); go_simp; try with_reducible rfl)
 try simp only [Act.put, iq1, iq2, iq3, iq4, iq5, iq6]
 refine zi (i := 6) (v := ?vq5) rfl (by kernel_rfl) (fun _ _ _ h => h) (Or.inl ⟨by rfl, ?hyq5⟩) hHeld ?restq5
 case hyq5 => (intro w' hS; obtain ⟨s1, s2⟩ := hS; (try simp only [iq4, iq5, iq6]); go_simp; try with_reducible rfl)
 try simp only [Act.put, iq1, iq2, iq3, iq4, iq5, iq6]
 refine zi (i := 7) (v := ?vq6) rfl (by kernel_rfl) (fun _ _ _ h => h) (Or.inl ⟨by rfl, ?hyq6⟩) hHeld ?restq6
 case hyq6 => (intro w' hS; obtain ⟨s1, s2⟩ := hS; (try simp only [iq4, iq5, iq6]); go_simp; try with_reducible rfl)
 try simp only [Act.put, iq1, iq2, iq3, iq4, iq5, iq6]
 refine zi (i := 8) (v := ?vq7) rfl (by kernel_rfl) (fun _ _ _ h => h) (Or.inl ⟨by rfl, ?hyq7⟩) hHeld ?restq7
 case hyq7 => (intro w' hS; obtain ⟨s1, s2⟩ := hS; (try simp only [iq4, iq5, iq6]); go_simp; try with_reducible rfl)
 try simp only [Act.put, iq1, iq2, iq3, iq4, iq5, iq6]
 refine zi (i := 9) (v := ?vq8) rfl (by kernel_rfl) (fun _ _ _ h => h) (Or.inl ⟨by rfl, ?hyq8⟩) hHeld ?restq8
 case hyq8 => (intro w' hS; obtain ⟨s1, s2⟩ := hS; (try simp only [iq4, iq5, iq6]); go_simp; try with_reducible rfl)
 try simp only [Act.put, iq1, iq2, iq3, iq4, iq5, iq6]
 refine zi (i := 10) (v := ?vq9) rfl (by kernel_rfl) (fun _ _ _ h => h) (Or.inl ⟨by rfl, ?hyq9⟩) hHeld ?restq9
 case hyq9 => (intro w' hS; obtain ⟨s1, s2⟩ := hS; (try simp only [iq4, iq5, iq6]); go_simp; try with_reducible rfl)
 try simp only [Act.put, iq1, iq2, iq3, iq4, iq5, iq6]
 refine zn (i := 0) (by kernel_rfl) rfl (fun K hK => ?_)
 (try simp only [iq4, iq5, iq6])
 obtain ⟨U1, hU1⟩ : ∃ W, World.alloc V2.drew (.cells #[] 49) = W := ⟨_, rfl⟩
 have P1 := ihq (show U1.ownsRow V2.heap.size 49 8 (.slice (some ⟨(World.heap V2.drew).size, 0, none⟩) 0 0) 0 [] from (by rw [<- hU1]; exact yk _ _ HC0.out.size))
 have HC1 := ihq (HC0.out.trans ((show Below (World.heap V2.drew).size V2.drew U1 from (by rw [<- hU1]; exact zg _ _)).mono HC0.out.size))
 go_simp
 try rw [hU1]
 refine hK.out _ _ (fun _ => (HS3.out _ HC1.out)) ?_
 clear hHeld
 have hHeld := (HS3.out _ HC1.out)
 clear hK K
 try simp only [Act.put, iq1, iq2, iq3, iq4, iq5, iq6]
 refine zn (i := 5) (by kernel_rfl) rfl (fun K hK => ?_)
 (try simp only [iq4, iq5, iq6])
 refine zy (by rfl) ?_
 refine zF (.tmp 158) (.tmp 162) _ (by rfl) 49 _ 8 80 Tryz.underlying29 yG (by rfl) (by omega) V2.heap.size (some ⟨(World.heap V2.drew).size, 0, none⟩) 0 0 [] (by rfl) P1.out (some ⟨gv, ov, none⟩) q f.v.c (vksV (f.X.take q)) (by rfl) HLq.out (HSq.out _ HC1.out) (zS _) (by unfold maxLen; omega) (by omega) HC1.out.size ?_
 intro A4 c4 U2 hown hg hbk
 simp only [Nat.zero_add, List.nil_append] at hown ⊢
 have P2 := ihq hown
 have HC2 := ihq (HC1.out.trans ((Turned.of_grown (p := fun k => (Value.slice (some ⟨(World.heap V2.drew).size, 0, none⟩) 0 0).ownBlock = some k) hg (fun k e => e)).below (B := V2.heap.size) (fun k e => (P1.out.lt k e).1) HC1.out.size))
 clear hown hg hbk
 refine hK.out _ _ (fun _ => (HS3.out _ HC2.out)) ?_
 clear hHeld
 have hHeld := (HS3.out _ HC2.out)
 clear hK K
 try simp only [Act.put, iq1, iq2, iq3, iq4, iq5, iq6]
 refine zn (i := 11) (by kernel_rfl) rfl (fun K hK => ?_)
 (try simp only [iq4, iq5, iq6])
 refine zy (by rfl) ?_
 refine zF (.tmp 163) (.tmp 168) _ (by rfl) 49 _ 8 80 Tryz.underlying29 yG (by rfl) (by omega) V2.heap.size A4 q c4 (vksV (f.X.take q)) (by rfl) P2.out D (f.v.n - (q + 1)) (f.v.c - (q + 1)) (vksV (f.X.drop (q + 1))) (by rfl) HLd.out (HSd.out _ HC2.out) (zS _) (by unfold maxLen; omega) (by omega) HC2.out.size ?_
 intro A5 c5 U3 hown hg hbk
 rw [<- xl] at hown
 have P3 := ihq hown
 have HC3 := ihq (HC2.out.trans ((Turned.of_grown (p := fun k => (Value.slice A4 q c4).ownBlock = some k) hg (fun k e => e)).below (B := V2.heap.size) (fun k e => (P2.out.lt k e).1) HC2.out.size))
 clear hown hg hbk
 refine hK.out _ _ (fun _ => (HS3.out _ HC3.out)) ?_
 clear hHeld
 have hHeld := (HS3.out _ HC3.out)
 clear hK K
 try simp only [Act.put, iq1, iq2, iq3, iq4, iq5, iq6]
 refine zn (i := 12) (by kernel_rfl) rfl (fun K hK => ?_)
 (try simp only [iq4, iq5, iq6])
 go_simp
 refine hK.out _ _ (fun _ => (HS3.out _ HC3.out)) ?_
 clear hHeld
 have hHeld := (HS3.out _ HC3.out)
 clear hK K
 try simp only [Act.put, iq1, iq2, iq3, iq4, iq5, iq6]
 refine zn (i := 13) (by kernel_rfl) rfl (fun K hK => ?_)
 (try simp only [iq4, iq5, iq6])
 have bs3 := za Bs2.out HC3.out
 have z3 := zt bs3 1
 have p3 := zc bs3 1
 simp at p3
 obtain ⟨U4, hU4⟩ : ∃ W, U3.setCell ⟨w.heap.size, 1, none⟩ (.slice A5 (q + (f.v.n - (q + 1))) c5) = W := ⟨_, rfl⟩
 have bs4 : U4.heap[w.heap.size]? = some (.cells #[.slice f.p.A f.p.n f.p.c, .slice A5 (q + (f.v.n - (q + 1))) c5, .slice A1 m' c1, .int .i64 f.nx] 32 (0, 0)) := by rw [<- hU4]; exact zG bs3 1 _
 have T34 := ihq (show Turned (fun b => b = w.heap.size) U3 U4 from (by rw [<- hU4]; exact (Turned.refl (fun b => b = w.heap.size) U3).setCell (b := ⟨w.heap.size, 1, none⟩) (fun _ => rfl) _))
 have Bs4 := ihq bs4
 clear bs3 bs4
 go_simp
 refine hK.out _ _ (fun h => (by cases h)) ?_
 clear hK K
 try simp only [Act.put, iq1, iq2, iq3, iq4, iq5, iq6]
 refine zu (by kernel_rfl) ?_ _
 have hld := zR (f := { f with k := ⟨A1, m', c1⟩, v := ⟨A5, q + (f.v.n - (q + 1)), c5⟩ }) Bs4.out
 have hbr4 := T34.out.heap (za HSt2.out HC3.out) (by have := Hsz.out; omega)
 obtain ⟨w9, hst, hr9, ht9⟩ := zk hbr4 rfl f.p ⟨A5, q + (f.v.n - (q + 1)), c5⟩ ⟨A1, m', c1⟩ f.nx
 have Hbr4 := ihq hbr4; have Hr9 := ihq hr9; have Ht9 := ihq ht9
 simp only at hld
 clear hbr4 hr9 ht9 hwr htn hD
 go_wp2
 refine bodyPost_ret (v := .tuple #[.agg #[.slice f.p.A f.p.n f.p.c, .slice A5 (q + (f.v.n - (q + 1))) c5, .slice A1 m' c1, .int .i64 f.nx], .int .i64 0]) (zj rfl _ _ w2.heap.size 32 #[.slice f.p.A f.p.n f.p.c, .slice A5 (q + (f.v.n - (q + 1))) c5, .slice A1 m' c1, .int .i64 f.nx] (0, 0) _ (.int .i64 0) rfl rfl Hr9.out Tryz.underlying32 rfl zw) rfl ?_
 have sb := Hbw.out.size; have sz := Hsz.out; have s2 := Hbw2.out.size; have s3 := HC3.out.size
 have hb3 : Below w.heap.size w U3 := Hbw2.out.trans (HC3.out.mono Hbw2.out.size)
 have hb4 : Below w.heap.size w U4 := hb3.trans (T34.out.below (fun b e => by omega) hb3.size)
 have h := HW.out
 have b14 : Turned (fun b => b = w.heap.size) V1 U4 := (T12.out.trans (Turned.of_below (p := fun b => b = w.heap.size) HC3.out) (fun _ e => e) (fun _ _ e => e)).trans T34.out (fun _ e => e) (fun _ _ e => e)
 have oK := ze b14 O1.out (fun b e hb => by have := (O1.out.lt b e).1; have := HB0.out.size; have := Hb4.out.size; have := Hbw.out.size; omega)
 have oV := ze T34.out P3.out (fun b e hb => by have := (P3.out.lt b e).1; have := Hbw2.out.size; have := (Array.getElem?_eq_some_iff.1 Bs2.out).1; omega)
 rw [<- Hm'.out] at oK
 have e1 := h.v.len
 have ok : RfOk U4 { f with k := ⟨A1, m', c1⟩, v := ⟨A5, q + (f.v.n - (q + 1)), c5⟩, K := K', X := f.X.take q ++ f.X.drop (q + 1) } := by
  refine ⟨h.p.below hb4, VsT.own oV (fun x hx => (h.v.ok x ?_).below hb4) (fun x hx => h.v.inp x ?_), ?_, ?_, ?_, h.pin⟩
  ·rcases List.mem_append.1 hx with hx | hx
   ·exact List.mem_of_mem_take hx
   ·exact List.mem_of_mem_drop hx
  ·rcases List.mem_append.1 hx with hx | hx
   ·exact List.mem_of_mem_take hx
   ·exact List.mem_of_mem_drop hx
  ·have := KsT.own oK (fun k hk => (h.k.ok k (by rw [<- HK'.out] at hk; exact (List.mem_filter.1 hk).1)).below hb4)
   rw [Hm'.out] at this
   exact this
  ·show (f.X.take q ++ f.X.drop (q + 1)).length <= 64
   rw [List.length_append, List.length_take, List.length_drop]
   have := h.vl; omega
  ·show K'.length <= 10000
   have := List.length_filter_le (fun k : Ck => !decide (k.id ∈ v.ids)) f.K
   rw [HK'.out] at this
   have := h.kl; omega
 refine do_end hb4 ok (by omega) ⟨_, Hbr4.out⟩ Ht9.out ?_
 unfold Rf.dat
 simp only [List.map_append, List.map_take, List.map_drop]
 rw [<- HK'.out]
 congr 1
 rw [List.filter_map]
 rfl
end Go.Proofs.YteebkolccbcehaaGreat
