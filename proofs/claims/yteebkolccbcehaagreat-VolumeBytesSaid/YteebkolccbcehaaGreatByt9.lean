/-
  Contract of volume's Load: of any bytes. Conditions: what right says (a condition that the next text pays).
-/
import Derived.Test.YteebkolccbcehaaGreatJY
import Derived.Test.YteebkolccbcehaaGreatHeldT
set_option linter.all false
namespace Go.Proofs.YteebkolccbcehaaGreat
open Go.ChangeShapes Go.WideShapes Go.ChangeAt Go.RowKit
def okL (rs : St -> Bool) (b : List UInt8) : Bool := decide (endOf (Zt b).bs (Zt b).e = 0) && rs (Zt b).s && decide (y6 (Zt b).s = b)
def Yy (rs : St -> Bool) (b : List UInt8) (w : World) (e : Ending) (w' : World) : Prop :=
 (if okL rs b then ∃ g, e = .returned (.tuple #[.pointer (some ⟨g, 0, none⟩), .bool true]) /\ w.heap.size <= g /\ StAt w' g (Zt b).s else e = .returned (.tuple #[.pointer none, .bool false])) /\ Below w.heap.size w w'
attribute [local go_sem ↓] bdSt_eq YR
set_option maxRecDepth 100000 in
set_option maxHeartbeats 4000000 in
theorem VLoad0 (rs : St -> Bool) (KR : ∀ (V : World) (g : Nat) (s : St), StAt V g s -> LdS s -> Calls Tryz.prog 24 #[.pointer (some ⟨g, 0, none⟩)] V fun e V' => e = .returned (.bool (rs s)) /\ Below V.heap.size V V')
  (A : Option Addr) (n c : Nat) (b : List UInt8) (w : World) (hn : b.length = n) (hl : n <= 1000000) (hs : Seen w A (zT b)) :
  Calls Tryz.prog 10 #[.slice A n c] w (Yy rs b w) := by
 have KRd := ihq (NewR_any A n c b w hn hl hs)
 have hld := ZQ b
 have hdef : Zt b = Zt b := rfl
 obtain ⟨m, m1, m2, hm⟩ : ∃ x y z, zM b 0 zH = (x, y, z) := ⟨_, _, _, rfl⟩
 obtain ⟨n1, b1, e1, hn1⟩ : ∃ x y z, zM m1 m2 16 = (x, y, z) := ⟨_, _, _, rfl⟩
 have hmm := yD (bs := b) (e := 0) (most := zH) (by unfold zH; omega)
 rw [hm] at hmm
 have hn16 : n1 <= 16 := by have := ZO (bs := m1) (e := m2) (m := 16); rw [show ((16 : Nat) : Int) = 16 from rfl, hn1] at this; exact this
 obtain ⟨q0, hq0⟩ : ∃ q0 : RdS, (⟨{ st0 with md := (m : Int) }, b1, e1⟩ : RdS) = q0 := ⟨_, rfl⟩
 have hl0 : LdS q0.s := by rw [<- hq0]; exact LdS.zero ⟨by omega, by simpa using hmm⟩
 obtain ⟨Z, hZ⟩ : ∃ Z, zStL.toArray.setIfInBounds 464 (.int .i64 (m : Int)) = Z := ⟨_, rfl⟩
 have hbd := fun W => bdStM_run W (m : Int)
 rw [hZ] at hbd
 have HZ := ihq (fun (V : World) (g : Nat) (h : V.heap[g]? = some (.cells Z 57 (0, 0))) => (stM_at (m := (m : Int)) (by rw [hZ]; exact h) : StAt V g { st0 with md := (m : Int) }))
 have Hm := ihq hm; have Hn1 := ihq hn1; have Hq0 := ihq hq0; have Hl0 := ihq hl0
 have Hsb := ihq hs; have Hnb := ihq hn
 clear hm hn1 hmm hq0 hl0 hZ hn hs hld hdef
 go_enter Tryz.func10, Tryz.ntmps10
 go_wp2_with fail
 refine KRd.out.mono ?_
 rintro en w1 ⟨gr, rfl, hgr, hi1, hb1⟩
 have KM := xi gr 0 b zH w1 hi1 (by unfold zH; omega) (by unfold zH; omega)
 rw [Hm.out] at KM
 unfold zH at KM
 simp only at KM
 have KM := ihq KM
 have Hgr := ihq hgr; have B1 := ihq hb1
 clear hi1 hgr hb1 KRd
 go_wp2_with fail
 refine KM.out.mono ?_
 rintro en w2 ⟨rfl, hi2, ht2⟩
 obtain ⟨w3, hw3⟩ : ∃ w3, w2.alloc (.cells Z 57) = w3 := ⟨_, rfl⟩
 have hb3 : Below w2.heap.size w2 w3 := by rw [<- hw3]; exact zg _ _
 obtain ⟨gs, hgs⟩ : ∃ gs, w2.heap.size = gs := ⟨_, rfl⟩
 have hst3 : StAt w3 gs { st0 with md := (m : Int) } := HZ.out w3 gs (by rw [<- hw3, <- hgs]; exact heap_alloc_new _ _)
 have Hrs := ihq (show gr < gs from by rw [<- hgs]; exact hi2.lt)
 have KN := xi gr m2 m1 16 w3 (hi2.below hb3) (by omega) (by omega)
 rw [Hn1.out] at KN
 simp only at KN
 have KN := ihq KN
 have St3 := ihq hst3; have Hi3 := ihq (hi2.below hb3)
 have B3 := ihq ((B1.out.trans (ht2.below (fun k e => by have := Hgr.out; omega) B1.out.size)).trans (hb3.mono (Nat.le_trans B1.out.size ht2.size)))
 clear hi2 ht2 hb3 hst3 KM
 go_wp2_with fail
 refine KN.out.mono ?_
 rintro en w4 ⟨rfl, hi4, ht4⟩
 have St4 := ihq (St3.out.reader Hi3.out ht4); have Hi4 := ihq hi4; have B4 := ihq (B3.out.trans (ht4.below (fun k e => by have := Hgr.out; omega) B3.out.size))
 clear hi4 ht4 KN hbd hw3
 go_wp2
 go_loopw [16] (fun iv wr => ∃ j : Nat, j <= n1 /\ iv = .int .i64 (j : Int) /\ StAt wr gs (yQ xE j q0).s /\ IsR wr gr (yQ xE j q0).bs (yQ xE j q0).e /\ Below w.heap.size w wr) (fun iv _ => n1 - (intOf iv).toNat)
 case atStart => exact ⟨0, Nat.zero_le _, rfl, by show StAt w4 gs q0.s; rw [<- Hq0.out]; exact St4.out, by show IsR w4 gr q0.bs q0.e; rw [<- Hq0.out]; exact Hi4.out, B4.out⟩
 case round =>
  obtain ⟨j, hjn, rfl, hst, hi, hb⟩ := hrel
  by_cases hj : j < n1
  ·have j0 : (0 : Int) <= (j : Int) := by omega
   have j1 : (j : Int) < (n1 : Int) := by omega
   obtain ⟨q, hq⟩ : ∃ q, yQ xE j q0 = q := ⟨_, rfl⟩
   have hq1 : yQ xE (j + 1) q0 = xE q := by show xE (yQ xE j q0) = _; rw [hq]
   rw [hq] at hst hi
   obtain ⟨x, x1, x2, hx⟩ : ∃ x y z, zM q.bs q.e 15 = (x, y, z) := ⟨_, _, _, rfl⟩
   obtain ⟨nv, y1, y2, hnv⟩ : ∃ x y z, rdM x1 x2 = (x, y, z) := ⟨_, _, _, rfl⟩
   have hx15 : x <= 15 := by have := ZO (bs := q.bs) (e := q.e) (m := 15); rw [show ((15 : Nat) : Int) = 15 from rfl, hx] at this; exact this
   have hx16 : x < 16 := by omega
   have hpk : xE q = ⟨{ q.s with pk := fun j => if (j : Int) = ((x : Nat) : Int) then (nv : Int) else q.s.pk j }, y1, y2⟩ := by unfold xE; rw [hx]; simp only; rw [hnv]
   have KI := xi gr q.e q.bs 15 wr hi (by omega) (by omega)
   rw [hx] at KI
   simp only at KI
   have KI := ihq KI
   have Hst := ihq hst; have Hi := ihq hi; have Hb := ihq hb; have Hq1 := ihq (hq1.trans hpk); have Hnv := ihq hnv
   have x0 : (0 : Int) <= (x : Int) := by omega
   have x16 : (x : Int) < 16 := by omega
   clear hst hi hb hq hq1 hpk hx hnv
   go_wp2_with fail
   refine KI.out.mono ?_
   rintro en V1 ⟨rfl, hi, ht⟩
   have St1 := ihq (Hst.out.reader Hi.out ht); have Hi1 := ihq hi; have B1' := ihq (Hb.out.trans (ht.below (fun k e => by have := Hgr.out; omega) Hb.out.size))
   clear hi ht KI
   go_upto_region 6 with fail
   have hbD := (Below.refl V1.heap.size V1).drew
   have St2 := ihq (St1.out.below hbD); have Hi2 := ihq (Hi1.out.below hbD); have B2 := ihq (B1'.out.trans (hbD.mono B1'.out.size))
   have KM := xi gr x2 x1 9223372036854775807 V1.drew Hi2.out (by omega) (by omega)
   rw [show zM x1 x2 9223372036854775807 = (nv, y1, y2) from Hnv.out] at KM
   simp only at KM
   have KM := ihq KM
   clear hbD
   refine zU (S := (fun V => True /\ True)) 7 (by kernel_rfl) ?_
   have hHeld := (And.intro trivial trivial)
   refine zi (i := 0) (v := ?va1) rfl (by kernel_rfl) (fun _ _ _ h => h) (Or.inl ⟨by rfl, ?hya1⟩) hHeld ?resta1
   case hya1 => (intro w' hS; obtain ⟨s1, s2⟩ := hS; (try simp only [iq4, iq5, iq6]); go_simp; try with_reducible rfl)
   try simp only [Act.put, iq1, iq2, iq3, iq4, iq5, iq6]
   refine zi (i := 1) (v := ?va2) rfl (by kernel_rfl) (fun _ _ _ h => h) (Or.inl ⟨by rfl, ?hya2⟩) hHeld ?resta2
   case hya2 => (intro w' hS; obtain ⟨s1, s2⟩ := hS; (try simp only [iq4, iq5, iq6]); go_simp; try with_reducible rfl)
   try simp only [Act.put, iq1, iq2, iq3, iq4, iq5, iq6]
   refine zi (i := 2) (v := ?va3) rfl (by kernel_rfl) (fun _ _ _ h => h) (Or.inl ⟨by rfl, ?hya3⟩) hHeld ?resta3
   case hya3 => (intro w' hS; obtain ⟨s1, s2⟩ := hS; (try simp only [iq4, iq5, iq6]); go_simp; try with_reducible rfl)
   try simp only [Act.put, iq1, iq2, iq3, iq4, iq5, iq6]
   refine zi (i := 4) (v := ?va4) rfl (by kernel_rfl) (fun _ _ _ h => h) (Or.inl ⟨by rfl, ?hya4⟩) hHeld ?resta4
   case hya4 => (intro w' hS; obtain ⟨s1, s2⟩ := hS; (try simp only [iq4, iq5, iq6]); go_simp; try with_reducible rfl)
   try simp only [Act.put, iq1, iq2, iq3, iq4, iq5, iq6]
   refine zi (i := 5) (v := ?va5) rfl (by kernel_rfl) (fun _ _ _ h => h) (Or.inl ⟨by rfl, ?hya5⟩) hHeld ?resta5
   case hya5 => (intro w' hS; obtain ⟨s1, s2⟩ := hS; (try simp only [iq4, iq5, iq6]); go_simp; try with_reducible rfl)
   try simp only [Act.put, iq1, iq2, iq3, iq4, iq5, iq6]
   refine zn (i := 3) (by kernel_rfl) rfl (fun K hK => ?_)
   (try simp only [iq4, iq5, iq6])
   go_simp
   refine KM.out.mono ?_
   rintro en V3 ⟨rfl, hi, ht⟩
   have Hi3 := ihq hi
   have St3 := ihq (St2.out.reader Hi2.out ht)
   have B3 := ihq (B2.out.trans (ht.below (fun k e => by have := Hgr.out; omega) B2.out.size))
   clear hi ht
   refine hK.out _ _ (fun _ => (And.intro trivial trivial)) ?_
   clear hHeld
   have hHeld := (And.intro trivial trivial)
   clear hK K
   try simp only [Act.put, iq1, iq2, iq3, iq4, iq5, iq6]
   refine zn (i := 6) (by kernel_rfl) rfl (fun K hK => ?_)
   (try simp only [iq4, iq5, iq6])
   go_simp
   refine hK.out _ _ (fun _ => (And.intro trivial trivial)) ?_
   clear hHeld
   have hHeld := (And.intro trivial trivial)
   clear hK K
   try simp only [Act.put, iq1, iq2, iq3, iq4, iq5, iq6]
   refine zn (i := 7) (by kernel_rfl) rfl (fun K hK => ?_)
   (try simp only [iq4, iq5, iq6])
   obtain ⟨⟨vv, hcell⟩, hfz, hst4, ht4⟩ := pick_put St3.out hx16 (nv : Int)
   obtain ⟨V4, hV4⟩ : ∃ W, V3.setCell ⟨gs, x, none⟩ (.int .i64 (nv : Int)) = W := ⟨_, rfl⟩
   rw [hV4] at hst4 ht4
   have St4 := ihq hst4
   have Ht4 := ihq ht4
   clear hst4 ht4
   go_simp
   try rw [hV4]
   refine hK.out _ _ (fun h => (by cases h)) ?_
   clear hK K
   try simp only [Act.put, iq1, iq2, iq3, iq4, iq5, iq6]
   refine zu (by kernel_rfl) ?_ _
   go_wp2
   go_roundw
   case rel => exact ⟨j + 1, by omega, by go_num, by rw [Hq1.out]; exact St4.out, by rw [Hq1.out]; exact Hi3.out.far Ht4.out (fun k hk e => by have := Hrs.out; omega), B3.out.trans (Ht4.out.below (fun k e => by have := Hrs.out; have := Hgr.out; omega) B3.out.size)⟩
   case measure => simp [intOf]; omega
  ·obtain rfl : j = n1 := by omega
   have j1 : ¬ (j : Int) < (j : Int) := by omega
   obtain ⟨P, hP⟩ : ∃ P, yQ xE j q0 = P := ⟨_, rfl⟩
   rw [hP] at hst hi
   obtain ⟨k, c1, c2, hk⟩ : ∃ x y z, zM P.bs P.e 64 = (x, y, z) := ⟨_, _, _, rfl⟩
   have hk64 : k <= 64 := by have := ZO (bs := P.bs) (e := P.e) (m := 64); rw [show ((64 : Nat) : Int) = 64 from rfl, hk] at this; exact this
   obtain ⟨q2, hq2⟩ : ∃ q2 : RdS, (⟨P.s, c1, c2⟩ : RdS) = q2 := ⟨_, rfl⟩
   have hdef : Zt b = yQ xy k q2 := by
    unfold Zt
    rw [Hm.out]; simp only
    rw [Hn1.out]; simp only
    rw [Hq0.out, hP, hk, hq2]
   have KK := xi gr P.e P.bs 64 wr hi (by omega) (by omega)
   rw [hk] at KK
   simp only at KK
   have KK := ihq KK
   have Hst := ihq hst; have Hi := ihq hi; have Hb := ihq hb; have Hdef := ihq hdef; have Hq2 := ihq hq2
   clear hst hi hb hP hk hq2 hdef
   go_wp2_with fail
   refine KK.out.mono ?_
   rintro en v1 ⟨rfl, hi, ht⟩
   have St1 := ihq (Hst.out.reader Hi.out ht); have Hi1 := ihq hi; have Bv1 := ihq (Hb.out.trans (ht.below (fun k e => by have := Hgr.out; omega) Hb.out.size))
   clear hi ht KK j1
   go_wp2
   go_loopw [30] (fun iv wr => ∃ j : Nat, j <= k /\ iv = .int .i64 (j : Int) /\ StAt wr gs (yQ xy j q2).s /\ IsR wr gr (yQ xy j q2).bs (yQ xy j q2).e /\ Below w.heap.size w wr) (fun iv _ => k - (intOf iv).toNat)
   case atStart => exact ⟨0, Nat.zero_le _, rfl, by show StAt v1 gs q2.s; rw [<- Hq2.out]; exact St1.out, by show IsR v1 gr q2.bs q2.e; rw [<- Hq2.out]; exact Hi1.out, Bv1.out⟩
   case round =>
    obtain ⟨t, htn, rfl, hst, hi, hb⟩ := hrel
    by_cases ht : t < k
    ·have t0 : (0 : Int) <= (t : Int) := by omega
     have t1 : (t : Int) < (k : Int) := by omega
     obtain ⟨q, hq⟩ : ∃ q, yQ xy t q2 = q := ⟨_, rfl⟩
     have hq1 : yQ xy (t + 1) q2 = xy q := by show xy (yQ xy t q2) = _; rw [hq]
     rw [hq] at hst hi
     obtain ⟨x, x1, x2, hx⟩ : ∃ x y z, zM q.bs q.e 63 = (x, y, z) := ⟨_, _, _, rfl⟩
     obtain ⟨v, y1, y2, hnv⟩ : ∃ v y z, xH (x : Int) x1 x2 = (v, y, z) := ⟨_, _, _, rfl⟩
     have hx63 : x <= 63 := by have := ZO (bs := q.bs) (e := q.e) (m := 63); rw [show ((63 : Nat) : Int) = 63 from rfl, hx] at this; exact this
     have hx64 : x < 64 := by omega
     have hpk : xy q = ⟨setV q.s x v, y1, y2⟩ := by unfold xy; rw [hx]; simp only; rw [hnv]
     have KI := xi gr q.e q.bs 63 wr hi (by omega) (by omega)
     rw [hx] at KI
     simp only at KI
     have KI := ihq KI
     have Hst := ihq hst; have Hi := ihq hi; have Hb := ihq hb; have Hq1 := ihq (hq1.trans hpk); have Hnv := ihq hnv
     have x0 : (0 : Int) <= (x : Int) := by omega
     have x64 : (x : Int) < 64 := by omega
     clear hst hi hb hq hq1 hpk hx hnv
     go_wp2_with fail
     refine KI.out.mono ?_
     rintro en V1 ⟨rfl, hi, ht⟩
     have St1 := ihq (Hst.out.reader Hi.out ht); have Hi1 := ihq hi; have B1' := ihq (Hb.out.trans (ht.below (fun k e => by have := Hgr.out; omega) Hb.out.size))
     clear hi ht KI
     go_upto_region 11 with fail
     have hbD := (Below.refl V1.heap.size V1).drew
     have St2 := ihq (St1.out.below hbD); have Hi2 := ihq (Hi1.out.below hbD); have B2 := ihq (B1'.out.trans (hbD.mono B1'.out.size))
     have KM := VreadVolume gr x2 (x : Int) x1 V1.drew Hi2.out (by omega)
     unfold Qp at KM
     rw [Hnv.out] at KM
     simp only at KM
     have KM := ihq KM
     clear hbD
     refine zU (S := (fun V => True /\ True)) 8 (by kernel_rfl) ?_
     have hHeld := (And.intro trivial trivial)
     refine zi (i := 0) (v := ?vb1) rfl (by kernel_rfl) (fun _ _ _ h => h) (Or.inl ⟨by rfl, ?hyb1⟩) hHeld ?restb1
     case hyb1 => (intro w' hS; obtain ⟨s1, s2⟩ := hS; (try simp only [iq4, iq5, iq6]); go_simp; try with_reducible rfl)
     try simp only [Act.put, iq1, iq2, iq3, iq4, iq5, iq6]
     refine zi (i := 1) (v := ?vb2) rfl (by kernel_rfl) (fun _ _ _ h => h) (Or.inl ⟨by rfl, ?hyb2⟩) hHeld ?restb2
     case hyb2 => (intro w' hS; obtain ⟨s1, s2⟩ := hS; (try simp only [iq4, iq5, iq6]); go_simp; try with_reducible rfl)
     try simp only [Act.put, iq1, iq2, iq3, iq4, iq5, iq6]
     refine zi (i := 2) (v := ?vb3) rfl (by kernel_rfl) (fun _ _ _ h => h) (Or.inl ⟨by rfl, ?hyb3⟩) hHeld ?restb3
     case hyb3 => (intro w' hS; obtain ⟨s1, s2⟩ := hS; (try simp only [iq4, iq5, iq6]); go_simp; try with_reducible rfl)
     try simp only [Act.put, iq1, iq2, iq3, iq4, iq5, iq6]
     refine zi (i := 3) (v := ?vb4) rfl (by kernel_rfl) (fun _ _ _ h => h) (Or.inl ⟨by rfl, ?hyb4⟩) hHeld ?restb4
     case hyb4 => (intro w' hS; obtain ⟨s1, s2⟩ := hS; (try simp only [iq4, iq5, iq6]); go_simp; try with_reducible rfl)
     try simp only [Act.put, iq1, iq2, iq3, iq4, iq5, iq6]
     refine zi (i := 5) (v := ?vb5) rfl (by kernel_rfl) (fun _ _ _ h => h) (Or.inl ⟨by rfl, ?hyb5⟩) hHeld ?restb5
     case hyb5 => (intro w' hS; obtain ⟨s1, s2⟩ := hS; (try simp only [iq4, iq5, iq6]); go_simp; try with_reducible rfl)
     try simp only [Act.put, iq1, iq2, iq3, iq4, iq5, iq6]
     refine zi (i := 6) (v := ?vb6) rfl (by kernel_rfl) (fun _ _ _ h => h) (Or.inl ⟨by rfl, ?hyb6⟩) hHeld ?restb6
     case hyb6 => (intro w' hS; obtain ⟨s1, s2⟩ := hS; (try simp only [iq4, iq5, iq6]); go_simp; try with_reducible rfl)
     try simp only [Act.put, iq1, iq2, iq3, iq4, iq5, iq6]
     refine zn (i := 4) (by kernel_rfl) rfl (fun K hK => ?_)
     (try simp only [iq4, iq5, iq6])
     go_simp
     refine KM.out.mono ?_
     rintro en V3 ⟨Sv, Y, rfl, hks, hdat, hi, ht⟩
     have Hi3 := ihq hi
     have St3 := ihq (St2.out.reader Hi2.out ht)
     have B3 := ihq (B2.out.trans (ht.below (fun k e => by have := Hgr.out; omega) B2.out.size))
     have HKs := ihq hks
     have HDt := ihq hdat
     clear hi ht hks hdat
     refine hK.out _ _ (fun _ => (And.intro trivial trivial)) ?_
     clear hHeld
     have hHeld := (And.intro trivial trivial)
     clear hK K
     try simp only [Act.put, iq1, iq2, iq3, iq4, iq5, iq6]
     refine zn (i := 7) (by kernel_rfl) rfl (fun K hK => ?_)
     (try simp only [iq4, iq5, iq6])
     go_simp
     refine hK.out _ _ (fun _ => (And.intro trivial trivial)) ?_
     clear hHeld
     have hHeld := (And.intro trivial trivial)
     clear hK K
     try simp only [Act.put, iq1, iq2, iq3, iq4, iq5, iq6]
     refine zn (i := 8) (by kernel_rfl) rfl (fun K hK => ?_)
     (try simp only [iq4, iq5, iq6])
     obtain ⟨V4, hst9, hst4, ht4⟩ := volS_put St3.out hx64 HKs.out HDt.out
     have St4 := ihq hst4
     have Ht4 := ihq ht4
     clear hst4 ht4
     go_simp
     refine hK.out _ _ (fun h => (by cases h)) ?_
     clear hK K
     try simp only [Act.put, iq1, iq2, iq3, iq4, iq5, iq6]
     refine zu (by kernel_rfl) ?_ _
     go_wp2
     go_roundw
     case rel => exact ⟨t + 1, by omega, by go_num, by rw [Hq1.out]; exact St4.out, by rw [Hq1.out]; exact Hi3.out.far Ht4.out (fun k hk e => by have := Hrs.out; omega), B3.out.trans (Ht4.out.below (fun k e => by have := Hrs.out; have := Hgr.out; omega) B3.out.size)⟩
     case measure => simp [intOf]; omega
    ·obtain rfl : t = k := by omega
     have t1 : ¬ (t : Int) < (t : Int) := by omega
     rw [<- Hdef.out] at hst hi
     have hld := ZQ b
     obtain ⟨L, hL⟩ : ∃ L, Zt b = L := ⟨_, rfl⟩
     rw [hL] at hst hi hld
     have KE := End_any gr L.e L.bs wr hi
     obtain ⟨z, hz⟩ : ∃ z, endOf L.bs L.e = z := ⟨_, rfl⟩
     rw [hz] at KE
     have KE := ihq KE
     have hok : okL rs b = (decide (z = 0) && rs L.s && decide (y6 L.s = b)) := by unfold okL; rw [hL, hz]
     have Hok := ihq hok; have Hst := ihq hst; have Hb := ihq hb; have HL := ihq hL
     have KRs := ihq (KR wr gs L.s hst hld)
     have KB := ihq (fun V (hv : Below wr.heap.size wr V) => VBytes gs L.s V (hst.below hv) hld.fit (by have := XH hld.fit hld.four; omega))
     have Hgs := ihq (show w.heap.size <= gs from by have := Hrs.out; have := Hgr.out; omega)
     clear hst hi hb hld hL hz hok
     by_cases hz0 : z = 0
     ·subst hz0
      obtain ⟨rv, hrv⟩ : ∃ rv, rs L.s = rv := ⟨_, rfl⟩
      rw [hrv] at KRs
      have Hrv := ihq hrv
      clear hrv
      cases rv with
      | false =>
       go_wp2_with (first
        | (go_at_call 24; refine KRs.out.mono ?_; rintro en v2 ⟨rfl, hb2⟩; have Hb2 := ihq (Hb.out.trans (hb2.mono Hb.out.size)); clear hb2)
        | (go_at_call 23; refine KE.out.mono ?_; rintro en v1' ⟨rfl, rfl⟩))
       go_ret2
       unfold Yy
       rw [Hok.out, Hrv.out]
       exact ⟨by simp, Hb2.out⟩
      | true =>
       obtain ⟨d, hd⟩ : ∃ d, decide (y6 L.s = b) = d := ⟨_, rfl⟩
       have Hd := ihq hd
       have hbl : (y6 L.s).length <= 1000000 := by
        have h1 := xa _ (stN_in (ZQ b).fit)
        rw [HL.out] at h1
        have h2 := XH (ZQ b).fit (ZQ b).four
        rw [HL.out] at h2
        unfold y6
        omega
       have Hbl := ihq hbl
       clear hd hbl
       cases d with
       | false =>
        go_wp2_with (first
         | (go_at_call 25; refine KQ.out.mono ?_; rintro en v4 ⟨rfl, rfl⟩)
         | (go_at_call 11; refine (KB.out _ Hb2.out).mono ?_; rintro en v3 ⟨A3, c3, rfl, hown3, hb3⟩; have Hb3 := ihq ((Hb.out.trans (Hb2.out.mono Hb.out.size)).trans (hb3.mono (Nat.le_trans Hb.out.size Hb2.out.size))); have KQ := Yn A3 A _ n c3 c _ b v3 (xd _).symm Hnb.out (Seen.of_own hown3) (Hsb.out.below Hb3.out); rw [Hd.out] at KQ; have KQ := ihq KQ; have Hb23 := ihq (Hb2.out.trans (hb3.mono Hb2.out.size)); clear hown3 hb3)
         | (go_at_call 24; refine KRs.out.mono ?_; rintro en v2 ⟨rfl, hb2⟩; have Hb2 := ihq hb2; clear hb2)
         | (go_at_call 23; refine KE.out.mono ?_; rintro en v1' ⟨rfl, rfl⟩))
        go_ret2
        unfold Yy
        rw [Hok.out, Hrv.out, Hd.out]
        exact ⟨by simp, Hb3.out⟩
       | true =>
        go_wp2_with (first
         | (go_at_call 25; refine KQ.out.mono ?_; rintro en v4 ⟨rfl, rfl⟩)
         | (go_at_call 11; refine (KB.out _ Hb2.out).mono ?_; rintro en v3 ⟨A3, c3, rfl, hown3, hb3⟩; have Hb3 := ihq ((Hb.out.trans (Hb2.out.mono Hb.out.size)).trans (hb3.mono (Nat.le_trans Hb.out.size Hb2.out.size))); have KQ := Yn A3 A _ n c3 c _ b v3 (xd _).symm Hnb.out (Seen.of_own hown3) (Hsb.out.below Hb3.out); rw [Hd.out] at KQ; have KQ := ihq KQ; have Hb23 := ihq (Hb2.out.trans (hb3.mono Hb2.out.size)); clear hown3 hb3)
         | (go_at_call 24; refine KRs.out.mono ?_; rintro en v2 ⟨rfl, hb2⟩; have Hb2 := ihq hb2; clear hb2)
         | (go_at_call 23; refine KE.out.mono ?_; rintro en v1' ⟨rfl, rfl⟩))
        go_ret2
        unfold Yy
        rw [Hok.out, Hrv.out, Hd.out, HL.out]
        exact ⟨by simpa using ⟨Hgs.out, Hst.out.below Hb23.out⟩, Hb3.out⟩
     ·have hz1 : ((z : Int) != 0) = true := by simpa using hz0
      go_wp2_with (go_at_call 23; refine KE.out.mono ?_; rintro en v1' ⟨rfl, rfl⟩)
      go_ret2
      unfold Yy
      rw [Hok.out, decide_eq_false hz0]
      exact ⟨by simp, Hb.out⟩
end Go.Proofs.YteebkolccbcehaaGreat
