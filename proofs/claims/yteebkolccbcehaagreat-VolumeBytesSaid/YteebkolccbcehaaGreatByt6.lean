/-
  Contract of volume's readVolume: of any bytes. Conditions: a Reader; a volume's number.
-/
import Derived.Test.YteebkolccbcehaaGreatJX
import Derived.Test.YteebkolccbcehaaGreatHeldT
set_option linter.all false
namespace Go.Proofs.YteebkolccbcehaaGreat
open Go.ChangeShapes Go.WideShapes Go.ChangeAt Go.RowKit
theorem IsR.noIntR {w : World} {g e : Nat} {bs : List UInt8} {T : TypeId} (h : IsR w g bs e) (hT : T ≠ 100 := by decide) : NoT w T (fun k => k = g) := fun k cs fr hk e => by
 subst hk
 obtain ⟨A, n, c, hh, _⟩ := h
 rw [hh] at e; injection e with e; injection e with _ e; exact hT e.symm
def Qp (g : Nat) (vo : Int) (bs : List UInt8) (e : Nat) (w : World) (en : Ending) (w' : World) : Prop :=
 ∃ (S : Sl) (Y : List Ck), en = .returned (.agg #[.int .i64 (xH vo bs e).1.bl, .int .i64 (xH vo bs e).1.p.re, .int .i64 (xH vo bs e).1.p.we, .int .i64 (xH vo bs e).1.p.li, .int .i64 (xH vo bs e).1.p.bu, .int .i64 (xH vo bs e).1.ver, .slice S.A S.n S.c]) /\
  KsT w' S Y /\ Y.map Ck.dat = (xH vo bs e).1.ks /\ IsR w' g (xH vo bs e).2.1 (xH vo bs e).2.2 /\ Turned (fun k => k = g) w w'
theorem VreadPol (g e : Nat) (bs : List UInt8) (w : World) (h : IsR w g bs e) :
  Calls Tryz.prog 59 #[.pointer (some ⟨g, 0, none⟩)] w fun en w' => en = .returned (.agg #[.int .i64 (yx bs e).p.re, .int .i64 (yx bs e).p.we, .int .i64 (yx bs e).p.li, .int .i64 (yx bs e).p.bu]) /\ IsR w' g (yx bs e).bs (yx bs e).e /\ Turned (fun k => k = g) w w' := by
 obtain ⟨a, a1, a2, ha⟩ : ∃ x y z, rdM bs e = (x, y, z) := ⟨_, _, _, rfl⟩
 obtain ⟨b, b1, b2, hb⟩ : ∃ x y z, rdM a1 a2 = (x, y, z) := ⟨_, _, _, rfl⟩
 obtain ⟨c, c1, c2, hc⟩ : ∃ x y z, rdM b1 b2 = (x, y, z) := ⟨_, _, _, rfl⟩
 obtain ⟨d, d1, d2, hd⟩ : ∃ x y z, rdM c1 c2 = (x, y, z) := ⟨_, _, _, rfl⟩
 have hp : yx bs e = ⟨⟨(a : Int), (b : Int), (c : Int), (d : Int)⟩, d1, d2⟩ := by
  unfold yx
  rw [ha]; simp only
  rw [hb]; simp only
  rw [hc]; simp only
  rw [hd]
 rw [hp]
 exact VreadPolicy g e a a2 b b2 c c2 d d2 bs a1 b1 c1 d1 w h ha hb hc hd
attribute [local go_sem ↓] Qg YR ldVol_eq bdCk_eq
set_option maxRecDepth 100000 in
set_option maxHeartbeats 4000000 in
theorem VreadVolume (g e : Nat) (vo : Int) (bs : List UInt8) (w : World) (h : IsR w g bs e) (hv : 0 <= vo /\ vo <= 63) :
  Calls Tryz.prog 22 #[.pointer (some ⟨g, 0, none⟩), .int .i64 vo] w (Qp g vo bs e w) := by
 have hgl := h.lt
 obtain ⟨w1, hw1⟩ : ∃ w1, w.alloc (.cells #[.int .i64 0, .int .i64 0, .int .i64 0, .int .i64 0, .int .i64 0, .int .i64 0, .slice none 0 0] 54) = w1 := ⟨_, rfl⟩
 have hb1 : Below w.heap.size w w1 := by rw [<- hw1]; exact zg _ _
 have hr1 : w1.heap[w.heap.size]? = some (.cells #[.int .i64 0, .int .i64 0, .int .i64 0, .int .i64 0, .int .i64 0, .int .i64 0, .slice none 0 0] 54 (0, 0)) := by rw [<- hw1]; exact heap_alloc_new _ _
 have hm := yD (bs := bs) (e := e) (most := 512) (by omega)
 have KN := ihq (xi g e bs 512 w1 (h.below hb1) (by omega) (by omega))
 obtain ⟨bl, b1, e1, hb⟩ : ∃ b b1 b2, zM bs e 512 = (b, b1, b2) := ⟨_, _, _, rfl⟩
 rw [hb] at KN hm
 have hdef : xH vo bs e = (⟨(bl : Int), (yx b1 e1).p, ((zM (yx b1 e1).bs (yx b1 e1).e zH).1 : Int), (yO vo (zx (bl : Int)).toNat (zM (yx b1 e1).bs (yx b1 e1).e zH).2.1 (zM (yx b1 e1).bs (yx b1 e1).e zH).2.2).1⟩, (yO vo (zx (bl : Int)).toNat (zM (yx b1 e1).bs (yx b1 e1).e zH).2.1 (zM (yx b1 e1).bs (yx b1 e1).e zH).2.2).2.1, (yO vo (zx (bl : Int)).toNat (zM (yx b1 e1).bs (yx b1 e1).e zH).2.1 (zM (yx b1 e1).bs (yx b1 e1).e zH).2.2).2.2) := by unfold xH; rw [hb]
 have Hdef := ihq hdef; have Hr1 := ihq hr1; have Hb1 := ihq hb1
 have hbl : (bl : Int) <= 512 := by simpa using hm
 obtain ⟨n, hn⟩ : ∃ n, (zx (bl : Int)).toNat = n := ⟨_, rfl⟩
 obtain ⟨hn1, hn64⟩ := XD (b := (bl : Int)) (by omega) hbl
 rw [hn] at hn1 hn64
 have KCt := ihq (fun W => Vcount (bl : Int) W (by omega) hbl)
 rw [<- hn1] at KCt
 have Hn := ihq hn
 clear hb hm hdef hr1 hb1 h hn hn1
 go_enter Tryz.func22, Tryz.ntmps22
 go_wp2_with fail
 refine KN.out.mono ?_
 rintro en w2 ⟨rfl, hi2, ht2⟩
 simp only at hi2 ⊢
 have KP := ihq (VreadPol g e1 b1 w2 hi2)
 obtain ⟨p, pb, pe, hp⟩ : ∃ p pb pe, yx b1 e1 = ⟨p, pb, pe⟩ := ⟨_, _, _, rfl⟩
 rw [hp] at KP Hdef
 simp only at KP Hdef
 have Ht2 := ihq ht2
 clear hi2 ht2 hp KN
 go_wp2_with fail
 refine KP.out.mono ?_
 rintro en w3 ⟨rfl, hi3, ht3⟩
 have KV := ihq (xi g pe pb zH w3 hi3 (by unfold zH; omega) (by unfold zH; omega))
 obtain ⟨ver, b4, e4, hv4⟩ : ∃ x y z, zM pb pe zH = (x, y, z) := ⟨_, _, _, rfl⟩
 rw [hv4] at KV Hdef
 unfold zH at KV
 simp only at KV Hdef
 have Ht3 := ihq (Ht2.out.trans ht3 (fun _ e => e) (fun _ _ e => e) (r := fun k => k = g))
 clear hi3 ht3 hv4 KP
 go_wp2_with fail
 refine KV.out.mono ?_
 rintro en w4 ⟨rfl, hi4, ht4⟩
 have hbd := fun W => QX W (bl : Int) p.re p.we p.li p.bu (ver : Int)
 obtain ⟨wz, w5, hwz, hst5, hb5, hr5⟩ := volb_new w4 (bl : Int) p.re p.we p.li p.bu (ver : Int) Sl.nil
 simp only [Sl.nil] at hst5 hr5
 obtain ⟨gv, hgv⟩ : ∃ gv, w4.heap.size = gv := ⟨_, rfl⟩
 rw [hgv] at hst5 hr5
 have Ht4 := ihq (Ht3.out.trans ht4 (fun _ e => e) (fun _ _ e => e) (r := fun k => k = g))
 have Ht5 := ihq (Ht4.out.trans (Turned.of_below hb5 (p := fun _ => False)) (fun _ e => e) (fun _ _ e => e.elim) (r := fun k => k = g))
 have Hi5 := ihq (hi4.below hb5)
 have Hr5 := ihq hr5
 have Hgv := ihq (show g < gv /\ w.heap.size < gv from by rw [<- hgv]; have h1 := Ht4.out.size; have h2 := Hb1.out.size; have h3 := (Array.getElem?_eq_some_iff.1 Hr1.out).1; omega)
 have Hgb := ihq (show gv < w5.heap.size from (Array.getElem?_eq_some_iff.1 hr5).1)
 have Hgw := ihq hgv
 clear hi4 ht4 hb5 hr5 KV
 have c0 : w5.cell? ⟨gv, 0, none⟩ = some (.int .i64 (bl : Int)) := zc Hr5.out 0
 go_wp2_with (go_at_call 60; refine (KCt.out _).mono ?_; rintro en w6 ⟨rfl, rfl⟩)
 have Hg1 := ihq (show g < w1.heap.size from Nat.lt_of_lt_of_le hgl Hb1.out.size)
 have Hgw1 := ihq (show w1.heap.size <= gv from by rw [<- hgv]; exact Ht4.out.size)
 clear hst5 hwz hbd hgv c0
 go_loopw [6, 17] (fun lv iv wr => ∃ (j : Nat) (Y : List Ck) (A' : Option Addr) (c' : Nat), j <= n /\ lv = .int .i64 (yT 0 (yO vo j b4 e4).1) /\ iv = .int .i64 (j : Int) /\ wr.heap[gv]? = some (.cells #[.int .i64 (bl : Int), .int .i64 p.re, .int .i64 p.we, .int .i64 p.li, .int .i64 p.bu, .int .i64 (ver : Int), .slice A' j c'] 54 (0, 0)) /\ wr.ownsRow w1.heap.size 82 5 (.slice A' j c') j (cksV Y) /\ Y.map Ck.dat = (yO vo j b4 e4).1 /\ (∀ k ∈ Y, CkOk wr k) /\ IsR wr g (yO vo j b4 e4).2.1 (yO vo j b4 e4).2.2 /\ Turned (fun k => k = g) w1 wr) (fun _ iv _ => n - (intOf iv).toNat)
 case atStart => exact ⟨0, [], none, 0, Nat.zero_le _, rfl, rfl, Hr5.out, World.ownsRow_nil _ _ _ _, rfl, fun k hk => (by cases hk), Hi5.out, Ht5.out⟩
 case round =>
  obtain ⟨j, Y, A', c', hjn, rfl, rfl, hrv, ho, hY, hk, hi, ht⟩ := hrel
  by_cases hj : j < n
  ·have j0 : (0 : Int) <= (j : Int) := by omega
   have j1 : (j : Int) < (n : Int) := by omega
   obtain ⟨l0, l1⟩ := YG vo j b4 e4
   obtain ⟨q, q1, q2, hq⟩ : ∃ x y z, yO vo j b4 e4 = (x, y, z) := ⟨_, _, _, rfl⟩
   obtain ⟨d, d1, d2, hd⟩ : ∃ x y z, zM q1 q2 zH = (x, y, z) := ⟨_, _, _, rfl⟩
   obtain ⟨ep, x1, x2, he⟩ : ∃ x y z, zM d1 d2 zH = (x, y, z) := ⟨_, _, _, rfl⟩
   obtain ⟨ms, y1, y2, hms⟩ : ∃ x y z, xn x1 x2 = (x, y, z) := ⟨_, _, _, rfl⟩
   obtain ⟨js, z1, z2, hjs⟩ : ∃ x y z, xn y1 y2 = (x, y, z) := ⟨_, _, _, rfl⟩
   have hdm := yD (bs := q1) (e := q2) (most := zH) (by unfold zH; omega)
   rw [hd] at hdm
   have hstep : yO vo (j + 1) b4 e4 = (q ++ [⟨yT 0 q + (d : Int), vo, (ep : Int), ms, js⟩], z1, z2) := by
    simp only [yO, rdCk, hq, hd, he, hms, hjs]
   rw [hq] at hY hi l0 l1 ⊢
   simp only at hY hi l0 l1 hdm ⊢
   obtain ⟨la, hla⟩ : ∃ la, yT 0 q = la := ⟨_, rfl⟩
   rw [hla] at l0 l1 hstep ⊢
   unfold zH at l1 hdm
   have s1 : -9223372036854775808 <= la + (d : Int) := by omega
   have s2 : la + (d : Int) <= 9223372036854775807 := by omega
   have KD := ihq (xi g q2 q1 zH wr hi (by unfold zH; omega) (by unfold zH; omega))
   rw [hd] at KD
   unfold zH at KD
   simp only at KD
   have Hms := ihq hms; have Hjs := ihq hjs; have Hstep := ihq hstep; have HY := ihq hY; have He := ihq he
   have Rv0 := ihq hrv; have O0 := ihq ho; have K0 := ihq hk; have T0 := ihq ht; have Hi0 := ihq hi
   clear hms hjs hstep hY he hd hq hla hrv ho hk ht hi l0 l1 hdm
   go_wp2_with fail
   refine KD.out.mono ?_
   rintro en V1 ⟨rfl, hi, ht⟩
   have Rv1 := ihq (ht.heap Rv0.out (fun e => by have := Hgv.out; omega)); have O1 := ihq (ze ht O0.out (fun b hb e => by have := (O0.out.lt b hb).1; have := Hg1.out; omega))
   have K1 := ihq (fun k hk => (K0.out k hk).turned ht Hi0.out.noIntR); have T1 := ihq (T0.out.trans ht (fun _ e => e) (fun _ _ e => e) (r := fun k => k = g)); have Hi1 := ihq hi
   clear hi ht KD
   go_upto_region 6 with fail
   have hbD := (Below.refl V1.heap.size V1).drew
   have Rv2 := ihq (za Rv1.out hbD); have O2 := ihq (zh O1.out hbD); have K2 := ihq (fun k hk => (K1.out k hk).below hbD); have Hi2 := ihq (Hi1.out.below hbD)
   have T2 := ihq (T1.out.trans (Turned.of_below hbD (p := fun _ => False)) (fun _ e => e) (fun _ _ e => e.elim) (r := fun k => k = g))
   have d62 : V1.drew.cell? ⟨gv, 6, none⟩ = some (.slice A' j c') /\ V1.drew.cell? ⟨gv, 0, none⟩ = some (.int .i64 (bl : Int)) := ⟨zc Rv2.out 6, zc Rv2.out 0⟩
   have KE := xi g d2 d1 zH V1.drew Hi2.out (by unfold zH; omega) (by unfold zH; omega)
   rw [He.out] at KE
   unfold zH at KE
   simp only at KE
   have KE := ihq KE
   clear hbD
   refine zU (S := (fun V => V.cell? ⟨gv, 6, none⟩ = some (.slice A' j c') /\ V.cell? ⟨gv, 0, none⟩ = some (.int .i64 (bl : Int)))) 14 (by kernel_rfl) ?_
   have hHeld := d62
   refine zi (i := 0) (v := ?vr1) rfl (by kernel_rfl) (fun _ _ _ h => h) (Or.inl ⟨by rfl, ?hyr1⟩) hHeld ?restr1
   case hyr1 => (intro w' hS; obtain ⟨s1, s2⟩ := hS; (try simp only [iq4, iq5, iq6]); go_simp; try with_reducible rfl)
   try simp only [Act.put, iq1, iq2, iq3, iq4, iq5, iq6]
   refine zi (i := 1) (v := ?vr2) rfl (by kernel_rfl) (fun _ _ _ h => h) (Or.inl ⟨by rfl, ?hyr2⟩) hHeld ?restr2
   case hyr2 => (intro w' hS; obtain ⟨s1, s2⟩ := hS; (try simp only [iq4, iq5, iq6]); go_simp; try with_reducible rfl)
   try simp only [Act.put, iq1, iq2, iq3, iq4, iq5, iq6]
   refine zi (i := 2) (v := ?vr3) rfl (by kernel_rfl) (fun _ _ _ h => h) (Or.inl ⟨by rfl, ?hyr3⟩) hHeld ?restr3
   case hyr3 => (intro w' hS; obtain ⟨s1, s2⟩ := hS; (try simp only [iq4, iq5, iq6]); go_simp; try with_reducible rfl)
   try simp only [Act.put, iq1, iq2, iq3, iq4, iq5, iq6]
   refine zi (i := 3) (v := ?vr4) rfl (by kernel_rfl) (fun _ _ _ h => h) (Or.inl ⟨by rfl, ?hyr4⟩) hHeld ?restr4
   case hyr4 => (intro w' hS; obtain ⟨s1, s2⟩ := hS; (try simp only [iq4, iq5, iq6]); go_simp; try with_reducible rfl)
   try simp only [Act.put, iq1, iq2, iq3, iq4, iq5, iq6]
   refine zi (i := 4) (v := ?vr5) rfl (by kernel_rfl) (fun _ _ _ h => h) (Or.inl ⟨by rfl, ?hyr5⟩) hHeld ?restr5
   case hyr5 => (intro w' hS; obtain ⟨s1, s2⟩ := hS; (try simp only [iq4, iq5, iq6]); go_simp; try with_reducible rfl)
   try simp only [Act.put, iq1, iq2, iq3, iq4, iq5, iq6]
   refine zi (i := 6) (v := ?vr6) rfl (by kernel_rfl) (fun _ _ _ h => h) (Or.inl ⟨by rfl, ?hyr6⟩) hHeld ?restr6
   case hyr6 => (intro w' hS; obtain ⟨s1, s2⟩ := hS; (try simp only [iq4, iq5, iq6]); go_simp; try with_reducible rfl)
   try simp only [Act.put, iq1, iq2, iq3, iq4, iq5, iq6]
   refine zi (i := 8) (v := ?vr7) rfl (by kernel_rfl) (fun _ _ _ h => h) (Or.inl ⟨by rfl, ?hyr7⟩) hHeld ?restr7
   case hyr7 => (intro w' hS; obtain ⟨s1, s2⟩ := hS; (try simp only [iq4, iq5, iq6]); go_simp; try with_reducible rfl)
   try simp only [Act.put, iq1, iq2, iq3, iq4, iq5, iq6]
   refine zn (i := 5) (by kernel_rfl) rfl (fun K hK => ?_)
   (try simp only [iq4, iq5, iq6])
   go_simp
   refine KE.out.mono ?_
   rintro en V3 ⟨rfl, hi, ht⟩
   have Rv3 := ihq (ht.heap Rv2.out (fun e => by have := Hgv.out; omega))
   have O3 := ihq (ze ht O2.out (fun b hb e => by have := (O2.out.lt b hb).1; have := Hg1.out; omega))
   have K3 := ihq (fun k hk => (K2.out k hk).turned ht Hi2.out.noIntR)
   have T3 := ihq (T2.out.trans ht (fun _ e => e) (fun _ _ e => e) (r := fun k => k = g))
   have Hi3 := ihq hi
   have d63 : V3.cell? ⟨gv, 6, none⟩ = some (.slice A' j c') /\ V3.cell? ⟨gv, 0, none⟩ = some (.int .i64 (bl : Int)) := ⟨zc Rv3.out 6, zc Rv3.out 0⟩
   have KL := Q0 g _ _ V3 hi
   unfold Yx at KL
   rw [Hms.out] at KL
   simp only at KL
   have KL := ihq KL
   clear hi ht
   refine hK.out _ _ (fun _ => d63) ?_
   clear hHeld
   have hHeld := d63
   clear hK K
   try simp only [Act.put, iq1, iq2, iq3, iq4, iq5, iq6]
   refine zn (i := 7) (by kernel_rfl) rfl (fun K hK => ?_)
   (try simp only [iq4, iq5, iq6])
   go_simp
   refine KL.out.mono ?_
   rintro en V4 ⟨A4, c4, rfl, own4, hi, ht⟩
   have Rv4 := ihq (ht.heap Rv3.out (fun e => by have := Hgv.out; omega))
   have O4 := ihq (ze ht O3.out (fun b hb e => by have := (O3.out.lt b hb).1; have := Hg1.out; omega))
   have K4 := ihq (fun k hk => (K3.out k hk).turned ht Hi3.out.noIntR)
   have T4 := ihq (T3.out.trans ht (fun _ e => e) (fun _ _ e => e) (r := fun k => k = g))
   have Hi4 := ihq hi
   have d64 : V4.cell? ⟨gv, 6, none⟩ = some (.slice A' j c') /\ V4.cell? ⟨gv, 0, none⟩ = some (.int .i64 (bl : Int)) := ⟨zc Rv4.out 6, zc Rv4.out 0⟩
   have M4 := ihq (zQ.own own4)
   have KM := Q0 g _ _ V4 hi
   unfold Yx at KM
   rw [Hjs.out] at KM
   simp only at KM
   have KM := ihq KM
   clear hi ht own4
   refine hK.out _ _ (fun _ => d64) ?_
   clear hHeld
   have hHeld := d64
   clear hK K
   try simp only [Act.put, iq1, iq2, iq3, iq4, iq5, iq6]
   refine zn (i := 9) (by kernel_rfl) rfl (fun K hK => ?_)
   (try simp only [iq4, iq5, iq6])
   go_simp
   refine KM.out.mono ?_
   rintro en V5 ⟨A5, c5, rfl, own5, hi, ht⟩
   have Rv5 := ihq (ht.heap Rv4.out (fun e => by have := Hgv.out; omega))
   have O5 := ihq (ze ht O4.out (fun b hb e => by have := (O4.out.lt b hb).1; have := Hg1.out; omega))
   have K5 := ihq (fun k hk => (K4.out k hk).turned ht Hi4.out.noIntR)
   have T5 := ihq (T4.out.trans ht (fun _ e => e) (fun _ _ e => e) (r := fun k => k = g))
   have Hi5 := ihq hi
   have d65 : V5.cell? ⟨gv, 6, none⟩ = some (.slice A' j c') /\ V5.cell? ⟨gv, 0, none⟩ = some (.int .i64 (bl : Int)) := ⟨zc Rv5.out 6, zc Rv5.out 0⟩
   have M5 := ihq (M4.out.turned ht Hi4.out.noIntR)
   have J5 := ihq (zQ.own own5)
   clear hi ht own5
   refine hK.out _ _ (fun _ => d65) ?_
   clear hHeld
   have hHeld := d65
   clear hK K
   try simp only [Act.put, iq1, iq2, iq3, iq4, iq5, iq6]
   refine zn (i := 10) (by kernel_rfl) rfl (fun K hK => ?_)
   (try simp only [iq4, iq5, iq6])
   have hbd := fun W => bdCk5_run W (la + (d : Int)) vo (ep : Int) A4 A5 ms.length c4 js.length c5
   go_simp
   refine hK.out _ _ (fun _ => d65) ?_
   clear hHeld
   have hHeld := d65
   clear hK K
   try simp only [Act.put, iq1, iq2, iq3, iq4, iq5, iq6]
   refine zn (i := 11) (by kernel_rfl) rfl (fun K hK => ?_)
   (try simp only [iq4, iq5, iq6])
   obtain ⟨V6, hV6⟩ : ∃ W, World.alloc V5 (.cells #[.int .i64 (la + (d : Int)), .int .i64 vo, .int .i64 (ep : Int), .slice A4 ms.length c4, .slice A5 js.length c5] 82) = W := ⟨_, rfl⟩
   have hb : Below V5.heap.size V5 V6 := by rw [<- hV6]; exact zg _ _
   have Hs6 := ihq (show Seen V6 (some ⟨V5.heap.size, 0, none⟩) #[.int .i64 (la + (d : Int)), .int .i64 vo, .int .i64 (ep : Int), .slice A4 ms.length c4, .slice A5 js.length c5].toList from by rw [<- hV6]; exact Seen.of_cells (heap_alloc_new _ _))
   have Rv6 := ihq (za Rv5.out hb)
   have O6 := ihq (zh O5.out hb)
   have K6 := ihq (fun k hk => (K5.out k hk).below hb)
   have T6 := ihq (T5.out.trans (Turned.of_below hb (p := fun _ => False)) (fun _ e => e) (fun _ _ e => e.elim) (r := fun k => k = g))
   have Hi6 := ihq (Hi5.out.below hb)
   have M6 := ihq (M5.out.below hb)
   have J6 := ihq (J5.out.below hb)
   skip
   have d66 : V6.cell? ⟨gv, 6, none⟩ = some (.slice A' j c') /\ V6.cell? ⟨gv, 0, none⟩ = some (.int .i64 (bl : Int)) := ⟨zc Rv6.out 6, zc Rv6.out 0⟩
   clear hb
   go_simp
   refine hK.out _ _ (fun _ => d66) ?_
   clear hHeld
   have hHeld := d66
   clear hK K
   try simp only [Act.put, iq1, iq2, iq3, iq4, iq5, iq6]
   refine zn (i := 12) (by kernel_rfl) rfl (fun K hK => ?_)
   (try simp only [iq4, iq5, iq6])
   refine zy (by rfl) ?_
   refine wp_appM (.tmp 24) (.tmp 34) _ (by rfl) 82 _ 5 72 Tryz.underlying30 yI (by rfl) (by omega) w1.heap.size A' j c' (cksV Y) (by rfl) O6.out V5.heap.size 0 1 1 #[.int .i64 (la + (d : Int)), .int .i64 vo, .int .i64 (ep : Int), .slice A4 ms.length c4, .slice A5 js.length c5].toList (by rfl) (by rfl) Hs6.out (by intro u hu; simp at hu; rcases hu with rfl | rfl | rfl | rfl | rfl <;> rfl) (by unfold maxLen; omega) (by omega) T6.out.size ?_
   intro A7 c7 V7 hown hg hbk
   have t7 : Turned (fun k => (Value.slice A' j c').ownBlock = some k) V6 V7 := Turned.of_grown hg (fun k e => e)
   have ng : ∀ k, (Value.slice A' j c').ownBlock = some k -> k ≠ gv := fun k hk e => by
      obtain ⟨cs', hc'⟩ := zD O6.out hk
      have := Rv6.out
      rw [<- e, hc'] at this; injection this with this; injection this with _ this; exact absurd this (by decide)
   have ngr : ∀ k, (Value.slice A' j c').ownBlock = some k -> k ≠ g := fun k hk e => by
      have := (O6.out.lt k hk).1; have := Hg1.out; omega
   have noI : NoT V6 3 (fun k => (Value.slice A' j c').ownBlock = some k) := fun k cs fr hk e => by
      obtain ⟨cs', hc'⟩ := zD O6.out hk
      rw [hc'] at e; injection e with e; injection e with _ e; exact absurd e (by decide)
   have Rv7 := ihq (t7.heap Rv6.out (fun e => ng gv e rfl))
   have O7 := ihq hown
   have K7 := ihq (fun k hk => (K6.out k hk).turned t7 noI)
   have M7 := ihq (M6.out.turned t7 noI)
   have J7 := ihq (J6.out.turned t7 noI)
   have Hi7 := ihq (Hi6.out.far t7 (fun k hk e => by have := (O6.out.lt k e).1; have := Hg1.out; omega))
   have T7 := ihq (T6.out.trans t7 (fun _ e => e) (fun k hl e => absurd (O6.out.lt k e).1 (by omega)) (r := fun k => k = g))
   have d67 : V7.cell? ⟨gv, 6, none⟩ = some (.slice A' j c') /\ V7.cell? ⟨gv, 0, none⟩ = some (.int .i64 (bl : Int)) := ⟨zc Rv7.out 6, zc Rv7.out 0⟩
   have z67 : V7.frozen? ⟨gv, 6, none⟩ = false := zt Rv7.out 6
   clear hown hg hbk t7 ng ngr noI
   refine hK.out _ _ (fun _ => d67) ?_
   clear hHeld
   have hHeld := d67
   clear hK K
   try simp only [Act.put, iq1, iq2, iq3, iq4, iq5, iq6]
   refine zn (i := 13) (by kernel_rfl) rfl (fun K hK => ?_)
   (try simp only [iq4, iq5, iq6])
   go_simp
   refine hK.out _ _ (fun _ => d67) ?_
   clear hHeld
   have hHeld := d67
   clear hK K
   try simp only [Act.put, iq1, iq2, iq3, iq4, iq5, iq6]
   refine zn (i := 14) (by kernel_rfl) rfl (fun K hK => ?_)
   (try simp only [iq4, iq5, iq6])
   have d6x := d67.1
   obtain ⟨V8, hV8⟩ : ∃ W, V7.setCell ⟨gv, 6, none⟩ (.slice A7 (j + 1) c7) = W := ⟨_, rfl⟩
   go_simp
   try rw [hV8]
   refine hK.out _ _ (fun h => (by cases h)) ?_
   clear hK K
   try simp only [Act.put, iq1, iq2, iq3, iq4, iq5, iq6]
   refine zu (by kernel_rfl) ?_ _
   go_wp2
   have Rv8 : V8.heap[gv]? = some (.cells #[.int .i64 (bl : Int), .int .i64 p.re, .int .i64 p.we, .int .i64 p.li, .int .i64 p.bu, .int .i64 (ver : Int), .slice A7 (j + 1) c7] 54 (0, 0)) := by rw [<- hV8]; exact zG Rv7.out 6 _
   have t8 : Turned (fun k => k = gv) V7 V8 := by rw [<- hV8]; exact (Turned.refl (fun k => k = gv) V7).setCell (b := ⟨gv, 6, none⟩) (fun _ => rfl) _
   have noV : ∀ T, T ≠ 54 -> NoT V7 T (fun k => k = gv) := fun T hT k cs fr hk e => by
    subst hk
    rw [Rv7.out] at e; injection e with e; injection e with _ e; exact hT e.symm
   go_roundw
   case rel =>
    refine ⟨j + 1, Y ++ [⟨la + (d : Int), vo, (ep : Int), ⟨A4, ms.length, c4⟩, ⟨A5, js.length, c5⟩, ms, js⟩], A7, c7, by omega, by rw [Hstep.out, ZW], by go_num, Rv8, ?_, by rw [Hstep.out, List.map_append, HY.out]; rfl, fun k hk => ?_, ?_, ?_⟩
    ·rw [xc, xC]
     exact ze t8 O7.out fun k hk e => by
      obtain ⟨cs', hc'⟩ := zD O7.out hk
      have := Rv7.out
      rw [<- e, hc'] at this; injection this with this; injection this with _ this; exact absurd this (by decide)
    ·rcases List.mem_append.1 hk with hk | hk
     ·exact (K7.out k hk).turned t8 (noV _ (by decide))
     ·rw [List.mem_singleton] at hk
      subst hk
      exact ⟨M7.out.turned t8 (noV _ (by decide)), J7.out.turned t8 (noV _ (by decide))⟩
    ·rw [Hstep.out]
     exact Hi7.out.far t8 (fun k hk e => by have := Hgv.out; omega)
    ·exact T7.out.trans t8 (fun _ e => e) (fun k hl e => absurd e (by have := Hgw1.out; omega)) (r := fun k => k = g)
   case measure => simp [intOf]; omega
  ·obtain rfl : j = n := by omega
   have j1 : ¬ (j : Int) < (j : Int) := by omega
   have hz := ht.heap Hr1.out (fun e => by omega)
   obtain ⟨w8, hst8, hr8, ht8⟩ := QB hz rfl (bl : Int) p.re p.we p.li p.bu (ver : Int) ⟨A', j, c'⟩
   have hld := ldVol_run (S := ⟨A', j, c'⟩) hrv
   simp only at hst8 hr8 hld
   have noV : ∀ T, T ≠ 54 -> NoT wr T (fun k => k = w.heap.size) := fun T hT k cs fr hk e => by
    subst hk
    rw [hz] at e; injection e with e; injection e with _ e; exact hT e.symm
   have own8 := ze ht8 ho fun k hk e => by
    obtain ⟨cs', hc'⟩ := zD ho hk
    rw [e, hz] at hc'; injection hc' with hc'; injection hc' with _ hc'; exact absurd hc' (by decide)
   have hlen : Y.length = j := by have := ho.1; rw [yt] at this; omega
   have HK := ihq (⟨hlen, (yw own8).1, (yw own8).2, yP.own own8, fun k hk' => (hk k hk').turned ht8 (noV _ (by decide))⟩ : KsT w8 ⟨A', j, c'⟩ Y)
   have HY := ihq hY; have Hr8 := ihq hr8
   have Hi8 := ihq (hi.far ht8 (fun k hk e => by omega))
   have HT := ihq (((Turned.of_below (p := fun k => k = g) Hb1.out).trans ht (fun _ e => e) (fun _ _ e => e) (r := fun k => k = g)).trans ht8 (fun _ e => e) (fun k hl e => absurd e (by omega)) (r := fun k => k = g))
   clear hrv ho hY hk hi ht hz hr8 ht8 noV own8 hlen
   go_wp2
   refine bodyPost_ret (results_cell_row rfl _ _ w.heap.size 54 _ (0, 0) _ rfl Hr8.out Tryz.underlying54 rfl Z9) rfl ?_
   unfold Qp
   rw [Hdef.out, Hn.out]
   exact ⟨⟨A', j, c'⟩, Y, rfl, HK.out, HY.out, Hi8.out, HT.out⟩
end Go.Proofs.YteebkolccbcehaaGreat
