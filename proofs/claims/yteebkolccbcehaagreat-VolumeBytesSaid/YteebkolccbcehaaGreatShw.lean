/-
  Contract of the laws' Shows: 0, where the document's state and a state of volumes go together. Conditions: both states in memory, right, and together.
-/
import Derived.Test.YteebkolccbcehaaGreatJW
import Derived.Test.YteebkolccbcehaaGreatRfAdm
import Derived.Test.YteebkolccbcehaaGreatJU
import Derived.Test.YteebkolccbcehaaGreatKC
import Derived.Deep.RegionHeld3
import Derived.Deep.DeepCutAuto
import Derived.StillTailTactics
set_option linter.all false
namespace Go.Proofs.YteebkolccbcehaaGreat
open Go.ChangeShapes Go.WideShapes Go.ChangeAt Go.RowKit
attribute [local irreducible] wpQuiet
attribute [local go_sem ↓] yX
attribute [local go_sem ↓] ldVk_eq
attribute [local go_sem ↓] stVk_eq
attribute [local go_sem ↓] yd
attribute [local go_sem ↓] yv
attribute [local go_sem ↓] yA
set_option maxRecDepth 100000 in
set_option maxHeartbeats 8000000 in
theorem Q3 (N : Int) (s : St) (f : Rf) (g : Nat) (w : World) (h : StAt w g s) (hf : RfOk w f) (hr : Rel s f.dat) (hg : yy N s) (hN : N <= 1000000) :
  Calls Tryz.prog 12 #[.pointer (some ⟨g, 0, none⟩), f.val] w fun e w' => e = .returned (.int .i64 0) /\ Below w.heap.size w w' := by
 unfold Rf.val
 obtain ⟨w1, hw1, hb1, hr1⟩ := yb w f
 have hlt0 : w.heap.size < w1.heap.size := (Array.getElem?_eq_some_iff.1 hr1).1
 have HF := ihq (hf.below hb1); have HS := ihq (h.below hb1); have Hg := ihq hg
 have Hfit := ihq (hg.fit (by omega)); have Hr := ihq hr; have Hb1 := ihq hb1; have Hlt := ihq hlt0
 have hvl : (yp s 64).length = f.v.n := (rel_vlen hr).trans ((List.length_map ..).trans hf.v.len)
 have hv64 : f.v.n <= 64 := by rw [<- hf.v.len]; exact hf.vl
 have hids : yZ (idsK (zX s 64)) = idsK f.dat.cs := rel_ids hr hg
 have hkl : (zo (idsK f.dat.cs)).length = f.k.n := by
  rw [zz]
  unfold idsK
  rw [List.length_map]
  exact (List.length_map ..).trans hf.k.len
 have hk4 : f.k.n <= 10000 := by rw [<- hf.k.len]; exact hf.kl
 have KV := ihq (fun V (hv : Below w1.heap.size w1 V) => Ql g s V (HS.out.below hv))
 have KC := ihq (fun V (hv : Below w1.heap.size w1 V) => VChunks g s V (HS.out.below hv) Hfit.out)
 have KS := ihq (fun V (hv : Below w1.heap.size w1 V) => Zk g s V (HS.out.below hv))
 rw [hids] at KC
 unfold Zd at KC
 rw [hkl] at KC
 rw [hvl] at KV
 have hsl : (zm s.pk).length <= 16 := xM s.pk 16
 obtain ⟨ns, hns⟩ : ∃ ns, (zm s.pk).length = ns := ⟨_, rfl⟩
 rw [hns] at KS hsl
 have Hns := ihq hns
 have hld0 := zR hr1
 have hpn : f.p.n = 16 := hf.pn
 have Hrow := ihq hr1
 obtain ⟨m, hm⟩ : ∃ m, f.v.n = m := ⟨_, rfl⟩
 obtain ⟨mk, hmk⟩ : ∃ mk, f.k.n = mk := ⟨_, rfl⟩
 rw [hpn, hm, hmk] at hw1 Hrow
 rw [hpn, hm, hmk]
 rw [hm] at KV hv64
 rw [hmk] at KC hk4
 have Hm := ihq hm; have Hmk := ihq hmk; have Hpn := ihq hpn
 have HR := ihq (fun V (hv : Below w1.heap.size w1 V) => (za Hrow.out hv))
 have e1 : ((m : Int) != (m : Int)) = false := by simp
 have e2 : ((mk : Int) != (mk : Int)) = false := by simp
 clear h hf hr hg hb1 hr1 hlt0 hvl hids hkl hns hpn hm hmk hld0
 go_enter Tryz.func12, Tryz.ntmps12
 go_wp2_with fail
 refine (KV.out _ (Below.refl _ _)).mono ?_
 rintro e w2 ⟨A1, c1, rfl, hown1, hb2⟩
 have Ho1 := ihq hown1; have Hb2 := ihq hb2
 clear hown1 hb2
 go_wp2_with fail
 refine (KC.out _ Hb2.out).mono ?_
 rintro e w3 ⟨A2, c2, rfl, hown2, hb3⟩
 have Ho2 := ihq hown2; have Hb3 := ihq (Hb2.out.trans (hb3.mono Hb2.out.size)); have Ho1 := ihq (zh Ho1.out hb3)
 clear hown2 hb3
 go_wp2_with fail
 refine (KS.out _ Hb3.out).mono ?_
 rintro e w4 ⟨A3, c3, rfl, hown3, hb4⟩
 have Ho3 := ihq hown3; have Hb4 := ihq (Hb3.out.trans (hb4.mono Hb3.out.size)); have Ho1 := ihq (zh Ho1.out hb4); have Ho2 := ihq (zh Ho2.out hb4)
 clear hown3 hb4
 have y1 : w4.cell? ⟨w.heap.size, 1, none⟩ = some (.slice f.v.A m f.v.c) := zc (HR.out w4 Hb4.out) 1
 have y2 : w4.cell? ⟨w.heap.size, 2, none⟩ = some (.slice f.k.A mk f.k.c) := zc (HR.out w4 Hb4.out) 2
 go_wp2
 clear y1 y2
 go_loopw [8] (fun iv wr => ∃ i : Nat, i <= m /\ iv = .int .i64 (i : Int) /\ Below w4.heap.size w4 wr) (fun iv _ => m - (intOf iv).toNat)
 case atStart => exact ⟨0, Nat.zero_le _, rfl, Below.refl _ _⟩
 case round =>
  obtain ⟨i, hin, rfl, hbi⟩ := hrel
  have Hbi := ihq hbi
  have Hbi1 := ihq (Hb4.out.trans (hbi.mono Hb4.out.size))
  clear hbi
  by_cases hi : i < m
  ·have i0 : (0 : Int) <= (i : Int) := by omega
   have i1 : (i : Int) < (m : Int) := by omega
   obtain ⟨v, hv⟩ : ∃ v, f.X[i]? = some v := ⟨_, List.getElem?_eq_getElem (by have := HF.out.v.len; have := Hm.out; omega)⟩
   obtain ⟨x, hx, hx64, hxb, hve⟩ := rel_vget Hr.out (i := i) (v := v.dat) (by show (f.X.map Vk.dat)[i]? = _; rw [List.getElem?_map, hv]; rfl)
   have hfw := HF.out.below Hbi1.out
   have hvi := List.mem_of_getElem? hv
   have hinp := hfw.v.inp v hvi
   have hok := hfw.v.ok v hvi
   obtain ⟨gv, ov, hA, hat⟩ := hfw.volAt hv
   obtain ⟨vid, vbl, vp, vver, vc, vids⟩ := v
   unfold Vk.dat rvOf at hve
   injection hve with q1 q2 q3 q4 q5
   simp only at q1 q2 q3 q4 q5 hinp hok
   subst q1 q2 q3 q4 q5
   have KVol := ihq (XG g s x wr (HS.out.below Hbi1.out) Hfit.out (by rw [XX hx64, decide_eq_true hxb]))
   obtain ⟨vv, hvv⟩ : ∃ vv, s.vs x = vv := ⟨_, rfl⟩
   rw [hvv] at KVol hinp hok
   have hids64 : (idsK vv.ks).length <= 64 := by
    have := (Hfit.out.vs x hx64).kl
    rw [hvv] at this
    unfold idsK
    rw [List.length_map]; exact this
   rcases ye (zh Ho1.out Hbi.out) with h0 | ⟨ga, oa, hA1, hc⟩
   ·have := congrArg List.length h0
    rw [zz, xI] at this
    have e := (List.getElem?_eq_some_iff.1 hx).1
    simp at this; rw [this] at e; simp at e
   subst hA1
   have d0 : wr.cell? ⟨ga, oa + i, none⟩ = some (.int .i64 (x : Int)) := hc i _ (by unfold zo toI; rw [List.getElem?_map, List.getElem?_map, hx]; rfl)
   have Hat := ihq (fun V hV => (hat V hV).1); have HA := ihq hA; have Hok := ihq hok
   rw [hvv] at Hat
   have Hinp := ihq hinp
   clear hv hx hxb hfw hvi hinp hok hA hat hc hvv
   go_wp2_with fail
   refine KVol.out.mono ?_
   rintro e w5 ⟨S, rfl, hown, hb5⟩
   obtain ⟨w6, w7, hw6, hst7, hb7, hr7⟩ := vk_new w5 ⟨(x : Int), vv.bl, vv.p, vv.ver, S, idsK vv.ks⟩
   simp only at hst7 hr7
   have Hb7 := ihq (hb5.trans (hb7.mono hb5.size)); have Hr7 := ihq hr7; have Hown7 := ihq (zh hown hb7)
   have Hlt5 := ihq (show w5.heap.size < w7.heap.size from (Array.getElem?_eq_some_iff.1 hr7).1)
   clear hown hb5 hb7 hr7
   go_upto_region 8 with fail
   have q0 : ∀ p : zO w7, p.v.cell? ⟨w.heap.size, 1, none⟩ = some (.slice (some ⟨gv, ov, none⟩) m f.v.c) := fun p => by
    have := zc (HR.out p.v (Hbi1.out.trans ((Hb7.out.trans (p.h.mono Hb7.out.size)).mono Hbi1.out.size))) 1
    rw [HA.out] at this
    exact this
   have q1 : ∀ p : zO w7, (ldVk (.pointer (some ⟨w5.heap.size, 0, none⟩))).run Tryz.prog p.v = .ok (.agg #[.int .i64 (x : Int), .int .i64 vv.bl, .int .i64 vv.p.re, .int .i64 vv.p.we, .int .i64 vv.p.li, .int .i64 vv.p.bu, .int .i64 vv.ver, .slice S.A S.n S.c]) p.v := fun p => ZR (v := ⟨(x : Int), vv.bl, vv.p, vv.ver, S, idsK vv.ks⟩) (VkAt.of_row (za Hr7.out p.h))
   have q2 : ∀ p : zO w7, (ldVk (.pointer (some ⟨gv, ov + i * 8, none⟩))).run Tryz.prog p.v = .ok (.agg #[.int .i64 (x : Int), .int .i64 vv.bl, .int .i64 vv.p.re, .int .i64 vv.p.we, .int .i64 vv.p.li, .int .i64 vv.p.bu, .int .i64 vv.ver, .slice vc.A vc.n vc.c]) p.v := fun p => ZR (Hat.out p.v (Hb7.out.trans (p.h.mono Hb7.out.size)))
   have KB := ihq (fun p : zO w7 => Calls.below_of (p := p) (VSameVolume (x : Int) vv.bl vv.ver vv.p S vc (idsK vv.ks) p.v Hinp.out (by have := Hown7.out.1; rw [zz] at this; omega) Hok.out.len (by have := Hown7.out.1; rw [zz] at this; unfold maxLen; omega) (ye (zh Hown7.out p.h)) ((Hok.out.below (Hb7.out.trans (p.h.mono Hb7.out.size))).see.1)))
   unfold voL at KB
   refine zB (by kernel_rfl) (by kernel_rfl) ?_
   repeat (quiet_step (fail))
   quiet_step (exact (KB.out _))
   repeat (quiet_step (fail))
   refine wpQuiet_nil ?_
   rintro w9 ⟨⟨w8, hb8⟩, e⟩
   have e3 : w8 = w9 := e.symm
   subst e3
   clear e q0 q1 q2
   have Hb8 := ihq (Hb7.out.trans (hb8.mono Hb7.out.size))
   clear hb8 KB
   go_wp2
   go_roundw
   case rel => exact ⟨i + 1, by omega, by go_num, Hbi.out.trans (Hb8.out.mono Hbi.out.size)⟩
   case measure => simp [intOf]; omega
  ·obtain rfl : i = m := by omega
   have i1 : ¬ (i : Int) < (i : Int) := by omega
   obtain ⟨wa, hwa⟩ : ∃ wa, wa = wr := ⟨_, rfl⟩
   subst hwa
   clear e1 KV KC KS
   have Ho2 := ihq (zh Ho2.out Hbi.out); have Ho3 := ihq (zh Ho3.out Hbi.out); have Hba := ihq Hbi1.out
   clear Ho1 Hbi Hbi1 Hb2 Hb3 Hb4
   go_wp2
   clear i1
   go_loopw [11] (fun iv wr => ∃ i : Nat, i <= mk /\ iv = .int .i64 (i : Int) /\ Below wa.heap.size wa wr) (fun iv _ => mk - (intOf iv).toNat)
   case atStart => exact ⟨0, Nat.zero_le _, rfl, Below.refl _ _⟩
   case round =>
    obtain ⟨j, hjn, rfl, hbi⟩ := hrel
    have Hbi := ihq hbi
    have Hbi1 := ihq (Hba.out.trans (hbi.mono Hba.out.size))
    clear hbi
    by_cases hj : j < mk
    ·have j0 : (0 : Int) <= (j : Int) := by omega
     have j1 : (j : Int) < (mk : Int) := by omega
     obtain ⟨k, hk⟩ : ∃ k, f.K[j]? = some k := ⟨_, List.getElem?_eq_getElem (by have := HF.out.k.len; have := Hmk.out; omega)⟩
     have hkc : f.dat.cs[j]? = some k.dat := by show (f.K.map Ck.dat)[j]? = _; rw [List.getElem?_map, hk]; rfl
     obtain ⟨ia, ja, hfd⟩ := rel_find Hr.out Hg.out (List.mem_of_getElem? hkc)
     have hfw := HF.out.below Hbi1.out
     have hki := List.mem_of_getElem? hk
     have hok := hfw.k.ok k hki
     obtain ⟨gk, ok, hA, _⟩ := hfw.k.get hk
     have Hat := ihq (fun V (hV : Below wr.heap.size wr V) => show CkAt V gk (ok + j * 5) k from by
      obtain ⟨g', o', a1, a2⟩ := (hfw.below hV).k.get hk
      rw [hA] at a1
      injection a1 with a1
      injection a1 with a3 a4 _
      subst a3; subst a4
      exact a2)
     have KCh := ihq (VChunk g s k.id wr (HS.out.below Hbi1.out) Hfit.out Hg.out.ord)
     rw [show k.dat.id = k.id from rfl] at hfd
     rw [hfd] at KCh
     rcases ye (zh Ho2.out Hbi.out) with h0 | ⟨ga, oa, hA2, hc⟩
     ·have e := (List.getElem?_eq_some_iff.1 hkc).1
      have e4 : idsK f.dat.cs = [] := by simpa [zo] using h0
      have e5 := congrArg List.length e4
      unfold idsK at e5
      rw [List.length_map] at e5
      simp at e5; rw [e5] at e; simp at e
     subst hA2
     have d0 : wr.cell? ⟨ga, oa + j, none⟩ = some (.int .i64 k.id) := hc j _ (by unfold zo idsK; rw [List.getElem?_map, List.getElem?_map, hkc]; rfl)
     have hml : k.ms.length <= 4 /\ k.js.length <= 4 := by
      obtain ⟨q, hq, hm⟩ := (Hr.out.cm k.dat).1 (List.mem_of_getElem? hkc)
      have := ((Hg.out.vs q hq).ks _ hm).len
      simp only [Ck.dat] at this
      omega
     have HA := ihq hA; have Hok := ihq hok
     clear hk hkc hfd hfw hki hok hA hc
     go_wp2_with fail
     refine KCh.out.mono ?_
     rintro e w5 ⟨r, hrd, rfl, hown, hb5⟩
     obtain ⟨w6, w7, hw6, hst7, hb7, hr7⟩ := yq w5 r
     obtain ⟨rid, rvo, rep, rm, rj, rms, rjs⟩ := r
     obtain ⟨kid, kvo, kep, km, kj, kms, kjs⟩ := k
     unfold Ck.dat at hrd
     simp only at hrd
     injection hrd with q1 q2 q3 q4 q5
     subst q1 q2 q3 q4 q5
     simp only at hst7 hr7 hml
     unfold ckA
     have Hb7 := ihq (hb5.trans (hb7.mono hb5.size)); have Hr7 := ihq hr7; have Hown7 := ihq (hown.below hb7)
     have Hlt5 := ihq (show w5.heap.size < w7.heap.size from (Array.getElem?_eq_some_iff.1 hr7).1)
     clear hown hb5 hb7 hr7
     go_upto_region 14 with fail
     have q0 : ∀ p : zO w7, p.v.cell? ⟨w.heap.size, 2, none⟩ = some (.slice (some ⟨gk, ok, none⟩) mk f.k.c) := fun p => by
      have := zc (HR.out p.v (Hbi1.out.trans ((Hb7.out.trans (p.h.mono Hb7.out.size)).mono Hbi1.out.size))) 2
      rw [HA.out] at this
      exact this
     have q1 : ∀ p : zO w7, (ldCk (.pointer (some ⟨w5.heap.size, 0, none⟩))).run Tryz.prog p.v = .ok (.agg #[.int .i64 rid, .int .i64 rvo, .int .i64 rep, .slice rm.A rm.n rm.c, .slice rj.A rj.n rj.c]) p.v := fun p => zC (k := ⟨rid, rvo, rep, rm, rj, rms, rjs⟩) (CkAt.of_row (za Hr7.out p.h))
     have q2 : ∀ p : zO w7, (ldCk (.pointer (some ⟨gk, ok + j * 5, none⟩))).run Tryz.prog p.v = .ok (.agg #[.int .i64 rid, .int .i64 rvo, .int .i64 rep, .slice km.A km.n km.c, .slice kj.A kj.n kj.c]) p.v := fun p => zC (Hat.out p.v (Hb7.out.trans (p.h.mono Hb7.out.size)))
     have KB := ihq (fun p : zO w7 => Calls.below_of (p := p) (VSameChunk rid rvo rep rm km rj kj rms rjs p.v (by have := Hown7.out.m.1; rw [zz] at this; simp only at this; omega) Hok.out.m.len (by have := Hown7.out.m.1; rw [zz] at this; unfold maxLen; simp only at this; omega) (ye (zh Hown7.out.m p.h)) (((Hok.out.below (Hb7.out.trans (p.h.mono Hb7.out.size))).m).see.1)
      (by have := Hown7.out.j.1; rw [zz] at this; simp only at this; omega) Hok.out.j.len (by have := Hown7.out.j.1; rw [zz] at this; unfold maxLen; simp only at this; omega) (ye (zh Hown7.out.j p.h)) (((Hok.out.below (Hb7.out.trans (p.h.mono Hb7.out.size))).j).see.1)))
     refine zB (by kernel_rfl) (by kernel_rfl) ?_
     repeat (quiet_step (fail))
     quiet_step (exact (KB.out _))
     repeat (quiet_step (fail))
     refine wpQuiet_nil ?_
     rintro w9 ⟨⟨w8, hb8⟩, e⟩
     have e3 : w8 = w9 := e.symm
     subst e3
     clear e q0 q1 q2
     have Hb8 := ihq (Hb7.out.trans (hb8.mono Hb7.out.size))
     clear hb8 KB
     go_wp2
     go_roundw
     case rel => exact ⟨j + 1, by omega, by go_num, Hbi.out.trans (Hb8.out.mono Hbi.out.size)⟩
     case measure => simp [intOf]; omega
    ·obtain rfl : j = mk := by omega
     have j1 : ¬ (j : Int) < (j : Int) := by omega
     obtain ⟨wb, hwb⟩ : ∃ wb, wb = wr := ⟨_, rfl⟩
     subst hwb
     have Ho3 := ihq (zh Ho3.out Hbi.out); have Hbb := ihq Hbi1.out
     clear Ho2 Hbi Hbi1 Hba e2
     go_wp2
     clear j1
     go_loopw [14, 15] (fun nv iv wr => ∃ t : Nat, t <= ns /\ nv = .int .i64 (t : Int) /\ iv = .int .i64 (t : Int) /\ Below wb.heap.size wb wr) (fun _ iv _ => ns - (intOf iv).toNat)
     case atStart => exact ⟨0, Nat.zero_le _, rfl, rfl, Below.refl _ _⟩
     case round =>
      obtain ⟨t, hin, rfl, rfl, hbi⟩ := hrel
      have Hbi := ihq hbi
      have Hbi1 := ihq (Hbb.out.trans (hbi.mono Hbb.out.size))
      clear hbi
      by_cases hi : t < ns
      ·have i0 : (0 : Int) <= (t : Int) := by omega
       have i1 : (t : Int) < (ns : Int) := by omega
       obtain ⟨x, hx⟩ : ∃ x, (zm s.pk)[t]? = some x := ⟨_, List.getElem?_eq_getElem (by have := Hns.out; omega)⟩
       have hxm := XJ (List.mem_of_getElem? hx)
       obtain ⟨d0, d1⟩ := Za s.pk hx
       obtain ⟨pv, hpv⟩ : ∃ pv, s.pk x = pv := ⟨_, rfl⟩
       have hpx : f.pk x = pv := by rw [<- hpv]; exact Hr.out.pk x hxm.1
       rw [hpv] at d1
       obtain ⟨gp, op, hAp, zp⟩ := (HF.out.below Hbi1.out).pick hxm.1
       rw [hpx] at zp
       rcases ye (zh Ho3.out Hbi.out) with h0 | ⟨ga, oa, hA3, hc⟩
       ·rw [h0] at d0; cases d0
       have D0 := hc _ _ d0
       have D1 := hc _ _ d1
       rw [<- Nat.add_assoc] at D1
       have z0 : wr.cell? ⟨w.heap.size, 0, none⟩ = some (.slice (some ⟨gp, op, none⟩) 16 f.p.c) := by
        have := zc (HR.out wr Hbi1.out) 0
        rw [hAp] at this
        exact this
       have hprev : 0 < t -> ∃ p y : Nat, (t : Int) - 1 = (p : Int) /\ p < ns /\ wr.cell? ⟨ga, oa + p * 2, none⟩ = some (.int .i64 (y : Int)) /\ y < x := fun hi0 => by
        obtain ⟨y, hy⟩ : ∃ y, (zm s.pk)[t - 1]? = some y := ⟨_, List.getElem?_eq_getElem (by have := Hns.out; omega)⟩
        exact ⟨t - 1, y, by omega, by omega, hc _ _ (Za s.pk hy).1, srv_rise s.pk (by omega) hy hx⟩
       subst hA3
       obtain ⟨hx16, hxp⟩ := hxm
       have x0 : (0 : Int) <= (x : Int) := by omega
       have x1 : (x : Int) < 16 := by omega
       have r1 : decide ((x : Int) < 0) = false := decide_eq_false (by omega)
       have r2 : decide ((15 : Int) < (x : Int)) = false := decide_eq_false (by omega)
       have r3 : (pv != pv) = false := by simp
       have D0' := ihq D0
       obtain ⟨ps, hps⟩ : ∃ ps, Z6 s (x : Int) = ps := ⟨_, rfl⟩
       have hpr : Zs f.dat (x : Int) = ps := by rw [<- hps]; exact Hr.out.pols Hg.out x
       have hpl : ps.length <= 64 := by rw [<- hps]; exact Xh s x 64
       have hpi : ∀ p ∈ ps, InP p := by rw [<- hps]; exact polsN_in Hfit.out x (Nat.le_refl _)
       have KP := ihq (fun V (hv : Below wr.heap.size wr V) => Y9 g s (x : Int) V ((HS.out.below Hbi1.out).below hv) Hfit.out)
       have KR := ihq (fun V (hv : Below wr.heap.size wr V) => Q4 f (x : Int) V ((HF.out.below Hbi1.out).below hv))
       unfold Rf.val at KR
       rw [Hpn.out, Hm.out, Hmk.out, hpr] at KR
       rw [hps] at KP
       obtain ⟨L, hL⟩ : ∃ L, ps.length = L := ⟨_, rfl⟩
       rw [hL] at KP KR hpl
       have HL := ihq hL; have Hpi := ihq hpi
       have Hc := ihq (fun V (hv : Below wr.heap.size wr V) => (⟨(hv.cell (p := ⟨ga, oa + t * 2, none⟩) (block_lt_of_cell D0'.out)).trans D0'.out, by
        have := zR (f := f) (by rw [Hpn.out, Hm.out, Hmk.out]; exact HR.out V (Hbi1.out.trans (hv.mono Hbi1.out.size)))
        rw [Hpn.out, Hm.out, Hmk.out] at this
        exact this⟩ : V.cell? ⟨ga, oa + t * 2, none⟩ = some (.int .i64 (x : Int)) /\ (ldRf (.pointer (some ⟨w.heap.size, 0, none⟩))).run Tryz.prog V = .ok (.agg #[.slice f.p.A 16 f.p.c, .slice f.v.A i f.v.c, .slice f.k.A j f.k.c, .int .i64 f.nx]) V))
       clear hx d0 d1 hpv hpx hAp hc hps hpr hpi hL hxp
       have hcs : (∃ p y : Nat, (t : Int) - 1 = (p : Int) /\ p < ns /\ wr.cell? ⟨ga, oa + p * 2, none⟩ = some (.int .i64 (y : Int)) /\ y < x /\ 0 < t) \/ ¬ 0 < t := by
        by_cases ht : 0 < t
        ·obtain ⟨p, y, a1, a2, a3, a4⟩ := hprev ht
         exact .inl ⟨p, y, a1, a2, a3, a4, ht⟩
        ·exact .inr ht
       clear hprev
       rcases hcs with ⟨p, y, hp1, hpn, hpc, hyx, ht⟩ | ht
       case' inl =>
        have r4 : decide ((0 : Int) < (t : Int)) = true := decide_eq_true (by omega)
        have r5 : decide ((x : Int) <= (y : Int)) = false := decide_eq_false (by omega)
        have r6 : decide (x <= y) = false := decide_eq_false (by omega)
        have r7 : ¬ x <= y := by omega
        have p0 : (0 : Int) <= (p : Int) := by omega
        have p1 : (p : Int) < (ns : Int) := by omega
        go_upto_region 20 with fail
        go_quiet (fail)
        clear r4 p0 p1 hp1 hpn hpc hyx ht
       case' inr =>
        have r4 : decide ((0 : Int) < (t : Int)) = false := decide_eq_false (by omega)
        go_upto_region 20 with fail
        go_quiet (fail)
        clear r4 ht
       all_goals (
        go_upto_region 22 with fail
        have Hb0 := ihq (yi (Below.refl wr.heap.size wr) (nq + 1))
        clear zp D0 D1 z0 r1 r2 r3 x0 x1
        go_region_held3 (fun V => V.cell? ⟨ga, oa + t * 2, none⟩ = some (.int .i64 (x : Int)) /\ (ldRf (.pointer (some ⟨w.heap.size, 0, none⟩))).run Tryz.prog V = .ok (.agg #[.slice f.p.A 16 f.p.c, .slice f.v.A i f.v.c, .slice f.k.A j f.k.c, .int .i64 f.nx]) V)
         (first | exact Hc.out _ Hb0.out | exact Hc.out _ Hb5.out | exact Hc.out _ Hb6.out)
         (first
          | (go_at_call 37; (with_reducible refine (KR.out _ Hb5.out).mono ?_); rintro e w6 ⟨A6, c6, rfl, hown6, hb6⟩; have Ho6 := ihq hown6; have Ho56 := ihq (zh Ho5.out hb6); have Hb6 := ihq (Hb5.out.trans (hb6.mono Hb5.out.size)); clear hown6 hb6)
          | (go_at_call 36; (with_reducible refine (KP.out _ Hb0.out).mono ?_); rintro e w5 ⟨A5, c5, rfl, hown5, hb5⟩; have Ho5 := ihq hown5; have Hb5 := ihq (Hb0.out.trans (hb5.mono Hb0.out.size)); clear hown5 hb5))
        have HP5 := ihq (YZ Ho56.out Hpi.out); have HP6 := ihq (YZ Ho6.out Hpi.out)
        have e4 : ((L : Int) != (L : Int)) = false := by simp
        go_wp2
        clear e4
        go_loopw [18] (fun iv wr => ∃ k : Nat, k <= L /\ iv = .int .i64 (k : Int) /\ Below w6.heap.size w6 wr) (fun iv _ => L - (intOf iv).toNat)
        case atStart => exact ⟨0, Nat.zero_le _, rfl, Below.refl _ _⟩
        case round =>
         obtain ⟨k, hkL, rfl, hbk⟩ := hrel
         have Hbk := ihq hbk
         clear hbk
         by_cases hk : k < L
         ·have k0 : (0 : Int) <= (k : Int) := by omega
          have k1 : (k : Int) < (L : Int) := by omega
          obtain ⟨g5, o5, p5, hA5, hq5, at5⟩ := (HP5.out.below Hbk.out).get (k := k) (by have := HL.out; omega)
          obtain ⟨g6, o6, p6, hA6, hq6, at6⟩ := (HP6.out.below Hbk.out).get (k := k) (by have := HL.out; omega)
          rw [hq5] at hq6
          injection hq6 with hq6
          subst hq6 hA5 hA6
          have l5 := fun n => zZ (at5.below (yi (Below.refl _ _) n))
          have l6 := fun n => zZ (at6.below (yi (Below.refl _ _) n))
          have hq : ∀ W, (binOp .neq 37 (.agg #[.int .i64 p5.re, .int .i64 p5.we, .int .i64 p5.li, .int .i64 p5.bu]) (.agg #[.int .i64 p5.re, .int .i64 p5.we, .int .i64 p5.li, .int .i64 p5.bu])).run Tryz.prog W = .ok (.bool false) W := fun W => by rw [neqPol_run p5 p5 W]; simp
          have hgd := fun a b W => XC .neq a b p5 p5 W
          clear hq5 at5 at6
          go_upto_region 28 with fail
          go_quiet (fail)
          go_wp2
          go_roundw
          case rel => exact ⟨k + 1, by omega, by go_num, yi Hbk.out _⟩
          case measure => simp [intOf]; omega
         ·obtain rfl : k = L := by omega
          have k1 : ¬ (k : Int) < (k : Int) := by omega
          go_wp2
          go_roundw
          case rel => exact ⟨t + 1, by omega, by go_num, by go_num, Hbi.out.trans ((Hb6.out.trans (Hbk.out.mono Hb6.out.size)).mono Hbi.out.size)⟩
          case measure => simp [intOf]; omega)
      ·obtain rfl : t = ns := by omega
       have i1 : ¬ (t : Int) < (t : Int) := by omega
       obtain ⟨wc, hwc⟩ : ∃ wc, wc = wr := ⟨_, rfl⟩
       subst hwc
       have Hbc := ihq Hbi1.out
       have hz0 : cntP s.pk 0 = 0 := rfl
       have hze : cntP s.pk 16 = t := Hns.out
       clear Ho3 Hbi Hbi1 Hbb
       go_wp2
       clear i1
       go_loopw [14, 19] (fun nv iv wr => ∃ (z : Nat) (q : Int), z <= 16 /\ nv = .int .i64 q /\ q = (t : Int) - (cntP s.pk z : Int) /\ iv = .int .i64 (z : Int) /\ Below wc.heap.size wc wr) (fun _ iv _ => 16 - (intOf iv).toNat)
       case atStart => exact ⟨0, (t : Int), by omega, rfl, by rw [hz0]; simp, rfl, Below.refl _ _⟩
       case round =>
        obtain ⟨z, q, hz16, rfl, hq, rfl, hbi⟩ := hrel
        have Hbi := ihq hbi
        have Hbi1 := ihq (Hbc.out.trans (hbi.mono Hbc.out.size))
        clear hbi
        have hcz := cntP_le s.pk z
        by_cases hz : z < 16
        ·have z0 : (0 : Int) <= (z : Int) := by omega
         have z1 : (z : Int) < 16 := by omega
         have q1 : -16 <= q := by omega
         have q2 : q <= 16 := by omega
         obtain ⟨gp, op, hAp, zp⟩ := (HF.out.below Hbi1.out).pick hz
         have hpx : f.pk z = s.pk z := Hr.out.pk z hz
         rw [hpx] at zp
         have z5 : wr.cell? ⟨w.heap.size, 0, none⟩ = some (.slice (some ⟨gp, op, none⟩) 16 f.p.c) := by
          have := zc (HR.out wr Hbi1.out) 0
          rw [hAp] at this
          exact this
         by_cases hp : 0 < s.pk z
         ·have hst := ihq (cntP_yes hp); have Hq := ihq hq
          clear hq hAp hpx
          go_wp2
          go_roundw
          case rel => exact ⟨z + 1, q - 1, by omega, rfl, by rw [hst.out, Hq.out]; omega, by go_num, Hbi.out⟩
          case measure => simp [intOf]; omega
         ·have hst := ihq (cntP_no hp); have Hq := ihq hq
          clear hq hAp hpx
          go_wp2
          go_roundw
          case rel => exact ⟨z + 1, q, by omega, rfl, by rw [hst.out]; exact Hq.out, by go_num, Hbi.out⟩
          case measure => simp [intOf]; omega
        ·obtain rfl : z = 16 := by omega
         have z1 : ¬ ((16 : Nat) : Int) < 16 := by omega
         obtain rfl : q = 0 := by rw [hq, hze]; omega
         clear hq hcz
         go_wp2
         go_ret
         exact ⟨rfl, Hb1.out.trans (Hbi1.out.mono Hb1.out.size)⟩
end Go.Proofs.YteebkolccbcehaaGreat
