/-
  Contract of dotterelref18's do: kind 4 where it goes through. Conditions: a state whose rows are its own, whose volume at hand has a chunk; a command of numbers that an int holds.
-/
import Derived.Test.YteebkolccbcehaaGreatRfDo9
set_option linter.all false
namespace Go.Proofs.YteebkolccbcehaaGreat
open Go.ChangeShapes Go.WideShapes Go.ChangeAt Go.RowKit
attribute [local irreducible] wpQuiet
theorem zQ.drop {w : World} {s : Sl} {us : List Int} (h : zQ w s us) {k : Nat} (hk : k <= s.n) : zQ w ⟨if s.c = k then s.A else Option.map (fun x => x.add k) s.A, s.n - k, s.c - k⟩ (us.drop k) := by
 refine ⟨by rw [List.length_drop, h.len], by have := h.cap; show s.n - k <= s.c - k; omega, by have := h.max; show s.c - k <= maxLen; omega, ?_⟩
 have e : zo (us.drop k) = (zo us).drop k := by simp [zo, List.map_drop]
 rw [e]
 show yP w _ (if s.c = k then s.A else Option.map (fun x => x.add k) s.A) _
 by_cases hl : (zo us).length <= k
 ·rw [List.drop_eq_nil_of_le hl]; exact yP.nil _ _ _
 ·have hne : ¬ s.c = k := by rw [zz] at hl; have := h.len; have := h.cap; omega
  rw [if_neg hne]
  obtain ⟨h1, h2⟩ := h.see
  rcases h2 with h2 | ⟨g, o, cs, fr, hA, hg⟩
  ·rw [h2] at hl; simp at hl
  ·rcases h1 with h1 | ⟨g', o', hA', hc⟩
   ·rw [h1] at hl; simp at hl
   ·rw [hA] at hA'
    injection hA' with hA'
    injection hA' with e1 e2
    subst e1; subst e2
    refine ⟨.inr ⟨g, o + k, by rw [hA]; simp [Addr.add_lit], fun j x hx => ?_⟩, .inr ⟨g, o + k, cs, fr, by rw [hA]; simp [Addr.add_lit], hg⟩⟩
    rw [List.getElem?_drop] at hx
    have := hc _ _ hx
    rwa [show o + k + j = o + (k + j) by omega]
theorem zQ.take {w : World} {s : Sl} {us : List Int} (h : zQ w s us) {k : Nat} (hk : k <= s.n) : zQ w ⟨s.A, k, s.c⟩ (us.take k) := by
 refine ⟨by rw [List.length_take, h.len]; simp only; omega, by have := h.cap; show k <= s.c; omega, h.max, ?_⟩
 have e : zo (us.take k) = (zo us).take k := by simp [zo, List.map_take]
 rw [e]
 exact h.see.take k
set_option maxRecDepth 100000 in
theorem do4_ready {f : Rf} {c : Cmd} {v : Vk} {kk : Ck} {B q gv g5 m' c1 keep : Nat} {A1 : Option Addr} {K' : List Ck} {w0 w w1 w2 w3 V1 V2 : World} (ho : xh B w0 w f) (hbw : Below w.heap.size w w3) (hsz : w.heap.size < w1.heap.size /\ w1.heap.size < w2.heap.size /\ w2.heap.size < w3.heap.size)
  (hs3 : w3.heap[w.heap.size]? = some (.cells #[.slice f.p.A f.p.n f.p.c, .slice f.v.A f.v.n f.v.c, .slice f.k.A f.k.n f.k.c, .int .i64 f.nx] 32 (0, 0)))
  (hc3 : w3.heap[w1.heap.size]? = some (.cells #[.int .i64 c.k, .int .i64 c.a, .int .i64 c.b, .int .i64 c.c, .int .i64 c.p.re, .int .i64 c.p.we, .int .i64 c.p.li, .int .i64 c.p.bu] 39 (0, 0))) (hr3 : w3.heap[w2.heap.size]? = some (.cells #[.slice none 0 0, .slice none 0 0, .slice none 0 0, .int .i64 0] 32 (0, 0)))
  (hX : f.X[q]? = some v) (hAv : f.v.A = some ⟨gv, 0, none⟩) (b31 : Below w3.heap.size w3 V1) (hg5 : w3.heap.size <= g5)
  (hv1 : V1.heap[g5]? = some (.cells #[.int .i64 v.id, .int .i64 v.bl, .int .i64 v.p.re, .int .i64 v.p.we, .int .i64 v.p.li, .int .i64 v.p.bu, .int .i64 v.ver, .slice v.c.A v.c.n v.c.c] 49 (0, 0)))
  (o1 : V1.ownsRow w3.heap.size 82 5 (.slice A1 m' c1) m' (cksV K')) (hm' : K'.length = m') (hK' : (f.K.filter fun k => !decide (k.id ∈ v.ids.drop keep)) = K') (e2 : V1.setCell ⟨w.heap.size, 2, none⟩ (.slice A1 m' c1) = V2)
  (hkeep : min (zx c.b).toNat v.ids.length = keep) (hkn : keep <= v.c.n) (n1 : 1 <= c.b) (n2 : c.b <= 512) (hcp : kk.ms.length <= 16)
  (hnd : ∀ k ∈ f.dat.cs, (k.ms ++ k.js).Nodup) (hkl : f.K.length <= 8000) (hnx : 0 <= f.nx /\ f.nx <= 1099511627776) (hl64 : v.ids.length <= 64) :
  ∃ V3 V4 V5, V2.setCell ⟨g5, 7, none⟩ (.slice v.c.A keep v.c.c) = V3 /\ V3.setCell ⟨g5, 1, none⟩ (.int .i64 c.b) = V4 /\ V2.cell? ⟨g5, 7, none⟩ = some (.slice v.c.A v.c.n v.c.c) /\ V2.frozen? ⟨g5, 7, none⟩ = false /\
   V3.cell? ⟨w1.heap.size, 2, none⟩ = some (.int .i64 c.b) /\ V3.cell? ⟨g5, 1, none⟩ = some (.int .i64 v.bl) /\ V3.frozen? ⟨g5, 1, none⟩ = false /\ V4.cell? ⟨w.heap.size, 1, none⟩ = some (.slice (some ⟨gv, 0, none⟩) f.v.n f.v.c) /\
   (ldVk (.pointer (some ⟨g5, 0, none⟩))).run Tryz.prog V4 = .ok (.agg #[.int .i64 v.id, .int .i64 c.b, .int .i64 v.p.re, .int .i64 v.p.we, .int .i64 v.p.li, .int .i64 v.p.bu, .int .i64 v.ver, .slice v.c.A keep v.c.c]) V4 /\
   (stVk (.pointer (some ⟨gv, q * 8, none⟩)) (.agg #[.int .i64 v.id, .int .i64 c.b, .int .i64 v.p.re, .int .i64 v.p.we, .int .i64 v.p.li, .int .i64 v.p.bu, .int .i64 v.ver, .slice v.c.A keep v.c.c])).run Tryz.prog V4 = .ok () V5 /\
   (ldRf (.pointer (some ⟨w.heap.size, 0, none⟩))).run Tryz.prog V5 = .ok (.agg #[.slice f.p.A f.p.n f.p.c, .slice f.v.A f.v.n f.v.c, .slice A1 m' c1, .int .i64 f.nx]) V5 /\ V5.heap[w2.heap.size]? = some (.cells #[.slice none 0 0, .slice none 0 0, .slice none 0 0, .int .i64 0] 32 (0, 0)) /\ Turned (RowB f) w V5 /\
   (∀ b, (Value.slice A1 m' c1).ownBlock = some b -> w3.heap.size <= b /\ b ≠ w2.heap.size) /\
   Calls Tryz.prog 52 #[.agg #[.slice f.p.A f.p.n f.p.c, .slice f.v.A f.v.n f.v.c, .slice A1 m' c1, .int .i64 f.nx], .int .i64 (q : Int), .int .i64 (kk.ms.length : Int)] V5
    (Xa { f with k := ⟨A1, m', c1⟩, K := K', X := f.X.set q { v with bl := c.b, c := ⟨v.c.A, keep, v.c.c⟩, ids := v.ids.take keep } }
     (Zu (cutR f.dat q v.dat keep c.b) q { v.dat with bl := c.b, ids := v.ids.take keep } kk.ms.length ((zx c.b).toNat - keep)) V5) := by
 obtain ⟨z1, z2, z3⟩ := hsz
 have h := ho.ok
 have hql := (List.getElem?_eq_some_iff.1 hX).1
 have sw := hbw.size
 have s31 := b31.size
 have l5 := (Array.getElem?_eq_some_iff.1 hv1).1
 obtain ⟨csw, hgw⟩ := zD ho.v (k := gv) (by rw [hAv]; rfl)
 have lgw := (ho.v.lt gv (by rw [hAv]; rfl)).2
 have bs1 := za hs3 b31
 have t12 : Turned (fun b => b = w.heap.size) V1 V2 := by rw [<- e2]; exact (Turned.refl (fun b => b = w.heap.size) V1).setCell (b := ⟨w.heap.size, 2, none⟩) (fun _ => rfl) _
 have bs2 : V2.heap[w.heap.size]? = some (.cells #[.slice f.p.A f.p.n f.p.c, .slice f.v.A f.v.n f.v.c, .slice A1 m' c1, .int .i64 f.nx] 32 (0, 0)) := by rw [<- e2]; exact zG bs1 2 _
 have bc2 := t12.heap (za hc3 b31) (by omega)
 have br2 := t12.heap (za hr3 b31) (by omega)
 have bv2 := t12.heap hv1 (by omega)
 have c7 := zc bv2 7
 simp at c7
 obtain ⟨V3, hV3⟩ : ∃ W, V2.setCell ⟨g5, 7, none⟩ (.slice v.c.A keep v.c.c) = W := ⟨_, rfl⟩
 have t23 : Turned (fun b => b = g5) V2 V3 := by rw [<- hV3]; exact (Turned.refl (fun b => b = g5) V2).setCell (b := ⟨g5, 7, none⟩) (fun _ => rfl) _
 have bv3 : V3.heap[g5]? = some (.cells #[.int .i64 v.id, .int .i64 v.bl, .int .i64 v.p.re, .int .i64 v.p.we, .int .i64 v.p.li, .int .i64 v.p.bu, .int .i64 v.ver, .slice v.c.A keep v.c.c] 49 (0, 0)) := by rw [<- hV3]; exact zG bv2 7 _
 obtain ⟨V4, hV4⟩ : ∃ W, V3.setCell ⟨g5, 1, none⟩ (.int .i64 c.b) = W := ⟨_, rfl⟩
 have t34 : Turned (fun b => b = g5) V3 V4 := by rw [<- hV4]; exact (Turned.refl (fun b => b = g5) V3).setCell (b := ⟨g5, 1, none⟩) (fun _ => rfl) _
 have bv4 : V4.heap[g5]? = some (.cells #[.int .i64 v.id, .int .i64 c.b, .int .i64 v.p.re, .int .i64 v.p.we, .int .i64 v.p.li, .int .i64 v.p.bu, .int .i64 v.ver, .slice v.c.A keep v.c.c] 49 (0, 0)) := by rw [<- hV4]; exact zG bv3 1 _
 have t24 : Turned (fun b => b = g5) V2 V4 := t23.trans t34 (fun _ e => e) (fun _ _ e => e)
 have bs4 := t24.heap bs2 (by omega)
 have bc3 := t23.heap bc2 (by omega)
 have br4 := t24.heap br2 (by omega)
 have c31 := zc bv3 1
 simp at c31
 have c41 := zc bs4 1
 simp only [hAv] at c41
 simp at c41
 have hb1 : Below w.heap.size w V1 := hbw.trans (b31.mono sw)
 have s12 := t12.size
 have s24 := t24.size
 have hb2 : Below w.heap.size w V2 := hb1.trans (t12.below (B := w.heap.size) (fun b e => by omega) hb1.size)
 have hb4 : Below w.heap.size w V4 := hb2.trans (t24.below (B := w.heap.size) (fun b e => by omega) hb2.size)
 have ov := zh ho.v hb4
 rw [hAv] at ov
 obtain ⟨V5, hst5, ho5, t45⟩ := vs_put ov hql { v with bl := c.b, c := ⟨v.c.A, keep, v.c.c⟩, ids := v.ids.take keep }
 have hgw4 := za hgw hb4
 have n45 : ∀ {T : TypeId}, T ≠ 49 -> NoT V4 T (fun b => b = gv) := fun {T} hT b cs fr hb e => by
  subst hb
  rw [hgw4] at e; injection e with e; injection e with _ e; exact hT e.symm
 have bs5 := t45.heap bs4 (by omega)
 have br5 := t45.heap br4 (by omega)
 have hld4 := ZR (VkAt.of_row (v := { v with bl := c.b, c := ⟨v.c.A, keep, v.c.c⟩, ids := v.ids.take keep }) bv4)
 have hvok := h.v.ok v (List.mem_of_getElem? hX)
 have o2 := ze t12 o1 (fun b e hb => by have := (o1.lt b e).1; omega)
 have o4 := ze t24 o2 (fun b e hb => by
  subst hb
  obtain ⟨cs', hx⟩ := zD o2 e
  rw [bv2] at hx; injection hx with hx; injection hx with _ hx; exact absurd hx (by decide))
 have o5 := ze t45 o4 (fun b e hb => by have := (o1.lt b e).1; omega)
 have ok : RfOk V5 { f with k := ⟨A1, m', c1⟩, K := K', X := f.X.set q { v with bl := c.b, c := ⟨v.c.A, keep, v.c.c⟩, ids := v.ids.take keep } } := by
  refine ⟨(h.p.below hb4).turned t45 (n45 (by decide)), ?_, ?_, ?_, ?_, h.pin⟩
  ·have := VsT.own ho5 (fun x hx => ?_) (fun x hx => ?_)
   ·refine ⟨this.len, this.cap, this.max, ?_, this.ok, this.inp⟩
    show yP V5 _ f.v.A _
    rw [hAv]; exact this.see
   ·rcases List.mem_or_eq_of_mem_set hx with hx | rfl
    ·exact ((h.v.ok x hx).below hb4).turned t45 (n45 (by decide))
    ·exact ((hvok.take hkn).below hb4).turned t45 (n45 (by decide))
   ·rcases List.mem_or_eq_of_mem_set hx with hx | rfl
    ·exact h.v.inp x hx
    ·exact h.v.inp v (List.mem_of_getElem? hX)
  ·rw [<- hm'] at o5 ⊢
   exact KsT.own o5 (fun k hk => ((h.k.ok k (by rw [<- hK'] at hk; exact (List.mem_filter.1 hk).1)).below hb4).turned t45 (n45 (by decide)))
  ·show (f.X.set q _).length <= 64
   rw [List.length_set]; exact h.vl
  ·show K'.length <= 10000
   have := List.length_filter_le (fun k : Ck => !decide (k.id ∈ v.ids.drop keep)) f.K
   rw [hK'] at this
   omega
 have hX5 : (f.X.set q { v with bl := c.b, c := ⟨v.c.A, keep, v.c.c⟩, ids := v.ids.take keep })[q]? = some { v with bl := c.b, c := ⟨v.c.A, keep, v.c.c⟩, ids := v.ids.take keep } := List.getElem?_set_self hql
 have hcb : 1 <= zx c.b /\ zx c.b <= 64 := by unfold zx; omega
 have hlk : (v.ids.take keep).length = keep := by rw [List.length_take]; omega
 have hcut : ({ f with k := ⟨A1, m', c1⟩, K := K', X := f.X.set q { v with bl := c.b, c := ⟨v.c.A, keep, v.c.c⟩, ids := v.ids.take keep } } : Rf).dat = cutR f.dat q v.dat keep c.b := by
  unfold Rf.dat cutR
  simp only [List.map_set]
  rw [<- hK']
  congr 1
  rw [List.filter_map]
  rfl
 have hnd5 : ∀ k ∈ (cutR f.dat q v.dat keep c.b).cs, (k.ms ++ k.js).Nodup := fun k hk => hnd k (List.mem_filter.1 hk).1
 have hKl := List.length_filter_le (fun k : Ck => !decide (k.id ∈ v.ids.drop keep)) f.K
 rw [hK'] at hKl
 have ho5' : V5.ownsRow B 49 8 (.slice f.v.A f.v.n f.v.c) f.v.n (vksV (f.X.set q { v with bl := c.b, c := ⟨v.c.A, keep, v.c.c⟩, ids := v.ids.take keep })) := by rw [hAv]; exact ho5
 have K : Calls Tryz.prog 52 #[.agg #[.slice f.p.A f.p.n f.p.c, .slice f.v.A f.v.n f.v.c, .slice A1 m' c1, .int .i64 f.nx], .int .i64 (q : Int), .int .i64 (kk.ms.length : Int)] V5 (Xa { f with k := ⟨A1, m', c1⟩, K := K', X := f.X.set q { v with bl := c.b, c := ⟨v.c.A, keep, v.c.c⟩, ids := v.ids.take keep } } (Zu ({ f with k := ⟨A1, m', c1⟩, K := K', X := f.X.set q { v with bl := c.b, c := ⟨v.c.A, keep, v.c.c⟩, ids := v.ids.take keep } } : Rf).dat q { v.dat with bl := c.b, ids := v.ids.take keep } kk.ms.length ((zx c.b).toNat - keep)) V5) := by
  by_cases hle : (zx c.b).toNat <= v.ids.length
  ·have hk : keep = (zx c.b).toNat := by omega
   refine Rfill _ q kk.ms.length _ B _ V5 ok ho5' hX5 (by rw [hcut]; exact hnd5) hcp (by show K'.length + _ <= 9000; omega) hnx ⟨by show 0 <= c.b; omega, n2⟩ (by show (v.ids.take keep).length + _ <= 64; omega) (fun n hn => by omega) ?_
   show c.b <= 8 * (((v.ids.take keep).length : Int) + _)
   rw [hlk]
   have : zx c.b = (c.b + 7) / 8 := rfl
   omega
  ·have hk : keep = v.ids.length := by omega
   have hm : (((v.ids.take keep).length : Nat) : Int) + ((((zx c.b).toNat - keep : Nat)) : Int) = zx c.b := by rw [hlk]; omega
   obtain ⟨m1, m2⟩ := count_lo n1 hm
   exact Rfill _ q kk.ms.length _ B _ V5 ok ho5' hX5 (by rw [hcut]; exact hnd5) hcp (by show K'.length + _ <= 9000; omega) hnx ⟨by show 0 <= c.b; omega, n2⟩ (by show (v.ids.take keep).length + _ <= 64; omega) m1 m2
 rw [hcut] at K
 refine ⟨V3, V4, V5, hV3, hV4, c7, zt bv2 7, zc bc3 2, c31, zt bv3 1, c41, hld4, hst5, zR (f := { f with k := ⟨A1, m', c1⟩ }) bs5, br5, (Turned.of_below (p := RowB f) hb4).trans t45 (fun _ e => e) (fun b _ e => .inr (.inl (by rw [hAv, e]; rfl))), fun b e => ⟨(o1.lt b e).1, by have := (o1.lt b e).1; omega⟩, K⟩
attribute [local go_sem ↓] yX y9 yd yv yK yA ldVk_eq stVk_eq
set_option maxRecDepth 100000 in
set_option maxHeartbeats 2000000 in
theorem Rdo_4yes (f : Rf) (c : Cmd) (q B j : Nat) (v : Vk) (kk : Ck) (i0 : Int) (il : List Int) (w0 w : World) (ho : xh B w0 w f) (hc : yj c) (hk : c.k = 4) (n1 : 1 <= c.b) (n2 : c.b <= 512) (hv : yS f.dat.vs c.a = some q) (hX : f.X[q]? = some v)
  (hids : v.ids = i0 :: il) (hj : chIx f.dat.cs i0 = some j) (hkk : f.K[j]? = some kk) (hnd : ∀ k ∈ f.dat.cs, (k.ms ++ k.js).Nodup) (hkl : f.K.length <= 8000) (hnx : 0 <= f.nx /\ f.nx <= 1099511627776) (hl64 : v.ids.length <= 64) (hcp : kk.ms.length <= 16) :
  Calls Tryz.prog 17 #[f.val, cmdA c] w (yg f (Zu (cutR f.dat q v.dat (min (zx c.b).toNat v.ids.length) c.b) q { v.dat with bl := c.b, ids := v.ids.take (min (zx c.b).toNat v.ids.length) } kk.ms.length ((zx c.b).toNat - min (zx c.b).toNat v.ids.length)) 0 w) := by
 have h := ho.ok
 unfold Rf.val cmdA
 obtain ⟨w1, hw1, hb1, hr1⟩ := yb w f
 obtain ⟨w2, hw2, hb2, hr2⟩ := zN w1 c
 obtain ⟨w3, hw3⟩ : ∃ w3, w2.alloc (.cells #[.slice none 0 0, .slice none 0 0, .slice none 0 0, .int .i64 0] 32) = w3 := ⟨_, rfl⟩
 have hb3 : Below w2.heap.size w2 w3 := by rw [<- hw3]; exact zg _ _
 have hr3 : w3.heap[w2.heap.size]? = some (.cells #[.slice none 0 0, .slice none 0 0, .slice none 0 0, .int .i64 0] 32 (0, 0)) := by rw [<- hw3]; exact heap_alloc_new _ _
 have hb12 : Below w.heap.size w w2 := hb1.trans (hb2.mono hb1.size)
 have hbw : Below w.heap.size w w3 := hb12.trans (hb3.mono hb12.size)
 have h1 := za (za hr1 hb2) hb3
 have h2 := za hr2 hb3
 have Hr3 := ihq hr3; have Hbw := ihq hbw; have HW := ihq h
 have Hsz := ihq (show w.heap.size < w1.heap.size /\ w1.heap.size < w2.heap.size /\ w2.heap.size < w3.heap.size from ⟨(Array.getElem?_eq_some_iff.1 hr1).1, (Array.getElem?_eq_some_iff.1 hr2).1, (Array.getElem?_eq_some_iff.1 hr3).1⟩)
 have F := ihq (fun V (hv : Below w3.heap.size w3 V) => (zK.of (za h1 hv) (za h2 hv) : zK w w1 f c V))
 have H3 := ihq (h.below hbw)
 have K1 := ihq (RVol f c.a w3 (h.below hbw))
 unfold Rf.val at K1
 obtain ⟨s0, s1, s2, s3, sl, c0, c1, c2, c3⟩ := F.out w3 (Below.refl _ _)
 rw [hv] at K1
 simp only [ixV] at K1
 have hq0 : ¬ (q : Int) < 0 := by omega
 have hqn := (List.getElem?_eq_some_iff.1 hX).1
 have hvl := h.v.len
 have hq1 : (q : Int) < (f.v.n : Int) := by omega
 have hq2 : (0 : Int) <= (q : Int) := by omega
 have a1 : ¬ c.b < 1 := by omega
 have a2 : ¬ 512 < c.b := by omega
 have HO := ihq ho; have HX := ihq hX; have Hids := ihq hids; have Hkk := ihq hkk; have Hnd := ihq hnd; have Hkl := ihq hkl; have Hnx := ihq hnx; have Hl64 := ihq hl64; have Hcp := ihq hcp
 have Hs3 := ihq h1; have Hc3 := ihq h2
 obtain ⟨gv, hAv⟩ : ∃ g, f.v.A = some ⟨g, 0, none⟩ := by
  rcases ho.v.2 with ⟨e, e2⟩ | ⟨g, cap, cur, e, _⟩
  ·have : f.v.n = 0 := e2; omega
  ·injection e with e _ _; exact ⟨g, e⟩
 have HAv := ihq hAv
 have HVk := ihq (fun V (hb : Below w3.heap.size w3 V) => show VkAt V gv (q * 8) v from by
  obtain ⟨g', o', e1, e2⟩ := (H3.out.below hb).v.get hX
  rw [hAv] at e1
  injection e1 with e1
  injection e1 with e3 e4 _
  subst e3; subst e4
  simpa using e2)
 have hvok := H3.out.v.ok v (List.mem_of_getElem? hX)
 have hvn := hvok.len
 have hvc := hvok.cap
 have hn1 : 1 <= v.c.n := by rw [<- hvn, hids]; simp
 have hn64 : v.c.n <= 64 := by omega
 obtain ⟨gi, oi, hAi, hci⟩ : ∃ g o, v.c.A = some ⟨g, o, none⟩ /\ ∀ V, Below w3.heap.size w3 V -> V.cell? ⟨g, o, none⟩ = some (.int .i64 i0) := by
  rcases hvok.see.1 with h0 | ⟨g, o, hA, hcs⟩
  ·have := congrArg List.length h0
   rw [zz, hvn] at this
   simp at this; omega
  ·refine ⟨g, o, hA, fun V hb => ?_⟩
   have := hcs 0 (.int .i64 i0) (by rw [hids]; rfl)
   rw [Nat.add_zero] at this
   exact (hb.cell (block_lt_of_cell this)).trans this
 have HAi := ihq hAi; have Hci := ihq hci
 have HIv := ihq (fun V (hb : Below w3.heap.size w3 V) => hvok.below hb)
 have Hvn := ihq hvn
 obtain ⟨gk, ok, hAk, _⟩ := h.k.get hkk
 have HCk := ihq (fun V (hb : Below w3.heap.size w3 V) => show CkAt V gk (ok + j * 5) kk from by
  obtain ⟨g', o', e1, e2⟩ := (H3.out.below hb).k.get hkk
  rw [hAk] at e1
  injection e1 with e1
  injection e1 with e3 e4 _
  subst e3; subst e4
  exact e2)
 have HAk := ihq hAk
 have hj1 : (j : Int) < (f.k.n : Int) := by have := (List.getElem?_eq_some_iff.1 hkk).1; have := h.k.len; omega
 have hj2 : (0 : Int) <= (j : Int) := by omega
 have hkm : kk.m.n = kk.ms.length := ((H3.out.k.ok kk (List.mem_of_getElem? hkk)).m.len).symm
 have Hkm := ihq hkm
 have KJ := ihq (fun V (hb : Below w3.heap.size w3 V) => (show Calls Tryz.prog 54 #[.agg #[.slice f.p.A f.p.n f.p.c, .slice f.v.A f.v.n f.v.c, .slice f.k.A f.k.n f.k.c, .int .i64 f.nx], .int .i64 i0] V fun e w' => e = .returned (.int .i64 (j : Int)) /\ Below V.heap.size V w' from by
  have := xR f i0 V (H3.out.below hb)
  rw [hj] at this
  exact this))
 have hn0 : 0 < v.c.n := by omega
 have hk1 : (c.k == 1) = false := by simp; omega
 have hk2 : (c.k == 2) = false := by simp; omega
 have hk3 : (c.k == 3) = false := by simp; omega
 have hk4 : (c.k == 4) = true := by simpa using hk
 clear hk hv hX hids hj hkk hnd hkl hnx hl64 hcp hAv hvok hvn hAi hci hAk hkm hqn hvl ho
 clear h hb1 hb2 hb3 hb12 hbw hr1 hr2 hr3 h1 h2
 go_enter Tryz.func17, Tryz.ntmps17
 go_upto_region 33 with ((go_at_call 49; refine K1.out.mono ?_; rintro e w4 ⟨rfl, hb4⟩; have Hb4 := ihq hb4; obtain ⟨ds0, ds1, ds2, ds3, dsl, dc0, dc1, dc2, dc3⟩ := F.out w4 hb4; rw [HAv.out] at ds1; have hldv := ZR (HVk.out w4 hb4); obtain ⟨wz, w5, hwz, hstv, hb5, hr5⟩ := vk_new w4 v; have Hb5 := ihq (hb4.trans (hb5.mono hb4.size)); have Hr5 := ihq hr5; have Hg5 := ihq hb4.size; clear hb5 hr5; clear hb4))
 obtain ⟨g5, hg5⟩ : ∃ g, w4.heap.size = g := ⟨_, rfl⟩
 rw [hg5] at Hr5 Hg5 ⊢
 have Hg5e := ihq hg5
 have q0 : ∀ p : zO w5, (ldRf (.pointer (some ⟨w.heap.size, 0, none⟩))).run Tryz.prog p.v = .ok (.agg #[.slice f.p.A f.p.n f.p.c, .slice f.v.A f.v.n f.v.c, .slice f.k.A f.k.n f.k.c, .int .i64 f.nx]) p.v := fun p => (F.out p.v (Hb5.out.trans (p.h.mono Hb5.out.size))).sl
 have q1 : ∀ p : zO w5, p.v.cell? ⟨w.heap.size, 2, none⟩ = some (.slice (some ⟨gk, ok, none⟩) f.k.n f.k.c) := fun p => by
  have := (F.out p.v (Hb5.out.trans (p.h.mono Hb5.out.size))).s2
  rw [HAk.out] at this
  exact this
 have q2 : ∀ p : zO w5, p.v.cell? ⟨g5, 7, none⟩ = some (.slice (some ⟨gi, oi, none⟩) v.c.n v.c.c) := fun p => by
  have := zc (za Hr5.out p.h) 7
  simp only [HAi.out] at this
  simpa using this
 have q3 : ∀ p : zO w5, p.v.cell? ⟨gi, oi, none⟩ = some (.int .i64 i0) := fun p => Hci.out p.v (Hb5.out.trans (p.h.mono Hb5.out.size))
 have q4 : ∀ p : zO w5, p.v.cell? ⟨gk, ok + j * 5 + 3, none⟩ = some (.slice kk.m.A kk.m.n kk.m.c) := fun p => (HCk.out p.v (Hb5.out.trans (p.h.mono Hb5.out.size))).c3
 have KB := ihq (fun p : zO w5 => Calls.below_of (KJ.out p.v (Hb5.out.trans (p.h.mono Hb5.out.size))))
 clear hg5 hwz hstv hldv
 refine zB (by kernel_rfl) (by kernel_rfl) ?_
 repeat (quiet_step (fail))
 quiet_step (exact (KB.out _))
 repeat (quiet_step (fail))
 refine wpQuiet_nil ?_
 rintro w8 ⟨⟨w6, hb6⟩, e⟩
 have e2 : w6 = w8 := e.symm
 subst e2
 clear e q0 q1 q2 q3 q4
 have Hb6 := ihq (Hb5.out.trans (hb6.mono Hb5.out.size))
 have Hr6 := ihq (za Hr5.out hb6)
 clear hb6
 obtain ⟨ys0, ys1, ys2, ys3, ysl, yc0, yc1, yc2, yc3⟩ := F.out w6 Hb6.out
 have y7 := zc Hr6.out 7
 simp at y7
 obtain ⟨keep, hkeep⟩ : ∃ k : Nat, min (zx c.b).toNat v.ids.length = k := ⟨_, rfl⟩
 have hcb : 1 <= zx c.b /\ zx c.b <= 64 := by unfold zx; omega
 have hmin : min ((c.b + 7) / 8) (v.c.n : Int) = (keep : Int) := by
  have : zx c.b = (c.b + 7) / 8 := rfl
  have := Hvn.out
  omega
 go_upto_region 35 with fail
 have HB0 := ihq (Below.refl w6.heap.size w6).drew
 have HS := ihq (fun V (hv : Below w6.heap.size w6 V) => (⟨(F.out V (Hb6.out.trans (hv.mono Hb6.out.size))).s2, (by have := zc (za Hr6.out hv) 7; simpa using this)⟩ : V.cell? ⟨w.heap.size, 2, none⟩ = some (.slice f.k.A f.k.n f.k.c) /\ V.cell? ⟨g5, 7, none⟩ = some (.slice v.c.A v.c.n v.c.c)))
 have hkn : keep <= v.c.n := by have := Hvn.out; omega
 have hk0 : (0 : Int) <= (keep : Int) := by omega
 have hk1 : (keep : Int) <= (v.c.n : Int) := by omega
 have hk2 : (v.c.n : Int) <= (v.c.c : Int) := by omega
 have hk3 : (keep : Int) <= (v.c.c : Int) := by omega
 have KO := ihq (fun V (hv : Below w3.heap.size w3 V) => Rout f.k ⟨if v.c.c = keep then v.c.A else Option.map (fun x => x.add keep) v.c.A, v.c.n - keep, v.c.c - keep⟩ f.K (v.ids.drop keep) V ((H3.out.below hv).k) ((HIv.out V hv).drop hkn) HW.out.kl)
 obtain ⟨K', hK'⟩ : ∃ K', (f.K.filter fun k => !decide (k.id ∈ v.ids.drop keep)) = K' := ⟨_, rfl⟩
 rw [hK'] at KO
 obtain ⟨m', hm'⟩ : ∃ m, K'.length = m := ⟨_, rfl⟩
 rw [hm'] at KO
 have HK' := ihq hK'; have Hm' := ihq hm'; have Hkeep := ihq hkeep; have Hmin := ihq hmin
 clear hK' hm' hkeep hmin
 refine zU (S := (fun V => V.cell? ⟨w.heap.size, 2, none⟩ = some (.slice f.k.A f.k.n f.k.c) /\ V.cell? ⟨g5, 7, none⟩ = some (.slice v.c.A v.c.n v.c.c))) 8 (by kernel_rfl) ?_
 have hHeld := (HS.out _ HB0.out)
 refine zi (i := 0) (v := ?vr1) rfl (by kernel_rfl) (fun _ _ _ h => h) (Or.inl ⟨by rfl, ?hyr1⟩) hHeld ?restr1
 case hyr1 => (intro w' hS; obtain ⟨s1, s2⟩ := hS; (try simp only [iq4, iq5, iq6]); go_simp; try with_reducible rfl)
 try simp only [Act.put, iq1, iq2, iq3, iq4, iq5, iq6]
 refine zi (i := 1) (v := ?vr2) rfl (by kernel_rfl) (fun _ _ _ h => h) (Or.inl ⟨by rfl, ?hyr2⟩) hHeld ?restr2
 case hyr2 => (intro w' hS; obtain ⟨s1, s2⟩ := hS; (try simp only [iq4, iq5, iq6]); go_simp; try with_reducible rfl)
 try simp only [Act.put, iq1, iq2, iq3, iq4, iq5, iq6]
 refine zi (i := 2) (v := ?vr3) rfl (by kernel_rfl) (fun _ _ _ h => h) (Or.inl ⟨by rfl, ?hyr3⟩) hHeld ?restr3
 case hyr3 => (intro w' hS; obtain ⟨s1, s2⟩ := hS; (try simp only [iq4, iq5, iq6]); go_simp; try with_reducible rfl)
 try simp only [Act.put, iq1, iq2, iq3, iq4, iq5, iq6]
 refine zi (i := 3) (v := ?vr4) rfl (by kernel_rfl) (fun _ _ _ h => h) (Or.inl ⟨by rfl, ?hyr4⟩) hHeld ?restr4
 case hyr4 => (intro w' hS; obtain ⟨s1, s2⟩ := hS; (try simp only [iq4, iq5, iq6]); go_simp; try with_reducible rfl)
 try simp only [Act.put, iq1, iq2, iq3, iq4, iq5, iq6]
 refine zi (i := 4) (v := ?vr5) rfl (by kernel_rfl) (fun _ _ _ h => h) (Or.inl ⟨by rfl, ?hyr5⟩) hHeld ?restr5
 case hyr5 => (intro w' hS; obtain ⟨s1, s2⟩ := hS; (try simp only [iq4, iq5, iq6]); go_simp; try with_reducible rfl)
 try simp only [Act.put, iq1, iq2, iq3, iq4, iq5, iq6]
 refine zi (i := 5) (v := ?vr6) rfl (by kernel_rfl) (fun _ _ _ h => h) (Or.inl ⟨by rfl, ?hyr6⟩) hHeld ?restr6
 case hyr6 => (intro w' hS; obtain ⟨s1, s2⟩ := hS; (try simp only [iq4, iq5, iq6]); go_simp; try with_reducible rfl)
 try simp only [Act.put, iq1, iq2, iq3, iq4, iq5, iq6]
 refine zn (i := 6) (by kernel_rfl) rfl (fun K hK => ?_)
 (try simp only [iq4, iq5, iq6])
 go_simp
 refine (KO.out _ (Hb6.out.trans (HB0.out.mono Hb6.out.size))).mono ?_
 rintro e V1 ⟨A1, c1, rfl, hown, hb⟩
 have O1 := ihq hown
 have HB1 := ihq (HB0.out.trans (hb.mono HB0.out.size))
 clear hown hb
 refine hK.out _ _ (fun _ => (HS.out _ HB1.out)) ?_
 clear hHeld
 have hHeld := (HS.out _ HB1.out)
 clear hK K
 try simp only [Act.put, iq1, iq2, iq3, iq4, iq5, iq6]
 refine zn (i := 7) (by kernel_rfl) rfl (fun K hK => ?_)
 (try simp only [iq4, iq5, iq6])
 go_simp
 refine hK.out _ _ (fun _ => (HS.out _ HB1.out)) ?_
 clear hHeld
 have hHeld := (HS.out _ HB1.out)
 clear hK K
 try simp only [Act.put, iq1, iq2, iq3, iq4, iq5, iq6]
 refine zn (i := 8) (by kernel_rfl) rfl (fun K hK => ?_)
 (try simp only [iq4, iq5, iq6])
 have bs1 := za (za Hs3.out Hb6.out) HB1.out
 have z1 := zt bs1 2
 have p1 := zc bs1 2
 obtain ⟨V2, hV2⟩ : ∃ W, V1.setCell ⟨w.heap.size, 2, none⟩ (.slice A1 m' c1) = W := ⟨_, rfl⟩
 have bs2 : V2.heap[w.heap.size]? = some (.cells #[.slice f.p.A f.p.n f.p.c, .slice f.v.A f.v.n f.v.c, .slice A1 m' c1, .int .i64 f.nx] 32 (0, 0)) := by rw [<- hV2]; exact zG bs1 2 _
 have T12 := ihq (show Turned (fun b => b = w.heap.size) V1 V2 from (by rw [<- hV2]; exact (Turned.refl (fun b => b = w.heap.size) V1).setCell (b := ⟨w.heap.size, 2, none⟩) (fun _ => rfl) _))
 have Bs2 := ihq bs2
 clear bs1 bs2
 go_simp
 refine hK.out _ _ (fun h => (by cases h)) ?_
 clear hK K
 try simp only [Act.put, iq1, iq2, iq3, iq4, iq5, iq6]
 refine zu (by kernel_rfl) ?_ _
 obtain ⟨V3, V4, V5, hV3, hV4, x1, x2, x3, x4, x5, x6, x7, x8, x9, x10, x11, x12, x13⟩ := do4_ready (kk := kk) HO.out Hbw.out Hsz.out Hs3.out Hc3.out Hr3.out HX.out HAv.out (Hb6.out.trans (HB1.out.mono Hb6.out.size)) Hg5.out (za Hr6.out HB1.out) (zY O1.out (by have := Hb6.out.size; have := HB0.out.size; omega)) Hm'.out HK'.out hV2 Hkeep.out hkn n1 n2 Hcp.out Hnd.out Hkl.out Hnx.out Hl64.out
 have X10 := ihq x10; have X11 := ihq x11; have X12 := ihq x12; have X13 := ihq x13
 have hkm := Hkm.out
 clear x10 x11 x12 x13 hkm
 obtain ⟨R, hR⟩ : ∃ R, Zu (cutR f.dat q v.dat keep c.b) q { v.dat with bl := c.b, ids := v.ids.take keep } kk.ms.length ((zx c.b).toNat - keep) = R := ⟨_, rfl⟩
 rw [hR] at X13
 rw [<- Hkm.out] at X13
 have HR := ihq hR
 clear hR
 go_wp2_with (go_at_call 52; refine X13.out.mono ?_; rintro e V6 ⟨f2, rfl, hd2, hok2, ht2⟩; obtain ⟨s1', s2'⟩ := Hsz.out; have hb7 := ht2.heap X10.out (fun e => by rcases e with e | e | e; exact absurd (HO.out.p.lt _ e).2 (by omega); exact absurd (HO.out.v.lt _ e).2 (by omega); exact (X12.out _ e).2 rfl); obtain ⟨w9, hst, hr9, ht9⟩ := zk hb7 rfl f2.p f2.v f2.k f2.nx; have hst2 : (stRf (.pointer (some ⟨w2.heap.size, 0, none⟩)) f2.val).run Tryz.prog V6 = .ok () w9 := hst; have Hb7 := ihq hb7; have Hr9 := ihq hr9; have Ht9 := ihq ht9; have Hd2 := ihq hd2; have Hok2 := ihq hok2; have Ht2 := ihq ht2; clear hb7 hr9 ht9 hd2 hok2 ht2 s1' s2')
 all_goals
  refine bodyPost_ret (v := .tuple #[.agg #[.slice f2.p.A f2.p.n f2.p.c, .slice f2.v.A f2.v.n f2.v.c, .slice f2.k.A f2.k.n f2.k.c, .int .i64 f2.nx], .int .i64 0]) (zj rfl _ _ w2.heap.size 32 #[.slice f2.p.A f2.p.n f2.p.c, .slice f2.v.A f2.v.n f2.v.c, .slice f2.k.A f2.k.n f2.k.c, .int .i64 f2.nx] (0, 0) _ (.int .i64 0) rfl rfl Hr9.out Tryz.underlying32 rfl zw) rfl ?_
  have sz := Hsz.out
  have sw := Hbw.out.size
  refine ⟨f2, rfl, Hd2.out.trans (by rw [<- HR.out, Hkeep.out]), Hok2.out.turnedSt ⟨_, Hb7.out⟩ Ht9.out, (X11.out.trans Ht2.out (fun _ e => e) (fun b hb e => ?_)).trans Ht9.out (fun _ e => e) (fun b hl e => absurd e (by omega))⟩
  rcases e with e | e | e
  ·exact .inl e
  ·exact .inr (.inl e)
  ·have := (X12.out b e).1; omega
end Go.Proofs.YteebkolccbcehaaGreat
