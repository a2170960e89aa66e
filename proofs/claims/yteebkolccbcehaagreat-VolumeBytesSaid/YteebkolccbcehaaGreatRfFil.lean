/-
  Contract of dotterelref18's fill: the chunks that a volume lacks. Conditions: a state that can be read, whose volumes lie in a row of one's own; bounds.
-/
import Derived.Test.YteebkolccbcehaaGreatJU
import Derived.Deep.LoopGhost
set_option linter.all false
namespace Go.Proofs.YteebkolccbcehaaGreat
open Go.ChangeShapes Go.WideShapes Go.ChangeAt Go.RowKit
theorem fil_first {w w1 w2 w3 W1 W2 : World} {c2 : Nat} {A2 : Option Addr} {f : Rf} {v : Vk} (copies : Nat) (h : RfOk w f) (hb3 : Below w.heap.size w w3) (hs : w.heap.size < w1.heap.size /\ w1.heap.size < w2.heap.size /\ w2.heap.size < w3.heap.size)
  (bs : w3.heap[w.heap.size]? = some (.cells #[.slice f.p.A f.p.n f.p.c, .slice f.v.A f.v.n f.v.c, .slice f.k.A f.k.n f.k.c, .int .i64 f.nx] 32 (0, 0)))
  (br : w3.heap[w1.heap.size]? = some (.cells #[.slice none 0 0, .slice none 0 0, .slice none 0 0, .int .i64 0] 32 (0, 0)))
  (bv : w3.heap[w2.heap.size]? = some (.cells #[.int .i64 v.id, .int .i64 v.bl, .int .i64 v.p.re, .int .i64 v.p.we, .int .i64 v.p.li, .int .i64 v.p.bu, .int .i64 v.ver, .slice v.c.A v.c.n v.c.c] 49 (0, 0)))
  (hl : v.ids.length = v.c.n) (hbW : Below w3.heap.size w3 W1) (ho1 : W1.ownsRow w3.heap.size 3 1 (.slice (some ⟨w3.heap.size, 0, none⟩) 0 0) 0 [])
  (ho2 : W2.ownsRow w3.heap.size 3 1 (.slice A2 v.c.n c2) v.c.n (zo v.ids)) (hg : W1.grownBy W2 (Value.slice (some ⟨w3.heap.size, 0, none⟩) 0 0).ownBlock)
  (hk : ∀ k, (Value.slice A2 v.c.n c2).ownBlock = some k -> (Value.slice (some ⟨w3.heap.size, 0, none⟩) 0 0).ownBlock = some k \/ k = W1.heap.size) :
  W2.cell? ⟨w2.heap.size, 7, none⟩ = some (.slice v.c.A v.c.n v.c.c) /\ W2.frozen? ⟨w2.heap.size, 7, none⟩ = false /\
   FilR w (W2.setCell ⟨w2.heap.size, 7, none⟩ (.slice A2 v.c.n c2)) w.heap.size w1.heap.size w2.heap.size f v copies 0 ⟨A2, v.c.n, c2⟩ f.k f.K := by
 obtain ⟨h1, h2, h3⟩ := hs
 have t12 : Turned (fun b => (Value.slice (some ⟨w3.heap.size, 0, none⟩) 0 0).ownBlock = some b) W1 W2 := Turned.of_grown hg (fun k e => e)
 have no : ∀ b, b < w3.heap.size -> ¬ (Value.slice (some ⟨w3.heap.size, 0, none⟩) 0 0).ownBlock = some b := fun b hb e => by
  have e1 : w3.heap.size = b := Option.some.inj e
  omega
 have bs2 := t12.heap (za bs hbW) (no _ (by omega))
 have br2 := t12.heap (za br hbW) (no _ (by omega))
 have bv2 := t12.heap (za bv hbW) (no _ (by omega))
 have c7 := zc bv2 7
 simp at c7
 refine ⟨c7, zt bv2 7, ?_⟩
 obtain ⟨W3, hW3⟩ : ∃ W, W2.setCell ⟨w2.heap.size, 7, none⟩ (.slice A2 v.c.n c2) = W := ⟨_, rfl⟩
 have bv3 := zG bv2 7 (.slice A2 v.c.n c2)
 rw [hW3] at bv3 ⊢
 have t3 : Turned (fun b => b = w2.heap.size) W2 W3 := by rw [<- hW3]; exact (Turned.refl (fun b => b = w2.heap.size) W2).setCell (b := ⟨w2.heap.size, 7, none⟩) (fun _ => rfl) _
 have bs3 := t3.heap bs2 (by omega)
 have br3 := t3.heap br2 (by omega)
 have o3 := ze t3 ho2 (fun k e hk => by have := (ho2.lt k e).1; omega)
 have b2 : Below w.heap.size w W2 := (hb3.trans (hbW.mono hb3.size)).trans (t12.below (B := w.heap.size) (fun k e => by have := (ho1.lt k e).1; have := hb3.size; omega) (by have := hb3.size; have := hbW.size; omega))
 have b3 : Below w.heap.size w W3 := b2.trans (t3.below (B := w.heap.size) (fun k e => by omega) b2.size)
 have o4 := zY o3 hb3.size
 rw [<- hl] at o4 bv3 ⊢
 exact FilR.start copies h b3 (Nat.le_refl _) (by omega) bs3 br3 bv3 o4
theorem fil_mid {w wr V6 V7 V8 : World} {gs gr gv copies n k6 c6 : Nat} {A6 : Option Addr} {f : Rf} {v : Vk} {L Kn : Sl} {X : List Ck} (h : FilR w wr gs gr gv f v copies n L Kn X) (b6 : Below wr.heap.size wr V6)
  (e7 : V6.setCell ⟨gs, 2, none⟩ (.slice A6 k6 c6) = V7) (e8 : V7.alloc (.cells #[.int .i64 (f.nx + n)] 3) = V8) :
  V7.cell? ⟨gv, 7, none⟩ = some (.slice L.A L.n L.c) /\ V7.cell? ⟨gs, 3, none⟩ = some (.int .i64 (f.nx + n)) /\ V8.ownsRow w.heap.size 3 1 (.slice L.A L.n L.c) L.n (zo (v.ids ++ idsK (fnK f v copies n))) /\
   Seen V8 (some ⟨V7.heap.size, 0, none⟩) [.int .i64 (f.nx + n)] /\ w.heap.size <= V8.heap.size /\
   ∀ V9 A9 c9, V8.grownBy V9 (Value.slice L.A L.n L.c).ownBlock -> V9.cell? ⟨gv, 7, none⟩ = some (.slice L.A L.n L.c) /\ V9.frozen? ⟨gv, 7, none⟩ = false /\
    (V9.setCell ⟨gv, 7, none⟩ (.slice A9 (L.n + 1) c9)).cell? ⟨gs, 3, none⟩ = some (.int .i64 (f.nx + n)) /\ (V9.setCell ⟨gv, 7, none⟩ (.slice A9 (L.n + 1) c9)).frozen? ⟨gs, 3, none⟩ = false := by
 have nL : ∀ {b : Nat} {cs : Array Value} {T : TypeId} {fr : Nat × Nat}, wr.heap[b]? = some (.cells cs T fr) -> T ≠ 3 -> ¬ (Value.slice L.A L.n L.c).ownBlock = some b := fun {b cs T fr} hb hT e => by
  obtain ⟨cs', h1⟩ := zD h.own e
  rw [hb] at h1
  injection h1 with h1
  injection h1 with _ h1
  exact hT h1
 have gsv : gs ≠ gv := fun e => by
  have h1 := h.bs
  rw [e, h.bv] at h1
  injection h1 with h1
  injection h1 with _ h1
  exact absurd h1 (by decide)
 have bs6 := za h.bs b6
 have bs7 := zG bs6 2 (.slice A6 k6 c6)
 rw [e7] at bs7
 have t67s : Turned (fun b => b = gs) V6 V7 := by rw [<- e7]; exact (Turned.refl (fun b => b = gs) V6).setCell (b := ⟨gs, 2, none⟩) (fun _ => rfl) _
 have bv7 := t67s.heap (za h.bv b6) (fun e => gsv e.symm)
 have b78 : Below V7.heap.size V7 V8 := by rw [<- e8]; exact zg _ _
 have c7 := zc bv7 7
 have c3 := zc bs7 3
 simp at c7 c3
 have oL6 := zh h.own b6
 have oL7 := ze t67s oL6 (fun k e hk => by
  subst hk
  exact nL h.bs (by decide) e)
 have s1 := h.bel.size
 have s2 := b6.size
 have s3 := t67s.size
 have s4 := b78.size
 refine ⟨c7, c3, zh oL7 b78, by rw [<- e8]; exact Seen.of_cells (heap_alloc_new V7 _), by omega, fun V9 A9 c9 g9 => ?_⟩
 have t79 : Turned (fun b => (Value.slice L.A L.n L.c).ownBlock = some b) V7 V9 := (Turned.of_below (p := fun b => (Value.slice L.A L.n L.c).ownBlock = some b) b78).trans (Turned.of_grown g9 fun k e => e) (fun _ e => e) (fun _ _ e => e)
 have bs9 := t79.heap bs7 (nL h.bs (by decide))
 have bv9 := t79.heap bv7 (nL h.bv (by decide))
 have c97 := zc bv9 7
 simp at c97
 have t910v : Turned (fun b => b = gv) V9 (V9.setCell ⟨gv, 7, none⟩ (.slice A9 (L.n + 1) c9)) := (Turned.refl (fun b => b = gv) V9).setCell (b := ⟨gv, 7, none⟩) (fun _ => rfl) _
 have bs10 := t910v.heap bs9 gsv
 have c103 := zc bs10 3
 simp at c103
 exact ⟨c97, zt bv9 7, c103, zt bs10 3⟩
attribute [local go_sem ↓] yX y9 ldVk_eq stVk_eq bdCk_eq
set_option maxRecDepth 100000 in
set_option maxHeartbeats 4000000 in
theorem Rfill (f : Rf) (q copies m B : Nat) (v : Vk) (w : World) (h : RfOk w f) (hv : w.ownsRow B 49 8 (.slice f.v.A f.v.n f.v.c) f.v.n (vksV f.X)) (hq : f.X[q]? = some v)
  (hnd : ∀ k ∈ f.dat.cs, (k.ms ++ k.js).Nodup) (hcp : copies <= 16) (hkl : f.K.length + m <= 9000) (hnx : 0 <= f.nx /\ f.nx <= 1099511627776) (hbl : 0 <= v.bl /\ v.bl <= 512) (hl0 : v.ids.length + m <= 64)
  (hm1 : ∀ n, n < m -> 8 * ((v.ids.length : Int) + (n : Int)) < v.bl) (hm2 : v.bl <= 8 * ((v.ids.length : Int) + (m : Int))) :
  Calls Tryz.prog 52 #[f.val, .int .i64 (q : Int), .int .i64 (copies : Int)] w (Xa f (Zu f.dat q v.dat copies m) w) := by
 unfold Rf.val
 obtain ⟨w1, hw1, hb1, hr1⟩ := yb w f
 obtain ⟨w2, hw2⟩ : ∃ w2, w1.alloc (.cells #[.slice none 0 0, .slice none 0 0, .slice none 0 0, .int .i64 0] 32) = w2 := ⟨_, rfl⟩
 have hb2 : Below w1.heap.size w1 w2 := by rw [<- hw2]; exact zg _ _
 have hr2 : w2.heap[w1.heap.size]? = some (.cells #[.slice none 0 0, .slice none 0 0, .slice none 0 0, .int .i64 0] 32 (0, 0)) := by rw [<- hw2]; exact heap_alloc_new _ _
 have hb12 : Below w.heap.size w w2 := hb1.trans (hb2.mono hb1.size)
 obtain ⟨gw, hA⟩ : ∃ g, f.v.A = some ⟨g, 0, none⟩ := by
  rcases hv.2 with ⟨e, e2⟩ | ⟨g, cap, cur, e, _⟩
  ·have := (List.getElem?_eq_some_iff.1 hq).1; have := h.v.len; omega
  ·injection e with e _ _; exact ⟨g, e⟩
 have hr12 := za hr1 hb2
 have s1 := zc hr12 1
 simp only [hA] at s1
 simp at s1
 obtain ⟨g0, o0, e0, hat⟩ := (h.v.below hb12).get hq
 rw [hA] at e0
 injection e0 with e0
 injection e0 with e1 e2
 subst e1; subst e2
 simp only [Nat.zero_add] at hat
 have hld := ZR hat
 obtain ⟨wz, w3, hwz, hst, hb3, hr3⟩ := vk_new w2 v
 have hq1 : (q : Int) < (f.v.n : Int) := by have := (List.getElem?_eq_some_iff.1 hq).1; have := h.v.len; omega
 have hq2 : (0 : Int) <= (q : Int) := by omega
 have Hb3 := ihq (hb12.trans (hb3.mono hb12.size)); have Hr3 := ihq hr3
 have Hr33 := ihq (za hr12 hb3); have Hr23 := ihq (za hr2 hb3)
 have Hsz := ihq (show w.heap.size < w1.heap.size /\ w1.heap.size < w2.heap.size /\ w2.heap.size < w3.heap.size from ⟨(Array.getElem?_eq_some_iff.1 hr1).1, (Array.getElem?_eq_some_iff.1 hr2).1, (Array.getElem?_eq_some_iff.1 hr3).1⟩)
 have H := ihq h; have Hv := ihq hv; have Hq := ihq hq; have Hnd := ihq hnd; have HA := ihq hA
 have Hm1 := ihq hm1; have Hm2 := ihq hm2; have Hnx := ihq hnx; have Hkl := ihq hkl
 obtain ⟨hbl0, hbl1⟩ := hbl
 have hvok := (h.v.below hb12).ok v (List.mem_of_getElem? hq)
 have Hvs := ihq ((hvok.below hb3).see.1)
 have hvl := hvok.len
 have Hvl := ihq hvl
 have hvn : v.c.n <= 64 := by omega
 obtain ⟨W1, hW1⟩ : ∃ W1, w3.alloc (.cells #[] 3) = W1 := ⟨_, rfl⟩
 have hbW : Below w3.heap.size w3 W1 := by rw [<- hW1]; exact zg _ _
 have Ho1 := ihq (show W1.ownsRow w3.heap.size 3 1 (.slice (some ⟨w3.heap.size, 0, none⟩) 0 0) 0 [] by rw [<- hW1]; exact yk _ _ (Nat.le_refl _))
 have HbW := ihq hbW
 have hc7 := zc (za hr3 hbW) 7
 simp at hc7
 have Hvs := ihq (((hvok.below hb3).see.1).below hbW)
 have Hvn := ihq (show (zo v.ids).length = v.c.n by rw [zz]; exact hvl)
 clear h hv hq hnd hA hm1 hm2 hnx hkl hb1 hr1 hb2 hr2 hb12 hr12 hat hb3 hr3 hvok hvl hbW
 go_enter Tryz.func52, Tryz.ntmps52
 go_wp2_with (at_builtin; refine ym rfl (.tmp 13) (.tmp 15) _ rfl 3 _ 8 Tryz.underlying28 zP rfl w3.heap.size (some ⟨w3.heap.size, 0, none⟩) 0 0 [] rfl Ho1.out v.c.A v.c.n v.c.c (zo v.ids) rfl Hvn.out Hvs.out (yf _) (by unfold maxLen; omega) (by omega) HbW.out.size ?_; intro A2 c2 W2 hown2 hg2 hbk2; simp only [Nat.zero_add, List.nil_append] at hown2 hbk2 ⊢; obtain ⟨c7, z7, FS⟩ := fil_first copies H.out Hb3.out Hsz.out Hr33.out Hr23.out Hr3.out Hvl.out HbW.out Ho1.out hown2 hg2 hbk2; have FS := ihq FS; obtain ⟨W3, hW3⟩ : ∃ W, W2.setCell ⟨w2.heap.size, 7, none⟩ (.slice A2 v.c.n c2) = W := ⟨_, rfl⟩; rw [hW3] at FS; clear hown2 hg2 hbk2)
 have lgs := Hsz.out
 obtain ⟨gs, hgs⟩ : ∃ g, w.heap.size = g := ⟨_, rfl⟩
 obtain ⟨gr, hgr⟩ : ∃ g, w1.heap.size = g := ⟨_, rfl⟩
 obtain ⟨gv, hgv⟩ : ∃ g, w2.heap.size = g := ⟨_, rfl⟩
 rw [hgs, hgr, hgv] at FS lgs ⊢
 have Hgs := ihq hgs; have Hgr := ihq hgr; have Hgw := ihq (zD Hv.out (k := gw) (by rw [HA.out]; rfl))
 clear hgs hgr hgv hw1 hw2 hwz hst hld s1 hW1 hW3 hc7 c7 z7
 go_loopg [] m (fun k wr => ∃ (n : Nat) (L Kn : Sl) (X : List Ck), n + k = m /\ FilR w wr gs gr gv f v copies n L Kn X)
 case atStart => exact ⟨0, _, _, _, by omega, FS.out⟩
 case round =>
  obtain ⟨n, L, Kn, X, hnk, hF⟩ := hrel
  have F := ihq hF
  have Hnk := ihq hnk
  have hLn := hF.ln
  have cv7 := zc hF.bv 7
  have cv1 := zc hF.bv 1
  simp at cv7 cv1
  have l0 : (0 : Int) <= (L.n : Int) := by omega
  have l1 : (L.n : Int) <= 64 := by omega
  by_cases hn : n < m
  ·have htest : (8 : Int) * (L.n : Int) < v.bl := by have := Hm1.out n hn; omega
   have HLn := ihq hLn
   clear hF hnk hLn
   go_upto_region 4 with fail
   have HB0 := ihq (Below.refl wr.heap.size wr).drew
   have bsr := F.out.bs
   have bvr := F.out.bv
   have HS := ihq (fun V (hv : Below wr.heap.size wr V) => (⟨zc (za bsr hv) 2, zc (za bsr hv) 3, zc (za bvr hv) 0, zR (f := { f with k := Kn, nx := f.nx + n }) (za bsr hv)⟩ : V.cell? ⟨gs, 2, none⟩ = some (.slice Kn.A Kn.n Kn.c) /\ V.cell? ⟨gs, 3, none⟩ = some (.int .i64 (f.nx + n)) /\ V.cell? ⟨gv, 0, none⟩ = some (.int .i64 v.id) /\ (ldRf (.pointer (some ⟨gs, 0, none⟩))).run Tryz.prog V = .ok (.agg #[.slice f.p.A f.p.n f.p.c, .slice f.v.A f.v.n f.v.c, .slice Kn.A Kn.n Kn.c, .int .i64 (f.nx + n)]) V))
   have kst := F.out.stab wr (Turned.refl _ _)
   have HKs := ihq kst
   have hX := congrArg List.length F.out.dat
   rw [List.length_map, List.length_append, YH, show f.dat.cs.length = f.K.length from List.length_map ..] at hX
   have hKn : Kn.n <= 9000 := by have := kst.len; have := Hkl.out; omega
   have HXl := ihq (show X.length <= 9000 by have := Hkl.out; omega)
   have HLk := ihq (show (cksV X).length = Kn.n * 5 by rw [yt, kst.len])
   have HR := ihq (fun V (hv : Below wr.heap.size wr V) => (⟨(H.out.below (F.out.bel.trans (hv.mono F.out.bel.size))).p, (H.out.below (F.out.bel.trans (hv.mono F.out.bel.size))).v, HKs.out.below hv, H.out.vl, Nat.le_trans HXl.out (by omega), H.out.pin⟩ : RfOk V { f with k := Kn, K := X, nx := f.nx + n }))
   have hd : ({ f with k := Kn, K := X, nx := f.nx + n } : Rf).dat = { midR f v copies n with vs := f.dat.vs } := by
    unfold Rf.dat midR
    simp only
    rw [F.out.dat]
    rfl
   obtain ⟨cs, hcs⟩ : ∃ c, (zm f.pk).length = c := ⟨_, rfl⟩
   have hcs16 : cs <= 16 := by rw [<- hcs]; exact cntR_le f.pk 16
   obtain ⟨mm, hmm⟩ : ∃ c, min copies cs = c := ⟨_, rfl⟩
   have KN := ihq (fun V (hv : Below wr.heap.size wr V) => (show Calls Tryz.prog 51 #[.agg #[.slice f.p.A f.p.n f.p.c, .slice f.v.A f.v.n f.v.c, .slice Kn.A Kn.n Kn.c, .int .i64 (f.nx + n)]] V fun e w' => e = .returned (.int .i64 (cs : Int)) /\ Below V.heap.size V w' from by
    have := Rcount _ V (HR.out V hv)
    rw [show cntR ({ f with k := Kn, K := X, nx := f.nx + n } : Rf).pk 16 = cs from hcs] at this
    exact this))
   obtain ⟨us, hus⟩ : ∃ us, (newC f v copies n).ms = us := ⟨_, rfl⟩
   have KC := ihq (fun V (hv : Below wr.heap.size wr V) => (show Calls Tryz.prog 89 #[.agg #[.slice f.p.A f.p.n f.p.c, .slice f.v.A f.v.n f.v.c, .slice Kn.A Kn.n Kn.c, .int .i64 (f.nx + n)], .int .i64 (mm : Int)] V (Zp 3 1 mm (zo us) V) from by
    have := RChoose _ mm V (HR.out V hv) (by show mm <= (zm f.pk).length; omega)
    rw [hd, show toI (fewF (hN { midR f v copies n with vs := f.dat.vs }) (zm ({ f with k := Kn, K := X, nx := f.nx + n } : Rf).pk) mm) = us from (by rw [<- hus, <- hmm, <- hcs]; rfl)] at this
    exact this))
   have Hus := ihq hus; have Hmm := ihq hmm
   have hmm1 : mm <= 16 := by omega
   clear hX kst hd hcs hus hmm bsr bvr
   refine zU (S := (fun V => V.cell? ⟨gs, 2, none⟩ = some (.slice Kn.A Kn.n Kn.c) /\ V.cell? ⟨gs, 3, none⟩ = some (.int .i64 (f.nx + n)) /\ V.cell? ⟨gv, 0, none⟩ = some (.int .i64 v.id) /\ (ldRf (.pointer (some ⟨gs, 0, none⟩))).run Tryz.prog V = .ok (.agg #[.slice f.p.A f.p.n f.p.c, .slice f.v.A f.v.n f.v.c, .slice Kn.A Kn.n Kn.c, .int .i64 (f.nx + n)]) V)) 18 (by kernel_rfl) ?_
   have hHeld := (HS.out _ HB0.out)
   refine zi (i := 1) (v := ?vr1) rfl (by kernel_rfl) (fun _ _ _ h => h) (Or.inl ⟨by rfl, ?hyr1⟩) hHeld ?restr1
   case hyr1 => (intro w' hS; obtain ⟨s1, s2, s3, s4⟩ := hS; (try simp only [iq4, iq5, iq6]); go_simp; try with_reducible rfl)
   try simp only [Act.put, iq1, iq2, iq3, iq4, iq5, iq6]
   refine zi (i := 2) (v := ?vr2) rfl (by kernel_rfl) (fun _ _ _ h => h) (Or.inl ⟨by rfl, ?hyr2⟩) hHeld ?restr2
   case hyr2 => (intro w' hS; obtain ⟨s1, s2, s3, s4⟩ := hS; (try simp only [iq4, iq5, iq6]); go_simp; try with_reducible rfl)
   try simp only [Act.put, iq1, iq2, iq3, iq4, iq5, iq6]
   refine zi (i := 4) (v := ?vr3) rfl (by kernel_rfl) (fun _ _ _ h => h) (Or.inl ⟨by rfl, ?hyr3⟩) hHeld ?restr3
   case hyr3 => (intro w' hS; obtain ⟨s1, s2, s3, s4⟩ := hS; (try simp only [iq4, iq5, iq6]); go_simp; try with_reducible rfl)
   try simp only [Act.put, iq1, iq2, iq3, iq4, iq5, iq6]
   refine zi (i := 5) (v := ?vr4) rfl (by kernel_rfl) (fun _ _ _ h => h) (Or.inl ⟨by rfl, ?hyr4⟩) hHeld ?restr4
   case hyr4 => (intro w' hS; obtain ⟨s1, s2, s3, s4⟩ := hS; (try simp only [iq4, iq5, iq6]); go_simp; try with_reducible rfl)
   try simp only [Act.put, iq1, iq2, iq3, iq4, iq5, iq6]
   refine zi (i := 6) (v := ?vr5) rfl (by kernel_rfl) (fun _ _ _ h => h) (Or.inl ⟨by rfl, ?hyr5⟩) hHeld ?restr5
   case hyr5 => (intro w' hS; obtain ⟨s1, s2, s3, s4⟩ := hS; (try simp only [iq4, iq5, iq6]); go_simp; try with_reducible rfl)
   try simp only [Act.put, iq1, iq2, iq3, iq4, iq5, iq6]
   refine zi (i := 7) (v := ?vr6) rfl (by kernel_rfl) (fun _ _ _ h => h) (Or.inl ⟨by rfl, ?hyr6⟩) hHeld ?restr6
   case hyr6 => (intro w' hS; obtain ⟨s1, s2, s3, s4⟩ := hS; (try simp only [iq4, iq5, iq6]); go_simp; try with_reducible rfl)
   try simp only [Act.put, iq1, iq2, iq3, iq4, iq5, iq6]
   refine zi (i := 8) (v := ?vr7) rfl (by kernel_rfl) (fun _ _ _ h => h) (Or.inl ⟨by rfl, ?hyr7⟩) hHeld ?restr7
   case hyr7 => (intro w' hS; obtain ⟨s1, s2, s3, s4⟩ := hS; (try simp only [iq4, iq5, iq6]); go_simp; try with_reducible rfl)
   try simp only [Act.put, iq1, iq2, iq3, iq4, iq5, iq6]
   refine zi (i := 9) (v := ?vr8) rfl (by kernel_rfl) (fun _ _ _ h => h) (Or.inl ⟨by rfl, ?hyr8⟩) hHeld ?restr8
   case hyr8 => (intro w' hS; obtain ⟨s1, s2, s3, s4⟩ := hS; (try simp only [iq4, iq5, iq6]); go_simp; try with_reducible rfl)
   try simp only [Act.put, iq1, iq2, iq3, iq4, iq5, iq6]
   refine zi (i := 10) (v := ?vr9) rfl (by kernel_rfl) (fun _ _ _ h => h) (Or.inl ⟨by rfl, ?hyr9⟩) hHeld ?restr9
   case hyr9 => (intro w' hS; obtain ⟨s1, s2, s3, s4⟩ := hS; (try simp only [iq4, iq5, iq6]); go_simp; try with_reducible rfl)
   try simp only [Act.put, iq1, iq2, iq3, iq4, iq5, iq6]
   refine zn (i := 0) (by kernel_rfl) rfl (fun K hK => ?_)
   (try simp only [iq4, iq5, iq6])
   obtain ⟨V1, hV1⟩ : ∃ W, World.alloc wr.drew (.cells #[] 82) = W := ⟨_, rfl⟩
   have O1 := ihq (show V1.ownsRow wr.heap.size 82 5 (.slice (some ⟨(World.heap wr.drew).size, 0, none⟩) 0 0) 0 [] from (by rw [<- hV1]; exact yk _ _ HB0.out.size))
   have HB1 := ihq (HB0.out.trans ((show Below (World.heap wr.drew).size wr.drew V1 from (by rw [<- hV1]; exact zg _ _)).mono HB0.out.size))
   go_simp
   try rw [hV1]
   refine hK.out _ _ (fun _ => (HS.out _ HB1.out)) ?_
   clear hHeld
   have hHeld := (HS.out _ HB1.out)
   clear hK K
   try simp only [Act.put, iq1, iq2, iq3, iq4, iq5, iq6]
   refine zn (i := 3) (by kernel_rfl) rfl (fun K hK => ?_)
   (try simp only [iq4, iq5, iq6])
   refine zy (by rfl) ?_
   refine zF (.tmp 25) (.tmp 27) _ (by rfl) 82 _ 5 72 Tryz.underlying30 yI (by rfl) (by omega) wr.heap.size (some ⟨(World.heap wr.drew).size, 0, none⟩) 0 0 [] (by rfl) O1.out Kn.A Kn.n Kn.c (cksV X) (by rfl) HLk.out (HKs.out.below HB1.out).see.1 (zV _) (by unfold maxLen; omega) (by omega) HB1.out.size ?_
   intro A3 c3 V2 hown hg hbk
   simp only [Nat.zero_add, List.nil_append] at hown ⊢
   have O2 := ihq hown
   have HB2 := ihq (HB1.out.trans ((Turned.of_grown (p := fun k => (Value.slice (some ⟨(World.heap wr.drew).size, 0, none⟩) 0 0).ownBlock = some k) hg (fun k e => e)).below (B := wr.heap.size) (fun k e => (O1.out.lt k e).1) HB1.out.size))
   clear hown hg hbk
   refine hK.out _ _ (fun _ => (HS.out _ HB2.out)) ?_
   clear hHeld
   have hHeld := (HS.out _ HB2.out)
   clear hK K
   try simp only [Act.put, iq1, iq2, iq3, iq4, iq5, iq6]
   refine zn (i := 11) (by kernel_rfl) rfl (fun K hK => ?_)
   (try simp only [iq4, iq5, iq6])
   go_simp
   refine (KN.out _ HB2.out).mono ?_
   rintro e V3 ⟨rfl, hb⟩
   have O3 := ihq (zh O2.out hb)
   have HB3 := ihq (HB2.out.trans (hb.mono HB2.out.size))
   clear hb
   refine hK.out _ _ (fun _ => (HS.out _ HB3.out)) ?_
   clear hHeld
   have hHeld := (HS.out _ HB3.out)
   clear hK K
   try simp only [Act.put, iq1, iq2, iq3, iq4, iq5, iq6]
   refine zn (i := 12) (by kernel_rfl) rfl (fun K hK => ?_)
   (try simp only [iq4, iq5, iq6])
   go_simp
   rw [show min (copies : Int) (cs : Int) = (mm : Int) by (have := Hmm.out; omega)]
   refine hK.out _ _ (fun _ => (HS.out _ HB3.out)) ?_
   clear hHeld
   have hHeld := (HS.out _ HB3.out)
   clear hK K
   try simp only [Act.put, iq1, iq2, iq3, iq4, iq5, iq6]
   refine zn (i := 13) (by kernel_rfl) rfl (fun K hK => ?_)
   (try simp only [iq4, iq5, iq6])
   go_simp
   refine (KC.out _ HB3.out).mono ?_
   rintro e V4 ⟨A5, c5, rfl, hown5, hb5⟩
   have O5 := ihq hown5
   have O4 := ihq (zh O3.out hb5)
   have HB34 := ihq hb5
   have HB4 := ihq (HB3.out.trans (hb5.mono HB3.out.size))
   clear hown5 hb5
   refine hK.out _ _ (fun _ => (HS.out _ HB4.out)) ?_
   clear hHeld
   have hHeld := (HS.out _ HB4.out)
   clear hK K
   try simp only [Act.put, iq1, iq2, iq3, iq4, iq5, iq6]
   refine zn (i := 14) (by kernel_rfl) rfl (fun K hK => ?_)
   (try simp only [iq4, iq5, iq6])
   have hbd := fun W => bdCk_run W (f.nx + n) v.id A5 mm c5
   go_simp
   refine hK.out _ _ (fun _ => (HS.out _ HB4.out)) ?_
   clear hHeld
   have hHeld := (HS.out _ HB4.out)
   clear hK K
   try simp only [Act.put, iq1, iq2, iq3, iq4, iq5, iq6]
   refine zn (i := 15) (by kernel_rfl) rfl (fun K hK => ?_)
   (try simp only [iq4, iq5, iq6])
   obtain ⟨V5, hV5⟩ : ∃ W, World.alloc V4 (.cells #[.int .i64 (f.nx + n), .int .i64 v.id, .int .i64 1, .slice A5 mm c5, .slice none 0 0] 82) = W := ⟨_, rfl⟩
   have hb45 : Below V4.heap.size V4 V5 := by rw [<- hV5]; exact zg _ _
   have S5 := ihq (show Seen V5 (some ⟨V4.heap.size, 0, none⟩) (ckC ⟨f.nx + n, v.id, 1, ⟨A5, mm, c5⟩, Sl.nil, us, []⟩) from (by rw [<- hV5]; exact Seen.of_cells (heap_alloc_new V4 _)))
   have O45 := ihq (zh O4.out hb45)
   have O55 := ihq (zh O5.out hb45)
   have HB5 := ihq (HB4.out.trans (hb45.mono HB4.out.size))
   have HB35 := ihq (HB34.out.trans (hb45.mono HB34.out.size))
   clear hb45
   go_simp
   try rw [hV5]
   refine hK.out _ _ (fun _ => (HS.out _ HB5.out)) ?_
   clear hHeld
   have hHeld := (HS.out _ HB5.out)
   clear hK K
   try simp only [Act.put, iq1, iq2, iq3, iq4, iq5, iq6]
   refine zn (i := 16) (by kernel_rfl) rfl (fun K hK => ?_)
   (try simp only [iq4, iq5, iq6])
   refine zy (by rfl) ?_
   refine wp_appM (.tmp 28) (.tmp 40) _ (by rfl) 82 _ 5 72 Tryz.underlying30 yI (by rfl) (by omega) wr.heap.size A3 Kn.n c3 (cksV X) (by rfl) O45.out V4.heap.size 0 1 1 (ckC ⟨f.nx + n, v.id, 1, ⟨A5, mm, c5⟩, Sl.nil, us, []⟩) (by rfl) (by rfl) S5.out (by intro u hu; rw [<- xC] at hu; exact zV _ u hu) (by unfold maxLen; omega) (by omega) HB5.out.size ?_
   intro A6 c6 V6 hown hg hbk
   have t56 : Turned (fun k => (Value.slice A3 Kn.n c3).ownBlock = some k) V5 V6 := Turned.of_grown hg (fun k e => e)
   have O6 := ihq (show V6.ownsRow wr.heap.size 82 5 (.slice A6 (Kn.n + 1) c6) (Kn.n + 1) (cksV (X ++ [⟨f.nx + n, v.id, 1, ⟨A5, mm, c5⟩, Sl.nil, us, []⟩])) from (by rw [xc, xC]; exact hown))
   have O56 := ihq (ze t56 O55.out (fun k e => zq O55.out O45.out (by decide) e))
   have HB6 := ihq (HB5.out.trans (t56.below (B := wr.heap.size) (fun k e => (O45.out.lt k e).1) HB5.out.size))
   have HV36 := ihq (Nat.le_trans HB35.out.size t56.size)
   clear hown hg hbk t56
   refine hK.out _ _ (fun _ => (HS.out _ HB6.out)) ?_
   clear hHeld
   have hHeld := (HS.out _ HB6.out)
   clear hK K
   try simp only [Act.put, iq1, iq2, iq3, iq4, iq5, iq6]
   refine zn (i := 17) (by kernel_rfl) rfl (fun K hK => ?_)
   (try simp only [iq4, iq5, iq6])
   go_simp
   refine hK.out _ _ (fun _ => (HS.out _ HB6.out)) ?_
   clear hHeld
   have hHeld := (HS.out _ HB6.out)
   clear hK K
   try simp only [Act.put, iq1, iq2, iq3, iq4, iq5, iq6]
   refine zn (i := 18) (by kernel_rfl) rfl (fun K hK => ?_)
   (try simp only [iq4, iq5, iq6])
   have z6 := zt (za F.out.bs HB6.out) 2
   obtain ⟨p1, p2, p3, p4⟩ := HS.out _ HB6.out
   obtain ⟨V7, hV7⟩ : ∃ W, V6.setCell ⟨gs, 2, none⟩ (.slice A6 (Kn.n + 1) c6) = W := ⟨_, rfl⟩
   go_simp
   refine hK.out _ _ (fun h => (by cases h)) ?_
   clear hK K
   try simp only [Act.put, iq1, iq2, iq3, iq4, iq5, iq6]
   refine zu (by kernel_rfl) ?_ _
   obtain ⟨V8, hV8⟩ : ∃ W, V7.alloc (.cells #[.int .i64 (f.nx + n)] 3) = W := ⟨_, rfl⟩
   obtain ⟨x1, x2, x3, x4, x5, x6⟩ := fil_mid F.out HB6.out hV7 hV8
   have X3 := ihq x3; have X4 := ihq x4; have X5 := ihq x5; have X6 := ihq x6
   have hnx0 : 0 <= f.nx + (n : Int) := by have := Hnx.out; omega
   have hnx1 : f.nx + (n : Int) + 1 <= 9223372036854775807 := by have := Hnx.out; omega
   clear x3 x4 x5 x6
   go_wp2_with (at_builtin; refine ym rfl (.tmp 44) (.tmp 47) _ rfl 3 _ 8 Tryz.underlying28 zP rfl w.heap.size L.A L.n L.c (zo (v.ids ++ idsK (fnK f v copies n))) rfl X3.out (some ⟨V7.heap.size, 0, none⟩) 1 1 [.int .i64 (f.nx + n)] rfl rfl X4.out (fun u hu => by simp at hu; subst hu; rfl) (by unfold maxLen; omega) (by omega) X5.out ?_; intro A9 c9 V9 hown9 hg9 hbk9; obtain ⟨y1, y2, y3, y4⟩ := X6.out V9 A9 c9 hg9; obtain ⟨V10, hV10⟩ : ∃ W, V9.setCell ⟨gv, 7, none⟩ (.slice A9 (L.n + 1) c9) = W := ⟨_, rfl⟩; rw [hV10] at y3 y4; have Hown9 := ihq hown9; have Hg9 := ihq hg9; have Hbk9 := ihq hbk9; clear hown9 hg9 hbk9)
   obtain ⟨gk', rfl⟩ : ∃ k', gk = k' + 1 := ⟨gk - 1, by have := Hnk.out; omega⟩
   go_roundg gk'
   case measure => omega
   case rel =>
    exact ⟨n + 1, _, _, _, by have := Hnk.out; omega, FilR.step F.out Hnd.out (by have := Hgs.out; omega) (by have := Hgs.out; omega) (by omega) Hus.out HB3.out HB6.out HV36.out O56.out O6.out hV7 hV8 Hown9.out Hg9.out Hbk9.out hV10 rfl⟩
  ·have htest : ¬ (8 : Int) * (L.n : Int) < v.bl := by have := Hm2.out; omega
   obtain rfl : n = m := by omega
   have hbv := hF.bv
   have hvr := zh Hv.out hF.bel
   have hbs := hF.bs
   have hbr := hF.br
   have hql := (List.getElem?_eq_some_iff.1 Hq.out).1
   rw [HA.out] at hvr
   obtain ⟨V12, hst12, hown12, ht12⟩ := vs_put hvr hql { v with c := L, ids := v.ids ++ idsK (fnK f v copies n) }
   have hldv := ZR (VkAt.of_row (v := { v with c := L, ids := v.ids ++ idsK (fnK f v copies n) }) hbv)
   have s1 := zc hbs 1
   simp only [HA.out] at s1
   simp at s1
   obtain ⟨csw, hcw⟩ := Hgw.out
   have lw := (Array.getElem?_eq_some_iff.1 hcw).1
   have hgs := Hgs.out
   have hgr := Hgr.out
   have hbs12 := ht12.heap hbs (by omega)
   have hbr12 := ht12.heap hbr (by omega)
   have hld12 := zR (f := { f with k := Kn, nx := f.nx + n }) hbs12
   obtain ⟨V13, hst13, hr13, ht13⟩ := zk hbr12 rfl f.p f.v Kn (f.nx + n)
   have Hr13 := ihq hr13; have Ht13 := ihq ht13; have Ht12 := ihq ht12; have Hown12 := ihq hown12
   simp only at hldv hst12 hld12
   clear hF hnk hLn hbv hvr hbs hbr hql hown12 ht12 hcw hbs12 hbr12 hr13 ht13 hgs hgr
   go_wp2
   refine bodyPost_ret (results_cell_row rfl _ _ gr 32 _ (0, 0) _ rfl Hr13.out Tryz.underlying32 rfl zw) rfl ?_
   exact F.out.done H.out Hq.out HA.out Hv.out (by have := Hgs.out; omega) (by have := Hkl.out; omega) Hown12.out Ht12.out Ht13.out
end Go.Proofs.YteebkolccbcehaaGreat
