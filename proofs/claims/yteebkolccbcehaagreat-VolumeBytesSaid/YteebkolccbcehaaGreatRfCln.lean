/-
  Contract of dotterelref18's clone: a state whose three rows are its own. Conditions: a state that can be read.
-/
import Derived.Test.YteebkolccbcehaaGreatJP
import Derived.Deep.RegionHeld3
set_option linter.all false
namespace Go.Proofs.YteebkolccbcehaaGreat
open Go.ChangeShapes Go.WideShapes Go.ChangeAt Go.RowKit
structure xh (B : Nat) (w0 w : World) (f : Rf) : Prop where
 p : w.ownsRow B 3 1 (.slice f.p.A f.p.n f.p.c) f.p.n (zo (yJ f.pk))
 v : w.ownsRow B 49 8 (.slice f.v.A f.v.n f.v.c) f.v.n (vksV f.X)
 k : w.ownsRow B 82 5 (.slice f.k.A f.k.n f.k.c) f.k.n (cksV f.K)
 vok : ∀ x ∈ f.X, zQ w0 x.c x.ids
 inp : ∀ x ∈ f.X, InP x.p
 kok : ∀ x ∈ f.K, CkOk w0 x
 vl : f.X.length <= 64
 kl : f.K.length <= 10000
 pin : ∀ i, i < 16 -> 0 <= f.pk i /\ f.pk i <= 64
 hB : w0.heap.size <= B
 bel : Below w0.heap.size w0 w
theorem xh.ok {B : Nat} {w0 w : World} {f : Rf} (h : xh B w0 w f) : RfOk w f := by
 have e1 := h.p.1
 have e2 := h.v.1
 have e3 := h.k.1
 rw [zz] at e1
 rw [ya] at e2
 rw [yt] at e3
 exact ⟨⟨by omega, (yw h.p).1, (yw h.p).2, yP.own h.p⟩, ⟨by omega, (yw h.v).1, (yw h.v).2, yP.own h.v, fun x hx => (h.vok x hx).below h.bel, h.inp⟩, ⟨by omega, (yw h.k).1, (yw h.k).2, yP.own h.k, fun x hx => (h.kok x hx).below h.bel⟩, h.vl, h.kl, h.pin⟩
theorem zq {w : World} {B B' z z' n n' : Nat} {T T' : TypeId} {v v' : Value} {xs xs' : List Value} (h : w.ownsRow B T z v n xs) (h' : w.ownsRow B' T' z' v' n' xs') (hT : T ≠ T') {k : Nat} (e : v.ownBlock = some k) : ¬ v'.ownBlock = some k := fun e' => by
 obtain ⟨cs, h1⟩ := zD h e
 obtain ⟨cs', h2⟩ := zD h' e'
 rw [h1] at h2
 injection h2 with h2
 injection h2 with _ h2
 exact hT h2
def stRf (p v : Value) : Sem Unit := Instr.storeAt 32 p v
theorem y9 (p v : Value) : Instr.storeAt 32 p v = stRf p v := rfl
theorem zk {w : World} {g : Nat} {cs : Array Value} {T : TypeId} (h : w.heap[g]? = some (.cells cs T (0, 0))) (hs : cs.size = 4) (P V K : Sl) (nx : Int) :
  ∃ w', (stRf (.pointer (some ⟨g, 0, none⟩)) (.agg #[.slice P.A P.n P.c, .slice V.A V.n V.c, .slice K.A K.n K.c, .int .i64 nx])).run Tryz.prog w = .ok () w' /\
   w'.heap[g]? = some (.cells #[.slice P.A P.n P.c, .slice V.A V.n V.c, .slice K.A K.n K.c, .int .i64 nx] T (0, 0)) /\ Turned (fun k => k = g) w w' :=
 ZH (T := 32) h (by rw [hs]; rfl) zw (by simp [Value.oneCell'])
def Ym (f : Rf) (w : World) (e : Ending) (w' : World) : Prop := ∃ P V K : Sl, e = .returned (Rf.val { f with p := P, v := V, k := K }) /\ xh w.heap.size w w' { f with p := P, v := V, k := K }
theorem yE {f : Rf} {w w1 w2 V W : World} {pn vn kn pc vc kc : Nat} {Ap Av Ak : Option Addr} (h : RfOk w f) (hb1 : Below w.heap.size w w1) (hb12 : Below w1.heap.size w1 w2) (lg : w1.heap.size < w2.heap.size) (hb : Below w2.heap.size w2 V)
  (hp : V.ownsRow w2.heap.size 3 1 (.slice Ap pn pc) pn (zo (yJ f.pk))) (hv : V.ownsRow w2.heap.size 49 8 (.slice Av vn vc) vn (vksV f.X)) (hk : V.ownsRow w2.heap.size 82 5 (.slice Ak kn kc) kn (cksV f.K)) (ht : Turned (fun k => k = w1.heap.size) V W) :
  Ym f w (.returned (.agg #[.slice Ap pn pc, .slice Av vn vc, .slice Ak kn kc, .int .i64 f.nx])) W := by
 have hs1 := hb1.size
 have hle : w.heap.size <= w2.heap.size := by omega
 have ne : ∀ {T : TypeId} {z n : Nat} {v : Value} {xs : List Value}, V.ownsRow w2.heap.size T z v n xs -> ∀ k, v.ownBlock = some k -> ¬ k = w1.heap.size := fun o k e hk => by have := (o.lt k e).1; omega
 refine ⟨⟨Ap, pn, pc⟩, ⟨Av, vn, vc⟩, ⟨Ak, kn, kc⟩, rfl, zY (ze ht hp (ne hp)) hle, zY (ze ht hv (ne hv)) hle, zY (ze ht hk (ne hk)) hle, h.v.ok, h.v.inp, h.k.ok, h.vl, h.kl, h.pin, Nat.le_refl _, ?_⟩
 exact (hb1.trans ((hb12.trans (hb.mono hb12.size)).mono hb1.size)).trans (ht.below (fun k e => by omega) (by have := hb.size; omega))
attribute [local go_sem ↓] y9
set_option maxRecDepth 100000 in
set_option maxHeartbeats 40000000 in
theorem Rclone (f : Rf) (w : World) (h : RfOk w f) : Calls Tryz.prog 18 #[f.val] w (Ym f w) := by
 unfold Rf.val
 obtain ⟨w1, hw1, hb1, hr⟩ := yb w f
 obtain ⟨w2, hw2⟩ : ∃ w2, w1.alloc (.cells #[.slice none 0 0, .slice none 0 0, .slice none 0 0, .int .i64 0] 32) = w2 := ⟨_, rfl⟩
 have hb12 : Below w1.heap.size w1 w2 := by rw [<- hw2]; exact zg _ _
 have hr2 : w2.heap[w1.heap.size]? = some (.cells #[.slice none 0 0, .slice none 0 0, .slice none 0 0, .int .i64 0] 32 (0, 0)) := by rw [<- hw2]; exact heap_alloc_new _ _
 have hlt : w.heap.size < w1.heap.size := (Array.getElem?_eq_some_iff.1 hr).1
 have HW := ihq h; have Hb1 := ihq hb1; have Hb12 := ihq hb12; have Hr2 := ihq hr2
 have Lg := ihq (Array.getElem?_eq_some_iff.1 hr2).1
 have hpn := h.pn
 have H2 := (h.below hb1).below hb12
 have Lp := ihq (show (zo (yJ f.pk)).length = f.p.n * 1 by rw [zz, h.p.len, Nat.mul_one])
 have Lv := ihq (show (vksV f.X).length = f.v.n * 8 by rw [ya, h.v.len])
 have Lk := ihq (show (cksV f.K).length = f.k.n * 5 by rw [yt, h.k.len])
 have Mp := ihq (show f.p.n <= 10000 by omega)
 have Mv := ihq (show f.v.n <= 10000 by have := h.v.len; have := h.vl; omega)
 have Mk := ihq (show f.k.n <= 10000 by have := h.k.len; have := h.kl; omega)
 have Sp := ihq (fun V (hv : Below w2.heap.size w2 V) => (H2.p.below hv).see.1)
 have Sv := ihq (fun V (hv : Below w2.heap.size w2 V) => (H2.v.below hv).see.1)
 have Sk := ihq (fun V (hv : Below w2.heap.size w2 V) => (H2.k.below hv).see.1)
 have Hc := ihq (fun V (hv : Below w1.heap.size w1 V) => (⟨(hv.cell (p := ⟨w.heap.size, 0, none⟩) hlt).trans (zc hr 0), (hv.cell (p := ⟨w.heap.size, 1, none⟩) hlt).trans (zc hr 1), (hv.cell (p := ⟨w.heap.size, 2, none⟩) hlt).trans (zc hr 2), (hv.cell (p := ⟨w.heap.size, 3, none⟩) hlt).trans (zc hr 3)⟩ : V.cell? ⟨w.heap.size, 0, none⟩ = some (.slice f.p.A f.p.n f.p.c) /\ V.cell? ⟨w.heap.size, 1, none⟩ = some (.slice f.v.A f.v.n f.v.c) /\ V.cell? ⟨w.heap.size, 2, none⟩ = some (.slice f.k.A f.k.n f.k.c) /\ V.cell? ⟨w.heap.size, 3, none⟩ = some (.int .i64 f.nx)))
 clear h hb1 hb12 hr hr2 hpn H2 hlt
 go_enter Tryz.func18, Tryz.ntmps18
 go_upto_region 1 with fail
 have HB0 := ihq (Below.refl w2.heap.size w2).drew
 refine wp_region_held_drew (S := fun V => Below w1.heap.size w1 V) (by kernel_rfl) ?_ (fun hHeld => ?_)
 ·exact Hb12.out.trans (HB0.out.mono Hb12.out.size)
 refine wpAnyH_take (i := 1) (v := ?v1) rfl (by kernel_rfl) (by kernel_rfl) (by kernel_rfl) (fun _ _ _ h => h) (Or.inl ⟨by rfl, ?hy1⟩) (by assumption) ?rest1
 case hy1 => (intro w' hS; obtain ⟨t1, t2, t3, t4⟩ := Hc.out w' hS; (try simp only [iq4, iq5, iq6]); go_simp; try with_reducible rfl)
 try simp only [Act.put, iq1, iq2, iq3, iq4, iq5, iq6]
 refine wpAnyH_take (i := 2) (v := ?v2) rfl (by kernel_rfl) (by kernel_rfl) (by kernel_rfl) (fun _ _ _ h => h) (Or.inl ⟨by rfl, ?hy2⟩) (by assumption) ?rest2
 case hy2 => (intro w' hS; obtain ⟨t1, t2, t3, t4⟩ := Hc.out w' hS; (try simp only [iq4, iq5, iq6]); go_simp; try with_reducible rfl)
 try simp only [Act.put, iq1, iq2, iq3, iq4, iq5, iq6]
 refine wpAnyH_take (i := 5) (v := ?v3) rfl (by kernel_rfl) (by kernel_rfl) (by kernel_rfl) (fun _ _ _ h => h) (Or.inl ⟨by rfl, ?hy3⟩) (by assumption) ?rest3
 case hy3 => (intro w' hS; obtain ⟨t1, t2, t3, t4⟩ := Hc.out w' hS; (try simp only [iq4, iq5, iq6]); go_simp; try with_reducible rfl)
 try simp only [Act.put, iq1, iq2, iq3, iq4, iq5, iq6]
 refine wpAnyH_take (i := 6) (v := ?v4) rfl (by kernel_rfl) (by kernel_rfl) (by kernel_rfl) (fun _ _ _ h => h) (Or.inl ⟨by rfl, ?hy4⟩) (by assumption) ?rest4
 case hy4 => (intro w' hS; obtain ⟨t1, t2, t3, t4⟩ := Hc.out w' hS; (try simp only [iq4, iq5, iq6]); go_simp; try with_reducible rfl)
 try simp only [Act.put, iq1, iq2, iq3, iq4, iq5, iq6]
 refine wpAnyH_take (i := 9) (v := ?v5) rfl (by kernel_rfl) (by kernel_rfl) (by kernel_rfl) (fun _ _ _ h => h) (Or.inl ⟨by rfl, ?hy5⟩) (by assumption) ?rest5
 case hy5 => (intro w' hS; obtain ⟨t1, t2, t3, t4⟩ := Hc.out w' hS; (try simp only [iq4, iq5, iq6]); go_simp; try with_reducible rfl)
 try simp only [Act.put, iq1, iq2, iq3, iq4, iq5, iq6]
 refine wpAnyH_take (i := 10) (v := ?v6) rfl (by kernel_rfl) (by kernel_rfl) (by kernel_rfl) (fun _ _ _ h => h) (Or.inl ⟨by rfl, ?hy6⟩) (by assumption) ?rest6
 case hy6 => (intro w' hS; obtain ⟨t1, t2, t3, t4⟩ := Hc.out w' hS; (try simp only [iq4, iq5, iq6]); go_simp; try with_reducible rfl)
 try simp only [Act.put, iq1, iq2, iq3, iq4, iq5, iq6]
 refine wpAnyH_take (i := 12) (v := ?v7) rfl (by kernel_rfl) (by kernel_rfl) (by kernel_rfl) (fun _ _ _ h => h) (Or.inl ⟨by rfl, ?hy7⟩) (by assumption) ?rest7
 case hy7 => (intro w' hS; obtain ⟨t1, t2, t3, t4⟩ := Hc.out w' hS; (try simp only [iq4, iq5, iq6]); go_simp; try with_reducible rfl)
 try simp only [Act.put, iq1, iq2, iq3, iq4, iq5, iq6]
 refine wpAnyH_take (i := 13) (v := ?v8) rfl (by kernel_rfl) (by kernel_rfl) (by kernel_rfl) (fun _ _ _ h => h) (Or.inl ⟨by rfl, ?hy8⟩) (by assumption) ?rest8
 case hy8 => (intro w' hS; obtain ⟨t1, t2, t3, t4⟩ := Hc.out w' hS; (try simp only [iq4, iq5, iq6]); go_simp; try with_reducible rfl)
 try simp only [Act.put, iq1, iq2, iq3, iq4, iq5, iq6]
 refine wpAnyH_ready (rs := [0, 4, 8]) (by kernel_rfl) (by simp) ?_
 refine AllReadyH.cons rfl (fun K hK => ?_) ?_
 ·clear hHeld
  (try simp only [iq4, iq5, iq6])
  obtain ⟨V1, hV1⟩ : ∃ W, World.alloc w2.drew (.cells #[] 3) = W := ⟨_, rfl⟩
  have Op1 := ihq (show World.ownsRow V1 w2.heap.size 3 1 (.slice (some ⟨(World.heap w2.drew).size, 0, none⟩) 0 0) 0 [] from (by rw [<- hV1]; exact yk _ _ HB0.out.size))
  have hbn : Below (World.heap w2.drew).size w2.drew V1 := by rw [<- hV1]; exact zg _ _
  have HB1 := ihq (HB0.out.trans (hbn.mono HB0.out.size))
  go_simp
  try rw [hV1]
  refine hK.out _ _ ?_ (fun hHeld => ?_)
  ·exact Hb12.out.trans (HB1.out.mono Hb12.out.size)
  clear hK K hbn hV1
  try simp only [Act.put, iq1, iq2, iq3, iq4, iq5, iq6]
  refine wpAnyH_ready (rs := [3, 4, 8]) (by kernel_rfl) (by simp) ?_
  refine AllReadyH.cons rfl (fun K hK => ?_) ?_
  ·clear hHeld
   (try simp only [iq4, iq5, iq6])
   refine zy (by rfl) ?_
   refine zF (.tmp 3) (.tmp 5) _ (by rfl) 3 _ 1 8 Tryz.underlying28 zP (by rfl) (by omega) w2.heap.size (some ⟨(World.heap w2.drew).size, 0, none⟩) 0 0 [] (by rfl) Op1.out f.p.A f.p.n f.p.c (zo (yJ f.pk)) (by rfl) Lp.out (Sp.out _ HB1.out) (yf _) (by have := Mp.out; unfold maxLen; omega) (by have := Mp.out; omega) HB1.out.size ?_
   intro Ap cp V2 hown hg hbk
   simp only [Nat.zero_add, List.nil_append] at hown ⊢
   have t : Turned (fun k => (Value.slice (some ⟨(World.heap w2.drew).size, 0, none⟩) 0 0).ownBlock = some k) V1 V2 := Turned.of_grown hg (fun k e => e)
   have Op2 := ihq hown
   have HB2 := ihq (HB1.out.trans (t.below (fun k e => (Op1.out.lt k e).1) HB1.out.size))
   refine hK.out _ _ ?_ (fun hHeld => ?_)
   ·exact Hb12.out.trans (HB2.out.mono Hb12.out.size)
   clear hK K hown hg hbk t
   try simp only [Act.put, iq1, iq2, iq3, iq4, iq5, iq6]
   clear HB1 Op1
   refine wpAnyH_ready (rs := [4, 8]) (by kernel_rfl) (by simp) ?_
   refine AllReadyH.cons rfl (fun K hK => ?_) ?_
   ·clear hHeld
    (try simp only [iq4, iq5, iq6])
    obtain ⟨V3, hV3⟩ : ∃ W, World.alloc V2 (.cells #[] 49) = W := ⟨_, rfl⟩
    have Ov3 := ihq (show World.ownsRow V3 w2.heap.size 49 8 (.slice (some ⟨(World.heap V2).size, 0, none⟩) 0 0) 0 [] from (by rw [<- hV3]; exact yk _ _ HB2.out.size))
    have hbn : Below (World.heap V2).size V2 V3 := by rw [<- hV3]; exact zg _ _
    have HB3 := ihq (HB2.out.trans (hbn.mono HB2.out.size))
    have Op3 := ihq (zh Op2.out hbn)
    go_simp
    try rw [hV3]
    refine hK.out _ _ ?_ (fun hHeld => ?_)
    ·exact Hb12.out.trans (HB3.out.mono Hb12.out.size)
    clear hK K hbn hV3
    try simp only [Act.put, iq1, iq2, iq3, iq4, iq5, iq6]
    clear HB2 Op2
    refine wpAnyH_ready (rs := [7, 8]) (by kernel_rfl) (by simp) ?_
    refine AllReadyH.cons rfl (fun K hK => ?_) ?_
    ·clear hHeld
     (try simp only [iq4, iq5, iq6])
     refine zy (by rfl) ?_
     refine zF (.tmp 7) (.tmp 9) _ (by rfl) 49 _ 8 80 Tryz.underlying29 yG (by rfl) (by omega) w2.heap.size (some ⟨(World.heap V2).size, 0, none⟩) 0 0 [] (by rfl) Ov3.out f.v.A f.v.n f.v.c (vksV f.X) (by rfl) Lv.out (Sv.out _ HB3.out) (zS _) (by have := Mv.out; unfold maxLen; omega) (by have := Mv.out; omega) HB3.out.size ?_
     intro Av cv V4 hown hg hbk
     simp only [Nat.zero_add, List.nil_append] at hown ⊢
     have t : Turned (fun k => (Value.slice (some ⟨(World.heap V2).size, 0, none⟩) 0 0).ownBlock = some k) V3 V4 := Turned.of_grown hg (fun k e => e)
     have Ov4 := ihq hown
     have HB4 := ihq (HB3.out.trans (t.below (fun k e => (Ov3.out.lt k e).1) HB3.out.size))
     have Op4 := ihq (ze t Op3.out (fun k e => zq Op3.out Ov3.out (by decide) e))
     refine hK.out _ _ ?_ (fun hHeld => ?_)
     ·exact Hb12.out.trans (HB4.out.mono Hb12.out.size)
     clear hK K hown hg hbk t
     try simp only [Act.put, iq1, iq2, iq3, iq4, iq5, iq6]
     clear HB3 Op3 Ov3
     refine wpAnyH_ready (rs := [8]) (by kernel_rfl) (by simp) ?_
     refine AllReadyH.cons rfl (fun K hK => ?_) ?_
     ·clear hHeld
      (try simp only [iq4, iq5, iq6])
      obtain ⟨V5, hV5⟩ : ∃ W, World.alloc V4 (.cells #[] 82) = W := ⟨_, rfl⟩
      have Ok5 := ihq (show World.ownsRow V5 w2.heap.size 82 5 (.slice (some ⟨(World.heap V4).size, 0, none⟩) 0 0) 0 [] from (by rw [<- hV5]; exact yk _ _ HB4.out.size))
      have hbn : Below (World.heap V4).size V4 V5 := by rw [<- hV5]; exact zg _ _
      have HB5 := ihq (HB4.out.trans (hbn.mono HB4.out.size))
      have Op5 := ihq (zh Op4.out hbn)
      have Ov5 := ihq (zh Ov4.out hbn)
      go_simp
      try rw [hV5]
      refine hK.out _ _ ?_ (fun hHeld => ?_)
      ·exact Hb12.out.trans (HB5.out.mono Hb12.out.size)
      clear hK K hbn hV5
      try simp only [Act.put, iq1, iq2, iq3, iq4, iq5, iq6]
      clear HB4 Op4 Ov4
      refine wpAnyH_ready (rs := [11]) (by kernel_rfl) (by simp) ?_
      refine AllReadyH.cons rfl (fun K hK => ?_) ?_
      ·clear hHeld
       (try simp only [iq4, iq5, iq6])
       refine zy (by rfl) ?_
       refine zF (.tmp 11) (.tmp 13) _ (by rfl) 82 _ 5 72 Tryz.underlying30 yI (by rfl) (by omega) w2.heap.size (some ⟨(World.heap V4).size, 0, none⟩) 0 0 [] (by rfl) Ok5.out f.k.A f.k.n f.k.c (cksV f.K) (by rfl) Lk.out (Sk.out _ HB5.out) (zV _) (by have := Mk.out; unfold maxLen; omega) (by have := Mk.out; omega) HB5.out.size ?_
       intro Ak ck V6 hown hg hbk
       simp only [Nat.zero_add, List.nil_append] at hown ⊢
       have t : Turned (fun k => (Value.slice (some ⟨(World.heap V4).size, 0, none⟩) 0 0).ownBlock = some k) V5 V6 := Turned.of_grown hg (fun k e => e)
       have Ok6 := ihq hown
       have HB6 := ihq (HB5.out.trans (t.below (fun k e => (Ok5.out.lt k e).1) HB5.out.size))
       have Op6 := ihq (ze t Op5.out (fun k e => zq Op5.out Ok5.out (by decide) e))
       have Ov6 := ihq (ze t Ov5.out (fun k e => zq Ov5.out Ok5.out (by decide) e))
       refine hK.out _ _ ?_ (fun hHeld => ?_)
       ·exact Hb12.out.trans (HB6.out.mono Hb12.out.size)
       clear hK K hown hg hbk t
       try simp only [Act.put, iq1, iq2, iq3, iq4, iq5, iq6]
       clear HB5 Op5 Ov5 Ok5
       refine wpAnyH_take (i := 14) (v := ?v9) rfl (by kernel_rfl) (by kernel_rfl) (by kernel_rfl) (fun _ _ _ h => h) (Or.inl ⟨by rfl, ?hy9⟩) (by assumption) ?rest9
       case hy9 => (intro w' hS; obtain ⟨t1, t2, t3, t4⟩ := Hc.out w' hS; (try simp only [iq4, iq5, iq6]); go_simp; try with_reducible rfl)
       try simp only [Act.put, iq1, iq2, iq3, iq4, iq5, iq6]
       obtain ⟨W9, hst, hr9, ht9⟩ := zk ((HB6.out.block w1.heap.size Lg.out).trans Hr2.out) rfl ⟨Ap, f.p.n, cp⟩ ⟨Av, f.v.n, cv⟩ ⟨Ak, f.k.n, ck⟩ f.nx
       have Hr9 := ihq hr9; have Ht9 := ihq ht9; have Hst := ihq hst
       clear hr9 ht9 hst
       refine wpAnyH_ready (rs := [15]) (by kernel_rfl) (by simp) ?_
       refine AllReadyH.cons rfl (fun K hK => ?_) AllReadyH.nil
       (try simp only [iq4, iq5, iq6])
       have hst := Hst.out
       go_simp
       have HB9 := ihq (show Below w1.heap.size w1 W9 from (Hb12.out.trans (HB6.out.mono Hb12.out.size)).trans (Ht9.out.below (fun k e => by omega) (Nat.le_trans Hb12.out.size HB6.out.size)))
       refine hK.out _ _ ?_ (fun _ => ?_)
       ·exact HB9.out
       clear hK K hHeld hst
       try simp only [Act.put, iq1, iq2, iq3, iq4, iq5, iq6]
       refine wpAnyH_done (by kernel_rfl) ?_ _
       go_wp2
       refine bodyPost_ret (results_cell_row rfl _ _ w1.heap.size 32 _ (0, 0) _ rfl Hr9.out Tryz.underlying32 rfl zw) rfl ?_
       exact yE HW.out Hb1.out Hb12.out Lg.out HB6.out Op6.out Ov6.out Ok6.out Ht9.out
      exact AllReadyH.nil
     exact AllReadyH.nil
    refine AllReadyH.cons rfl (fun K hK => ?_) ?_
    ·clear hHeld
     (try simp only [iq4, iq5, iq6])
     obtain ⟨V4, hV4⟩ : ∃ W, World.alloc V3 (.cells #[] 82) = W := ⟨_, rfl⟩
     have Ok4 := ihq (show World.ownsRow V4 w2.heap.size 82 5 (.slice (some ⟨(World.heap V3).size, 0, none⟩) 0 0) 0 [] from (by rw [<- hV4]; exact yk _ _ HB3.out.size))
     have hbn : Below (World.heap V3).size V3 V4 := by rw [<- hV4]; exact zg _ _
     have HB4 := ihq (HB3.out.trans (hbn.mono HB3.out.size))
     have Op4 := ihq (zh Op3.out hbn)
     have Ov4 := ihq (zh Ov3.out hbn)
     go_simp
     try rw [hV4]
     refine hK.out _ _ ?_ (fun hHeld => ?_)
     ·exact Hb12.out.trans (HB4.out.mono Hb12.out.size)
     clear hK K hbn hV4
     try simp only [Act.put, iq1, iq2, iq3, iq4, iq5, iq6]
     clear HB3 Op3 Ov3
     refine wpAnyH_ready (rs := [7]) (by kernel_rfl) (by simp) ?_
     refine AllReadyH.cons rfl (fun K hK => ?_) ?_
     ·clear hHeld
      (try simp only [iq4, iq5, iq6])
      refine zy (by rfl) ?_
      refine zF (.tmp 7) (.tmp 9) _ (by rfl) 49 _ 8 80 Tryz.underlying29 yG (by rfl) (by omega) w2.heap.size (some ⟨(World.heap V2).size, 0, none⟩) 0 0 [] (by rfl) Ov4.out f.v.A f.v.n f.v.c (vksV f.X) (by rfl) Lv.out (Sv.out _ HB4.out) (zS _) (by have := Mv.out; unfold maxLen; omega) (by have := Mv.out; omega) HB4.out.size ?_
      intro Av cv V5 hown hg hbk
      simp only [Nat.zero_add, List.nil_append] at hown ⊢
      have t : Turned (fun k => (Value.slice (some ⟨(World.heap V2).size, 0, none⟩) 0 0).ownBlock = some k) V4 V5 := Turned.of_grown hg (fun k e => e)
      have Ov5 := ihq hown
      have HB5 := ihq (HB4.out.trans (t.below (fun k e => (Ov4.out.lt k e).1) HB4.out.size))
      have Op5 := ihq (ze t Op4.out (fun k e => zq Op4.out Ov4.out (by decide) e))
      have Ok5 := ihq (ze t Ok4.out (fun k e => zq Ok4.out Ov4.out (by decide) e))
      refine hK.out _ _ ?_ (fun hHeld => ?_)
      ·exact Hb12.out.trans (HB5.out.mono Hb12.out.size)
      clear hK K hown hg hbk t
      try simp only [Act.put, iq1, iq2, iq3, iq4, iq5, iq6]
      clear HB4 Op4 Ov4 Ok4
      refine wpAnyH_ready (rs := [11]) (by kernel_rfl) (by simp) ?_
      refine AllReadyH.cons rfl (fun K hK => ?_) ?_
      ·clear hHeld
       (try simp only [iq4, iq5, iq6])
       refine zy (by rfl) ?_
       refine zF (.tmp 11) (.tmp 13) _ (by rfl) 82 _ 5 72 Tryz.underlying30 yI (by rfl) (by omega) w2.heap.size (some ⟨(World.heap V3).size, 0, none⟩) 0 0 [] (by rfl) Ok5.out f.k.A f.k.n f.k.c (cksV f.K) (by rfl) Lk.out (Sk.out _ HB5.out) (zV _) (by have := Mk.out; unfold maxLen; omega) (by have := Mk.out; omega) HB5.out.size ?_
       intro Ak ck V6 hown hg hbk
       simp only [Nat.zero_add, List.nil_append] at hown ⊢
       have t : Turned (fun k => (Value.slice (some ⟨(World.heap V3).size, 0, none⟩) 0 0).ownBlock = some k) V5 V6 := Turned.of_grown hg (fun k e => e)
       have Ok6 := ihq hown
       have HB6 := ihq (HB5.out.trans (t.below (fun k e => (Ok5.out.lt k e).1) HB5.out.size))
       have Op6 := ihq (ze t Op5.out (fun k e => zq Op5.out Ok5.out (by decide) e))
       have Ov6 := ihq (ze t Ov5.out (fun k e => zq Ov5.out Ok5.out (by decide) e))
       refine hK.out _ _ ?_ (fun hHeld => ?_)
       ·exact Hb12.out.trans (HB6.out.mono Hb12.out.size)
       clear hK K hown hg hbk t
       try simp only [Act.put, iq1, iq2, iq3, iq4, iq5, iq6]
       clear HB5 Op5 Ov5 Ok5
       refine wpAnyH_take (i := 14) (v := ?v10) rfl (by kernel_rfl) (by kernel_rfl) (by kernel_rfl) (fun _ _ _ h => h) (Or.inl ⟨by rfl, ?hy10⟩) (by assumption) ?rest10
       case hy10 => (intro w' hS; obtain ⟨t1, t2, t3, t4⟩ := Hc.out w' hS; (try simp only [iq4, iq5, iq6]); go_simp; try with_reducible rfl)
       try simp only [Act.put, iq1, iq2, iq3, iq4, iq5, iq6]
       obtain ⟨W9, hst, hr9, ht9⟩ := zk ((HB6.out.block w1.heap.size Lg.out).trans Hr2.out) rfl ⟨Ap, f.p.n, cp⟩ ⟨Av, f.v.n, cv⟩ ⟨Ak, f.k.n, ck⟩ f.nx
       have Hr9 := ihq hr9; have Ht9 := ihq ht9; have Hst := ihq hst
       clear hr9 ht9 hst
       refine wpAnyH_ready (rs := [15]) (by kernel_rfl) (by simp) ?_
       refine AllReadyH.cons rfl (fun K hK => ?_) AllReadyH.nil
       (try simp only [iq4, iq5, iq6])
       have hst := Hst.out
       go_simp
       have HB9 := ihq (show Below w1.heap.size w1 W9 from (Hb12.out.trans (HB6.out.mono Hb12.out.size)).trans (Ht9.out.below (fun k e => by omega) (Nat.le_trans Hb12.out.size HB6.out.size)))
       refine hK.out _ _ ?_ (fun _ => ?_)
       ·exact HB9.out
       clear hK K hHeld hst
       try simp only [Act.put, iq1, iq2, iq3, iq4, iq5, iq6]
       refine wpAnyH_done (by kernel_rfl) ?_ _
       go_wp2
       refine bodyPost_ret (results_cell_row rfl _ _ w1.heap.size 32 _ (0, 0) _ rfl Hr9.out Tryz.underlying32 rfl zw) rfl ?_
       exact yE HW.out Hb1.out Hb12.out Lg.out HB6.out Op6.out Ov6.out Ok6.out Ht9.out
      exact AllReadyH.nil
     exact AllReadyH.nil
    exact AllReadyH.nil
   refine AllReadyH.cons rfl (fun K hK => ?_) ?_
   ·clear hHeld
    (try simp only [iq4, iq5, iq6])
    obtain ⟨V3, hV3⟩ : ∃ W, World.alloc V2 (.cells #[] 82) = W := ⟨_, rfl⟩
    have Ok3 := ihq (show World.ownsRow V3 w2.heap.size 82 5 (.slice (some ⟨(World.heap V2).size, 0, none⟩) 0 0) 0 [] from (by rw [<- hV3]; exact yk _ _ HB2.out.size))
    have hbn : Below (World.heap V2).size V2 V3 := by rw [<- hV3]; exact zg _ _
    have HB3 := ihq (HB2.out.trans (hbn.mono HB2.out.size))
    have Op3 := ihq (zh Op2.out hbn)
    go_simp
    try rw [hV3]
    refine hK.out _ _ ?_ (fun hHeld => ?_)
    ·exact Hb12.out.trans (HB3.out.mono Hb12.out.size)
    clear hK K hbn hV3
    try simp only [Act.put, iq1, iq2, iq3, iq4, iq5, iq6]
    clear HB2 Op2
    refine wpAnyH_ready (rs := [4]) (by kernel_rfl) (by simp) ?_
    refine AllReadyH.cons rfl (fun K hK => ?_) ?_
    ·clear hHeld
     (try simp only [iq4, iq5, iq6])
     obtain ⟨V4, hV4⟩ : ∃ W, World.alloc V3 (.cells #[] 49) = W := ⟨_, rfl⟩
     have Ov4 := ihq (show World.ownsRow V4 w2.heap.size 49 8 (.slice (some ⟨(World.heap V3).size, 0, none⟩) 0 0) 0 [] from (by rw [<- hV4]; exact yk _ _ HB3.out.size))
     have hbn : Below (World.heap V3).size V3 V4 := by rw [<- hV4]; exact zg _ _
     have HB4 := ihq (HB3.out.trans (hbn.mono HB3.out.size))
     have Op4 := ihq (zh Op3.out hbn)
     have Ok4 := ihq (zh Ok3.out hbn)
     go_simp
     try rw [hV4]
     refine hK.out _ _ ?_ (fun hHeld => ?_)
     ·exact Hb12.out.trans (HB4.out.mono Hb12.out.size)
     clear hK K hbn hV4
     try simp only [Act.put, iq1, iq2, iq3, iq4, iq5, iq6]
     clear HB3 Op3 Ok3
     refine wpAnyH_ready (rs := [7]) (by kernel_rfl) (by simp) ?_
     refine AllReadyH.cons rfl (fun K hK => ?_) ?_
     ·clear hHeld
      (try simp only [iq4, iq5, iq6])
      refine zy (by rfl) ?_
      refine zF (.tmp 7) (.tmp 9) _ (by rfl) 49 _ 8 80 Tryz.underlying29 yG (by rfl) (by omega) w2.heap.size (some ⟨(World.heap V3).size, 0, none⟩) 0 0 [] (by rfl) Ov4.out f.v.A f.v.n f.v.c (vksV f.X) (by rfl) Lv.out (Sv.out _ HB4.out) (zS _) (by have := Mv.out; unfold maxLen; omega) (by have := Mv.out; omega) HB4.out.size ?_
      intro Av cv V5 hown hg hbk
      simp only [Nat.zero_add, List.nil_append] at hown ⊢
      have t : Turned (fun k => (Value.slice (some ⟨(World.heap V3).size, 0, none⟩) 0 0).ownBlock = some k) V4 V5 := Turned.of_grown hg (fun k e => e)
      have Ov5 := ihq hown
      have HB5 := ihq (HB4.out.trans (t.below (fun k e => (Ov4.out.lt k e).1) HB4.out.size))
      have Op5 := ihq (ze t Op4.out (fun k e => zq Op4.out Ov4.out (by decide) e))
      have Ok5 := ihq (ze t Ok4.out (fun k e => zq Ok4.out Ov4.out (by decide) e))
      refine hK.out _ _ ?_ (fun hHeld => ?_)
      ·exact Hb12.out.trans (HB5.out.mono Hb12.out.size)
      clear hK K hown hg hbk t
      try simp only [Act.put, iq1, iq2, iq3, iq4, iq5, iq6]
      clear HB4 Op4 Ov4 Ok4
      refine wpAnyH_ready (rs := [11]) (by kernel_rfl) (by simp) ?_
      refine AllReadyH.cons rfl (fun K hK => ?_) ?_
      ·clear hHeld
       (try simp only [iq4, iq5, iq6])
       refine zy (by rfl) ?_
       refine zF (.tmp 11) (.tmp 13) _ (by rfl) 82 _ 5 72 Tryz.underlying30 yI (by rfl) (by omega) w2.heap.size (some ⟨(World.heap V2).size, 0, none⟩) 0 0 [] (by rfl) Ok5.out f.k.A f.k.n f.k.c (cksV f.K) (by rfl) Lk.out (Sk.out _ HB5.out) (zV _) (by have := Mk.out; unfold maxLen; omega) (by have := Mk.out; omega) HB5.out.size ?_
       intro Ak ck V6 hown hg hbk
       simp only [Nat.zero_add, List.nil_append] at hown ⊢
       have t : Turned (fun k => (Value.slice (some ⟨(World.heap V2).size, 0, none⟩) 0 0).ownBlock = some k) V5 V6 := Turned.of_grown hg (fun k e => e)
       have Ok6 := ihq hown
       have HB6 := ihq (HB5.out.trans (t.below (fun k e => (Ok5.out.lt k e).1) HB5.out.size))
       have Op6 := ihq (ze t Op5.out (fun k e => zq Op5.out Ok5.out (by decide) e))
       have Ov6 := ihq (ze t Ov5.out (fun k e => zq Ov5.out Ok5.out (by decide) e))
       refine hK.out _ _ ?_ (fun hHeld => ?_)
       ·exact Hb12.out.trans (HB6.out.mono Hb12.out.size)
       clear hK K hown hg hbk t
       try simp only [Act.put, iq1, iq2, iq3, iq4, iq5, iq6]
       clear HB5 Op5 Ov5 Ok5
       refine wpAnyH_take (i := 14) (v := ?v11) rfl (by kernel_rfl) (by kernel_rfl) (by kernel_rfl) (fun _ _ _ h => h) (Or.inl ⟨by rfl, ?hy11⟩) (by assumption) ?rest11
       case hy11 => (intro w' hS; obtain ⟨t1, t2, t3, t4⟩ := Hc.out w' hS; (try simp only [iq4, iq5, iq6]); go_simp; try with_reducible rfl)
       try simp only [Act.put, iq1, iq2, iq3, iq4, iq5, iq6]
       obtain ⟨W9, hst, hr9, ht9⟩ := zk ((HB6.out.block w1.heap.size Lg.out).trans Hr2.out) rfl ⟨Ap, f.p.n, cp⟩ ⟨Av, f.v.n, cv⟩ ⟨Ak, f.k.n, ck⟩ f.nx
       have Hr9 := ihq hr9; have Ht9 := ihq ht9; have Hst := ihq hst
       clear hr9 ht9 hst
       refine wpAnyH_ready (rs := [15]) (by kernel_rfl) (by simp) ?_
       refine AllReadyH.cons rfl (fun K hK => ?_) AllReadyH.nil
       (try simp only [iq4, iq5, iq6])
       have hst := Hst.out
       go_simp
       have HB9 := ihq (show Below w1.heap.size w1 W9 from (Hb12.out.trans (HB6.out.mono Hb12.out.size)).trans (Ht9.out.below (fun k e => by omega) (Nat.le_trans Hb12.out.size HB6.out.size)))
       refine hK.out _ _ ?_ (fun _ => ?_)
       ·exact HB9.out
       clear hK K hHeld hst
       try simp only [Act.put, iq1, iq2, iq3, iq4, iq5, iq6]
       refine wpAnyH_done (by kernel_rfl) ?_ _
       go_wp2
       refine bodyPost_ret (results_cell_row rfl _ _ w1.heap.size 32 _ (0, 0) _ rfl Hr9.out Tryz.underlying32 rfl zw) rfl ?_
       exact yE HW.out Hb1.out Hb12.out Lg.out HB6.out Op6.out Ov6.out Ok6.out Ht9.out
      exact AllReadyH.nil
     exact AllReadyH.nil
    exact AllReadyH.nil
   exact AllReadyH.nil
  refine AllReadyH.cons rfl (fun K hK => ?_) ?_
  ·clear hHeld
   (try simp only [iq4, iq5, iq6])
   obtain ⟨V2, hV2⟩ : ∃ W, World.alloc V1 (.cells #[] 49) = W := ⟨_, rfl⟩
   have Ov2 := ihq (show World.ownsRow V2 w2.heap.size 49 8 (.slice (some ⟨(World.heap V1).size, 0, none⟩) 0 0) 0 [] from (by rw [<- hV2]; exact yk _ _ HB1.out.size))
   have hbn : Below (World.heap V1).size V1 V2 := by rw [<- hV2]; exact zg _ _
   have HB2 := ihq (HB1.out.trans (hbn.mono HB1.out.size))
   have Op2 := ihq (zh Op1.out hbn)
   go_simp
   try rw [hV2]
   refine hK.out _ _ ?_ (fun hHeld => ?_)
   ·exact Hb12.out.trans (HB2.out.mono Hb12.out.size)
   clear hK K hbn hV2
   try simp only [Act.put, iq1, iq2, iq3, iq4, iq5, iq6]
   clear HB1 Op1
   refine wpAnyH_ready (rs := [3, 8]) (by kernel_rfl) (by simp) ?_
   refine AllReadyH.cons rfl (fun K hK => ?_) ?_
   ·clear hHeld
    (try simp only [iq4, iq5, iq6])
    refine zy (by rfl) ?_
    refine zF (.tmp 3) (.tmp 5) _ (by rfl) 3 _ 1 8 Tryz.underlying28 zP (by rfl) (by omega) w2.heap.size (some ⟨(World.heap w2.drew).size, 0, none⟩) 0 0 [] (by rfl) Op2.out f.p.A f.p.n f.p.c (zo (yJ f.pk)) (by rfl) Lp.out (Sp.out _ HB2.out) (yf _) (by have := Mp.out; unfold maxLen; omega) (by have := Mp.out; omega) HB2.out.size ?_
    intro Ap cp V3 hown hg hbk
    simp only [Nat.zero_add, List.nil_append] at hown ⊢
    have t : Turned (fun k => (Value.slice (some ⟨(World.heap w2.drew).size, 0, none⟩) 0 0).ownBlock = some k) V2 V3 := Turned.of_grown hg (fun k e => e)
    have Op3 := ihq hown
    have HB3 := ihq (HB2.out.trans (t.below (fun k e => (Op2.out.lt k e).1) HB2.out.size))
    have Ov3 := ihq (ze t Ov2.out (fun k e => zq Ov2.out Op2.out (by decide) e))
    refine hK.out _ _ ?_ (fun hHeld => ?_)
    ·exact Hb12.out.trans (HB3.out.mono Hb12.out.size)
    clear hK K hown hg hbk t
    try simp only [Act.put, iq1, iq2, iq3, iq4, iq5, iq6]
    clear HB2 Op2 Ov2
    refine wpAnyH_ready (rs := [7, 8]) (by kernel_rfl) (by simp) ?_
    refine AllReadyH.cons rfl (fun K hK => ?_) ?_
    ·clear hHeld
     (try simp only [iq4, iq5, iq6])
     refine zy (by rfl) ?_
     refine zF (.tmp 7) (.tmp 9) _ (by rfl) 49 _ 8 80 Tryz.underlying29 yG (by rfl) (by omega) w2.heap.size (some ⟨(World.heap V1).size, 0, none⟩) 0 0 [] (by rfl) Ov3.out f.v.A f.v.n f.v.c (vksV f.X) (by rfl) Lv.out (Sv.out _ HB3.out) (zS _) (by have := Mv.out; unfold maxLen; omega) (by have := Mv.out; omega) HB3.out.size ?_
     intro Av cv V4 hown hg hbk
     simp only [Nat.zero_add, List.nil_append] at hown ⊢
     have t : Turned (fun k => (Value.slice (some ⟨(World.heap V1).size, 0, none⟩) 0 0).ownBlock = some k) V3 V4 := Turned.of_grown hg (fun k e => e)
     have Ov4 := ihq hown
     have HB4 := ihq (HB3.out.trans (t.below (fun k e => (Ov3.out.lt k e).1) HB3.out.size))
     have Op4 := ihq (ze t Op3.out (fun k e => zq Op3.out Ov3.out (by decide) e))
     refine hK.out _ _ ?_ (fun hHeld => ?_)
     ·exact Hb12.out.trans (HB4.out.mono Hb12.out.size)
     clear hK K hown hg hbk t
     try simp only [Act.put, iq1, iq2, iq3, iq4, iq5, iq6]
     clear HB3 Op3 Ov3
     refine wpAnyH_ready (rs := [8]) (by kernel_rfl) (by simp) ?_
     refine AllReadyH.cons rfl (fun K hK => ?_) ?_
     ·clear hHeld
      (try simp only [iq4, iq5, iq6])
      obtain ⟨V5, hV5⟩ : ∃ W, World.alloc V4 (.cells #[] 82) = W := ⟨_, rfl⟩
      have Ok5 := ihq (show World.ownsRow V5 w2.heap.size 82 5 (.slice (some ⟨(World.heap V4).size, 0, none⟩) 0 0) 0 [] from (by rw [<- hV5]; exact yk _ _ HB4.out.size))
      have hbn : Below (World.heap V4).size V4 V5 := by rw [<- hV5]; exact zg _ _
      have HB5 := ihq (HB4.out.trans (hbn.mono HB4.out.size))
      have Op5 := ihq (zh Op4.out hbn)
      have Ov5 := ihq (zh Ov4.out hbn)
      go_simp
      try rw [hV5]
      refine hK.out _ _ ?_ (fun hHeld => ?_)
      ·exact Hb12.out.trans (HB5.out.mono Hb12.out.size)
      clear hK K hbn hV5
      try simp only [Act.put, iq1, iq2, iq3, iq4, iq5, iq6]
      clear HB4 Op4 Ov4
      refine wpAnyH_ready (rs := [11]) (by kernel_rfl) (by simp) ?_
      refine AllReadyH.cons rfl (fun K hK => ?_) ?_
      ·clear hHeld
       (try simp only [iq4, iq5, iq6])
       refine zy (by rfl) ?_
       refine zF (.tmp 11) (.tmp 13) _ (by rfl) 82 _ 5 72 Tryz.underlying30 yI (by rfl) (by omega) w2.heap.size (some ⟨(World.heap V4).size, 0, none⟩) 0 0 [] (by rfl) Ok5.out f.k.A f.k.n f.k.c (cksV f.K) (by rfl) Lk.out (Sk.out _ HB5.out) (zV _) (by have := Mk.out; unfold maxLen; omega) (by have := Mk.out; omega) HB5.out.size ?_
       intro Ak ck V6 hown hg hbk
       simp only [Nat.zero_add, List.nil_append] at hown ⊢
       have t : Turned (fun k => (Value.slice (some ⟨(World.heap V4).size, 0, none⟩) 0 0).ownBlock = some k) V5 V6 := Turned.of_grown hg (fun k e => e)
       have Ok6 := ihq hown
       have HB6 := ihq (HB5.out.trans (t.below (fun k e => (Ok5.out.lt k e).1) HB5.out.size))
       have Op6 := ihq (ze t Op5.out (fun k e => zq Op5.out Ok5.out (by decide) e))
       have Ov6 := ihq (ze t Ov5.out (fun k e => zq Ov5.out Ok5.out (by decide) e))
       refine hK.out _ _ ?_ (fun hHeld => ?_)
       ·exact Hb12.out.trans (HB6.out.mono Hb12.out.size)
       clear hK K hown hg hbk t
       try simp only [Act.put, iq1, iq2, iq3, iq4, iq5, iq6]
       clear HB5 Op5 Ov5 Ok5
       refine wpAnyH_take (i := 14) (v := ?v12) rfl (by kernel_rfl) (by kernel_rfl) (by kernel_rfl) (fun _ _ _ h => h) (Or.inl ⟨by rfl, ?hy12⟩) (by assumption) ?rest12
       case hy12 => (intro w' hS; obtain ⟨t1, t2, t3, t4⟩ := Hc.out w' hS; (try simp only [iq4, iq5, iq6]); go_simp; try with_reducible rfl)
       try simp only [Act.put, iq1, iq2, iq3, iq4, iq5, iq6]
       obtain ⟨W9, hst, hr9, ht9⟩ := zk ((HB6.out.block w1.heap.size Lg.out).trans Hr2.out) rfl ⟨Ap, f.p.n, cp⟩ ⟨Av, f.v.n, cv⟩ ⟨Ak, f.k.n, ck⟩ f.nx
       have Hr9 := ihq hr9; have Ht9 := ihq ht9; have Hst := ihq hst
       clear hr9 ht9 hst
       refine wpAnyH_ready (rs := [15]) (by kernel_rfl) (by simp) ?_
       refine AllReadyH.cons rfl (fun K hK => ?_) AllReadyH.nil
       (try simp only [iq4, iq5, iq6])
       have hst := Hst.out
       go_simp
       have HB9 := ihq (show Below w1.heap.size w1 W9 from (Hb12.out.trans (HB6.out.mono Hb12.out.size)).trans (Ht9.out.below (fun k e => by omega) (Nat.le_trans Hb12.out.size HB6.out.size)))
       refine hK.out _ _ ?_ (fun _ => ?_)
       ·exact HB9.out
       clear hK K hHeld hst
       try simp only [Act.put, iq1, iq2, iq3, iq4, iq5, iq6]
       refine wpAnyH_done (by kernel_rfl) ?_ _
       go_wp2
       refine bodyPost_ret (results_cell_row rfl _ _ w1.heap.size 32 _ (0, 0) _ rfl Hr9.out Tryz.underlying32 rfl zw) rfl ?_
       exact yE HW.out Hb1.out Hb12.out Lg.out HB6.out Op6.out Ov6.out Ok6.out Ht9.out
      exact AllReadyH.nil
     exact AllReadyH.nil
    refine AllReadyH.cons rfl (fun K hK => ?_) ?_
    ·clear hHeld
     (try simp only [iq4, iq5, iq6])
     obtain ⟨V4, hV4⟩ : ∃ W, World.alloc V3 (.cells #[] 82) = W := ⟨_, rfl⟩
     have Ok4 := ihq (show World.ownsRow V4 w2.heap.size 82 5 (.slice (some ⟨(World.heap V3).size, 0, none⟩) 0 0) 0 [] from (by rw [<- hV4]; exact yk _ _ HB3.out.size))
     have hbn : Below (World.heap V3).size V3 V4 := by rw [<- hV4]; exact zg _ _
     have HB4 := ihq (HB3.out.trans (hbn.mono HB3.out.size))
     have Op4 := ihq (zh Op3.out hbn)
     have Ov4 := ihq (zh Ov3.out hbn)
     go_simp
     try rw [hV4]
     refine hK.out _ _ ?_ (fun hHeld => ?_)
     ·exact Hb12.out.trans (HB4.out.mono Hb12.out.size)
     clear hK K hbn hV4
     try simp only [Act.put, iq1, iq2, iq3, iq4, iq5, iq6]
     clear HB3 Op3 Ov3
     refine wpAnyH_ready (rs := [7]) (by kernel_rfl) (by simp) ?_
     refine AllReadyH.cons rfl (fun K hK => ?_) ?_
     ·clear hHeld
      (try simp only [iq4, iq5, iq6])
      refine zy (by rfl) ?_
      refine zF (.tmp 7) (.tmp 9) _ (by rfl) 49 _ 8 80 Tryz.underlying29 yG (by rfl) (by omega) w2.heap.size (some ⟨(World.heap V1).size, 0, none⟩) 0 0 [] (by rfl) Ov4.out f.v.A f.v.n f.v.c (vksV f.X) (by rfl) Lv.out (Sv.out _ HB4.out) (zS _) (by have := Mv.out; unfold maxLen; omega) (by have := Mv.out; omega) HB4.out.size ?_
      intro Av cv V5 hown hg hbk
      simp only [Nat.zero_add, List.nil_append] at hown ⊢
      have t : Turned (fun k => (Value.slice (some ⟨(World.heap V1).size, 0, none⟩) 0 0).ownBlock = some k) V4 V5 := Turned.of_grown hg (fun k e => e)
      have Ov5 := ihq hown
      have HB5 := ihq (HB4.out.trans (t.below (fun k e => (Ov4.out.lt k e).1) HB4.out.size))
      have Op5 := ihq (ze t Op4.out (fun k e => zq Op4.out Ov4.out (by decide) e))
      have Ok5 := ihq (ze t Ok4.out (fun k e => zq Ok4.out Ov4.out (by decide) e))
      refine hK.out _ _ ?_ (fun hHeld => ?_)
      ·exact Hb12.out.trans (HB5.out.mono Hb12.out.size)
      clear hK K hown hg hbk t
      try simp only [Act.put, iq1, iq2, iq3, iq4, iq5, iq6]
      clear HB4 Op4 Ov4 Ok4
      refine wpAnyH_ready (rs := [11]) (by kernel_rfl) (by simp) ?_
      refine AllReadyH.cons rfl (fun K hK => ?_) ?_
      ·clear hHeld
       (try simp only [iq4, iq5, iq6])
       refine zy (by rfl) ?_
       refine zF (.tmp 11) (.tmp 13) _ (by rfl) 82 _ 5 72 Tryz.underlying30 yI (by rfl) (by omega) w2.heap.size (some ⟨(World.heap V3).size, 0, none⟩) 0 0 [] (by rfl) Ok5.out f.k.A f.k.n f.k.c (cksV f.K) (by rfl) Lk.out (Sk.out _ HB5.out) (zV _) (by have := Mk.out; unfold maxLen; omega) (by have := Mk.out; omega) HB5.out.size ?_
       intro Ak ck V6 hown hg hbk
       simp only [Nat.zero_add, List.nil_append] at hown ⊢
       have t : Turned (fun k => (Value.slice (some ⟨(World.heap V3).size, 0, none⟩) 0 0).ownBlock = some k) V5 V6 := Turned.of_grown hg (fun k e => e)
       have Ok6 := ihq hown
       have HB6 := ihq (HB5.out.trans (t.below (fun k e => (Ok5.out.lt k e).1) HB5.out.size))
       have Op6 := ihq (ze t Op5.out (fun k e => zq Op5.out Ok5.out (by decide) e))
       have Ov6 := ihq (ze t Ov5.out (fun k e => zq Ov5.out Ok5.out (by decide) e))
       refine hK.out _ _ ?_ (fun hHeld => ?_)
       ·exact Hb12.out.trans (HB6.out.mono Hb12.out.size)
       clear hK K hown hg hbk t
       try simp only [Act.put, iq1, iq2, iq3, iq4, iq5, iq6]
       clear HB5 Op5 Ov5 Ok5
       refine wpAnyH_take (i := 14) (v := ?v13) rfl (by kernel_rfl) (by kernel_rfl) (by kernel_rfl) (fun _ _ _ h => h) (Or.inl ⟨by rfl, ?hy13⟩) (by assumption) ?rest13
       case hy13 => (intro w' hS; obtain ⟨t1, t2, t3, t4⟩ := Hc.out w' hS; (try simp only [iq4, iq5, iq6]); go_simp; try with_reducible rfl)
       try simp only [Act.put, iq1, iq2, iq3, iq4, iq5, iq6]
       obtain ⟨W9, hst, hr9, ht9⟩ := zk ((HB6.out.block w1.heap.size Lg.out).trans Hr2.out) rfl ⟨Ap, f.p.n, cp⟩ ⟨Av, f.v.n, cv⟩ ⟨Ak, f.k.n, ck⟩ f.nx
       have Hr9 := ihq hr9; have Ht9 := ihq ht9; have Hst := ihq hst
       clear hr9 ht9 hst
       refine wpAnyH_ready (rs := [15]) (by kernel_rfl) (by simp) ?_
       refine AllReadyH.cons rfl (fun K hK => ?_) AllReadyH.nil
       (try simp only [iq4, iq5, iq6])
       have hst := Hst.out
       go_simp
       have HB9 := ihq (show Below w1.heap.size w1 W9 from (Hb12.out.trans (HB6.out.mono Hb12.out.size)).trans (Ht9.out.below (fun k e => by omega) (Nat.le_trans Hb12.out.size HB6.out.size)))
       refine hK.out _ _ ?_ (fun _ => ?_)
       ·exact HB9.out
       clear hK K hHeld hst
       try simp only [Act.put, iq1, iq2, iq3, iq4, iq5, iq6]
       refine wpAnyH_done (by kernel_rfl) ?_ _
       go_wp2
       refine bodyPost_ret (results_cell_row rfl _ _ w1.heap.size 32 _ (0, 0) _ rfl Hr9.out Tryz.underlying32 rfl zw) rfl ?_
       exact yE HW.out Hb1.out Hb12.out Lg.out HB6.out Op6.out Ov6.out Ok6.out Ht9.out
      exact AllReadyH.nil
     exact AllReadyH.nil
    exact AllReadyH.nil
   refine AllReadyH.cons rfl (fun K hK => ?_) ?_
   ·clear hHeld
    (try simp only [iq4, iq5, iq6])
    obtain ⟨V3, hV3⟩ : ∃ W, World.alloc V2 (.cells #[] 82) = W := ⟨_, rfl⟩
    have Ok3 := ihq (show World.ownsRow V3 w2.heap.size 82 5 (.slice (some ⟨(World.heap V2).size, 0, none⟩) 0 0) 0 [] from (by rw [<- hV3]; exact yk _ _ HB2.out.size))
    have hbn : Below (World.heap V2).size V2 V3 := by rw [<- hV3]; exact zg _ _
    have HB3 := ihq (HB2.out.trans (hbn.mono HB2.out.size))
    have Op3 := ihq (zh Op2.out hbn)
    have Ov3 := ihq (zh Ov2.out hbn)
    go_simp
    try rw [hV3]
    refine hK.out _ _ ?_ (fun hHeld => ?_)
    ·exact Hb12.out.trans (HB3.out.mono Hb12.out.size)
    clear hK K hbn hV3
    try simp only [Act.put, iq1, iq2, iq3, iq4, iq5, iq6]
    clear HB2 Op2 Ov2
    refine wpAnyH_ready (rs := [3]) (by kernel_rfl) (by simp) ?_
    refine AllReadyH.cons rfl (fun K hK => ?_) ?_
    ·clear hHeld
     (try simp only [iq4, iq5, iq6])
     refine zy (by rfl) ?_
     refine zF (.tmp 3) (.tmp 5) _ (by rfl) 3 _ 1 8 Tryz.underlying28 zP (by rfl) (by omega) w2.heap.size (some ⟨(World.heap w2.drew).size, 0, none⟩) 0 0 [] (by rfl) Op3.out f.p.A f.p.n f.p.c (zo (yJ f.pk)) (by rfl) Lp.out (Sp.out _ HB3.out) (yf _) (by have := Mp.out; unfold maxLen; omega) (by have := Mp.out; omega) HB3.out.size ?_
     intro Ap cp V4 hown hg hbk
     simp only [Nat.zero_add, List.nil_append] at hown ⊢
     have t : Turned (fun k => (Value.slice (some ⟨(World.heap w2.drew).size, 0, none⟩) 0 0).ownBlock = some k) V3 V4 := Turned.of_grown hg (fun k e => e)
     have Op4 := ihq hown
     have HB4 := ihq (HB3.out.trans (t.below (fun k e => (Op3.out.lt k e).1) HB3.out.size))
     have Ov4 := ihq (ze t Ov3.out (fun k e => zq Ov3.out Op3.out (by decide) e))
     have Ok4 := ihq (ze t Ok3.out (fun k e => zq Ok3.out Op3.out (by decide) e))
     refine hK.out _ _ ?_ (fun hHeld => ?_)
     ·exact Hb12.out.trans (HB4.out.mono Hb12.out.size)
     clear hK K hown hg hbk t
     try simp only [Act.put, iq1, iq2, iq3, iq4, iq5, iq6]
     clear HB3 Op3 Ov3 Ok3
     refine wpAnyH_ready (rs := [7]) (by kernel_rfl) (by simp) ?_
     refine AllReadyH.cons rfl (fun K hK => ?_) ?_
     ·clear hHeld
      (try simp only [iq4, iq5, iq6])
      refine zy (by rfl) ?_
      refine zF (.tmp 7) (.tmp 9) _ (by rfl) 49 _ 8 80 Tryz.underlying29 yG (by rfl) (by omega) w2.heap.size (some ⟨(World.heap V1).size, 0, none⟩) 0 0 [] (by rfl) Ov4.out f.v.A f.v.n f.v.c (vksV f.X) (by rfl) Lv.out (Sv.out _ HB4.out) (zS _) (by have := Mv.out; unfold maxLen; omega) (by have := Mv.out; omega) HB4.out.size ?_
      intro Av cv V5 hown hg hbk
      simp only [Nat.zero_add, List.nil_append] at hown ⊢
      have t : Turned (fun k => (Value.slice (some ⟨(World.heap V1).size, 0, none⟩) 0 0).ownBlock = some k) V4 V5 := Turned.of_grown hg (fun k e => e)
      have Ov5 := ihq hown
      have HB5 := ihq (HB4.out.trans (t.below (fun k e => (Ov4.out.lt k e).1) HB4.out.size))
      have Op5 := ihq (ze t Op4.out (fun k e => zq Op4.out Ov4.out (by decide) e))
      have Ok5 := ihq (ze t Ok4.out (fun k e => zq Ok4.out Ov4.out (by decide) e))
      refine hK.out _ _ ?_ (fun hHeld => ?_)
      ·exact Hb12.out.trans (HB5.out.mono Hb12.out.size)
      clear hK K hown hg hbk t
      try simp only [Act.put, iq1, iq2, iq3, iq4, iq5, iq6]
      clear HB4 Op4 Ov4 Ok4
      refine wpAnyH_ready (rs := [11]) (by kernel_rfl) (by simp) ?_
      refine AllReadyH.cons rfl (fun K hK => ?_) ?_
      ·clear hHeld
       (try simp only [iq4, iq5, iq6])
       refine zy (by rfl) ?_
       refine zF (.tmp 11) (.tmp 13) _ (by rfl) 82 _ 5 72 Tryz.underlying30 yI (by rfl) (by omega) w2.heap.size (some ⟨(World.heap V2).size, 0, none⟩) 0 0 [] (by rfl) Ok5.out f.k.A f.k.n f.k.c (cksV f.K) (by rfl) Lk.out (Sk.out _ HB5.out) (zV _) (by have := Mk.out; unfold maxLen; omega) (by have := Mk.out; omega) HB5.out.size ?_
       intro Ak ck V6 hown hg hbk
       simp only [Nat.zero_add, List.nil_append] at hown ⊢
       have t : Turned (fun k => (Value.slice (some ⟨(World.heap V2).size, 0, none⟩) 0 0).ownBlock = some k) V5 V6 := Turned.of_grown hg (fun k e => e)
       have Ok6 := ihq hown
       have HB6 := ihq (HB5.out.trans (t.below (fun k e => (Ok5.out.lt k e).1) HB5.out.size))
       have Op6 := ihq (ze t Op5.out (fun k e => zq Op5.out Ok5.out (by decide) e))
       have Ov6 := ihq (ze t Ov5.out (fun k e => zq Ov5.out Ok5.out (by decide) e))
       refine hK.out _ _ ?_ (fun hHeld => ?_)
       ·exact Hb12.out.trans (HB6.out.mono Hb12.out.size)
       clear hK K hown hg hbk t
       try simp only [Act.put, iq1, iq2, iq3, iq4, iq5, iq6]
       clear HB5 Op5 Ov5 Ok5
       refine wpAnyH_take (i := 14) (v := ?v14) rfl (by kernel_rfl) (by kernel_rfl) (by kernel_rfl) (fun _ _ _ h => h) (Or.inl ⟨by rfl, ?hy14⟩) (by assumption) ?rest14
       case hy14 => (intro w' hS; obtain ⟨t1, t2, t3, t4⟩ := Hc.out w' hS; (try simp only [iq4, iq5, iq6]); go_simp; try with_reducible rfl)
       try simp only [Act.put, iq1, iq2, iq3, iq4, iq5, iq6]
       obtain ⟨W9, hst, hr9, ht9⟩ := zk ((HB6.out.block w1.heap.size Lg.out).trans Hr2.out) rfl ⟨Ap, f.p.n, cp⟩ ⟨Av, f.v.n, cv⟩ ⟨Ak, f.k.n, ck⟩ f.nx
       have Hr9 := ihq hr9; have Ht9 := ihq ht9; have Hst := ihq hst
       clear hr9 ht9 hst
       refine wpAnyH_ready (rs := [15]) (by kernel_rfl) (by simp) ?_
       refine AllReadyH.cons rfl (fun K hK => ?_) AllReadyH.nil
       (try simp only [iq4, iq5, iq6])
       have hst := Hst.out
       go_simp
       have HB9 := ihq (show Below w1.heap.size w1 W9 from (Hb12.out.trans (HB6.out.mono Hb12.out.size)).trans (Ht9.out.below (fun k e => by omega) (Nat.le_trans Hb12.out.size HB6.out.size)))
       refine hK.out _ _ ?_ (fun _ => ?_)
       ·exact HB9.out
       clear hK K hHeld hst
       try simp only [Act.put, iq1, iq2, iq3, iq4, iq5, iq6]
       refine wpAnyH_done (by kernel_rfl) ?_ _
       go_wp2
       refine bodyPost_ret (results_cell_row rfl _ _ w1.heap.size 32 _ (0, 0) _ rfl Hr9.out Tryz.underlying32 rfl zw) rfl ?_
       exact yE HW.out Hb1.out Hb12.out Lg.out HB6.out Op6.out Ov6.out Ok6.out Ht9.out
      exact AllReadyH.nil
     exact AllReadyH.nil
    exact AllReadyH.nil
   exact AllReadyH.nil
  refine AllReadyH.cons rfl (fun K hK => ?_) ?_
  ·clear hHeld
   (try simp only [iq4, iq5, iq6])
   obtain ⟨V2, hV2⟩ : ∃ W, World.alloc V1 (.cells #[] 82) = W := ⟨_, rfl⟩
   have Ok2 := ihq (show World.ownsRow V2 w2.heap.size 82 5 (.slice (some ⟨(World.heap V1).size, 0, none⟩) 0 0) 0 [] from (by rw [<- hV2]; exact yk _ _ HB1.out.size))
   have hbn : Below (World.heap V1).size V1 V2 := by rw [<- hV2]; exact zg _ _
   have HB2 := ihq (HB1.out.trans (hbn.mono HB1.out.size))
   have Op2 := ihq (zh Op1.out hbn)
   go_simp
   try rw [hV2]
   refine hK.out _ _ ?_ (fun hHeld => ?_)
   ·exact Hb12.out.trans (HB2.out.mono Hb12.out.size)
   clear hK K hbn hV2
   try simp only [Act.put, iq1, iq2, iq3, iq4, iq5, iq6]
   clear HB1 Op1
   refine wpAnyH_ready (rs := [3, 4]) (by kernel_rfl) (by simp) ?_
   refine AllReadyH.cons rfl (fun K hK => ?_) ?_
   ·clear hHeld
    (try simp only [iq4, iq5, iq6])
    refine zy (by rfl) ?_
    refine zF (.tmp 3) (.tmp 5) _ (by rfl) 3 _ 1 8 Tryz.underlying28 zP (by rfl) (by omega) w2.heap.size (some ⟨(World.heap w2.drew).size, 0, none⟩) 0 0 [] (by rfl) Op2.out f.p.A f.p.n f.p.c (zo (yJ f.pk)) (by rfl) Lp.out (Sp.out _ HB2.out) (yf _) (by have := Mp.out; unfold maxLen; omega) (by have := Mp.out; omega) HB2.out.size ?_
    intro Ap cp V3 hown hg hbk
    simp only [Nat.zero_add, List.nil_append] at hown ⊢
    have t : Turned (fun k => (Value.slice (some ⟨(World.heap w2.drew).size, 0, none⟩) 0 0).ownBlock = some k) V2 V3 := Turned.of_grown hg (fun k e => e)
    have Op3 := ihq hown
    have HB3 := ihq (HB2.out.trans (t.below (fun k e => (Op2.out.lt k e).1) HB2.out.size))
    have Ok3 := ihq (ze t Ok2.out (fun k e => zq Ok2.out Op2.out (by decide) e))
    refine hK.out _ _ ?_ (fun hHeld => ?_)
    ·exact Hb12.out.trans (HB3.out.mono Hb12.out.size)
    clear hK K hown hg hbk t
    try simp only [Act.put, iq1, iq2, iq3, iq4, iq5, iq6]
    clear HB2 Op2 Ok2
    refine wpAnyH_ready (rs := [4]) (by kernel_rfl) (by simp) ?_
    refine AllReadyH.cons rfl (fun K hK => ?_) ?_
    ·clear hHeld
     (try simp only [iq4, iq5, iq6])
     obtain ⟨V4, hV4⟩ : ∃ W, World.alloc V3 (.cells #[] 49) = W := ⟨_, rfl⟩
     have Ov4 := ihq (show World.ownsRow V4 w2.heap.size 49 8 (.slice (some ⟨(World.heap V3).size, 0, none⟩) 0 0) 0 [] from (by rw [<- hV4]; exact yk _ _ HB3.out.size))
     have hbn : Below (World.heap V3).size V3 V4 := by rw [<- hV4]; exact zg _ _
     have HB4 := ihq (HB3.out.trans (hbn.mono HB3.out.size))
     have Op4 := ihq (zh Op3.out hbn)
     have Ok4 := ihq (zh Ok3.out hbn)
     go_simp
     try rw [hV4]
     refine hK.out _ _ ?_ (fun hHeld => ?_)
     ·exact Hb12.out.trans (HB4.out.mono Hb12.out.size)
     clear hK K hbn hV4
     try simp only [Act.put, iq1, iq2, iq3, iq4, iq5, iq6]
     clear HB3 Op3 Ok3
     refine wpAnyH_ready (rs := [7]) (by kernel_rfl) (by simp) ?_
     refine AllReadyH.cons rfl (fun K hK => ?_) ?_
     ·clear hHeld
      (try simp only [iq4, iq5, iq6])
      refine zy (by rfl) ?_
      refine zF (.tmp 7) (.tmp 9) _ (by rfl) 49 _ 8 80 Tryz.underlying29 yG (by rfl) (by omega) w2.heap.size (some ⟨(World.heap V3).size, 0, none⟩) 0 0 [] (by rfl) Ov4.out f.v.A f.v.n f.v.c (vksV f.X) (by rfl) Lv.out (Sv.out _ HB4.out) (zS _) (by have := Mv.out; unfold maxLen; omega) (by have := Mv.out; omega) HB4.out.size ?_
      intro Av cv V5 hown hg hbk
      simp only [Nat.zero_add, List.nil_append] at hown ⊢
      have t : Turned (fun k => (Value.slice (some ⟨(World.heap V3).size, 0, none⟩) 0 0).ownBlock = some k) V4 V5 := Turned.of_grown hg (fun k e => e)
      have Ov5 := ihq hown
      have HB5 := ihq (HB4.out.trans (t.below (fun k e => (Ov4.out.lt k e).1) HB4.out.size))
      have Op5 := ihq (ze t Op4.out (fun k e => zq Op4.out Ov4.out (by decide) e))
      have Ok5 := ihq (ze t Ok4.out (fun k e => zq Ok4.out Ov4.out (by decide) e))
      refine hK.out _ _ ?_ (fun hHeld => ?_)
      ·exact Hb12.out.trans (HB5.out.mono Hb12.out.size)
      clear hK K hown hg hbk t
      try simp only [Act.put, iq1, iq2, iq3, iq4, iq5, iq6]
      clear HB4 Op4 Ov4 Ok4
      refine wpAnyH_ready (rs := [11]) (by kernel_rfl) (by simp) ?_
      refine AllReadyH.cons rfl (fun K hK => ?_) ?_
      ·clear hHeld
       (try simp only [iq4, iq5, iq6])
       refine zy (by rfl) ?_
       refine zF (.tmp 11) (.tmp 13) _ (by rfl) 82 _ 5 72 Tryz.underlying30 yI (by rfl) (by omega) w2.heap.size (some ⟨(World.heap V1).size, 0, none⟩) 0 0 [] (by rfl) Ok5.out f.k.A f.k.n f.k.c (cksV f.K) (by rfl) Lk.out (Sk.out _ HB5.out) (zV _) (by have := Mk.out; unfold maxLen; omega) (by have := Mk.out; omega) HB5.out.size ?_
       intro Ak ck V6 hown hg hbk
       simp only [Nat.zero_add, List.nil_append] at hown ⊢
       have t : Turned (fun k => (Value.slice (some ⟨(World.heap V1).size, 0, none⟩) 0 0).ownBlock = some k) V5 V6 := Turned.of_grown hg (fun k e => e)
       have Ok6 := ihq hown
       have HB6 := ihq (HB5.out.trans (t.below (fun k e => (Ok5.out.lt k e).1) HB5.out.size))
       have Op6 := ihq (ze t Op5.out (fun k e => zq Op5.out Ok5.out (by decide) e))
       have Ov6 := ihq (ze t Ov5.out (fun k e => zq Ov5.out Ok5.out (by decide) e))
       refine hK.out _ _ ?_ (fun hHeld => ?_)
       ·exact Hb12.out.trans (HB6.out.mono Hb12.out.size)
       clear hK K hown hg hbk t
       try simp only [Act.put, iq1, iq2, iq3, iq4, iq5, iq6]
       clear HB5 Op5 Ov5 Ok5
       refine wpAnyH_take (i := 14) (v := ?v15) rfl (by kernel_rfl) (by kernel_rfl) (by kernel_rfl) (fun _ _ _ h => h) (Or.inl ⟨by rfl, ?hy15⟩) (by assumption) ?rest15
       case hy15 => (intro w' hS; obtain ⟨t1, t2, t3, t4⟩ := Hc.out w' hS; (try simp only [iq4, iq5, iq6]); go_simp; try with_reducible rfl)
       try simp only [Act.put, iq1, iq2, iq3, iq4, iq5, iq6]
       obtain ⟨W9, hst, hr9, ht9⟩ := zk ((HB6.out.block w1.heap.size Lg.out).trans Hr2.out) rfl ⟨Ap, f.p.n, cp⟩ ⟨Av, f.v.n, cv⟩ ⟨Ak, f.k.n, ck⟩ f.nx
       have Hr9 := ihq hr9; have Ht9 := ihq ht9; have Hst := ihq hst
       clear hr9 ht9 hst
       refine wpAnyH_ready (rs := [15]) (by kernel_rfl) (by simp) ?_
       refine AllReadyH.cons rfl (fun K hK => ?_) AllReadyH.nil
       (try simp only [iq4, iq5, iq6])
       have hst := Hst.out
       go_simp
       have HB9 := ihq (show Below w1.heap.size w1 W9 from (Hb12.out.trans (HB6.out.mono Hb12.out.size)).trans (Ht9.out.below (fun k e => by omega) (Nat.le_trans Hb12.out.size HB6.out.size)))
       refine hK.out _ _ ?_ (fun _ => ?_)
       ·exact HB9.out
       clear hK K hHeld hst
       try simp only [Act.put, iq1, iq2, iq3, iq4, iq5, iq6]
       refine wpAnyH_done (by kernel_rfl) ?_ _
       go_wp2
       refine bodyPost_ret (results_cell_row rfl _ _ w1.heap.size 32 _ (0, 0) _ rfl Hr9.out Tryz.underlying32 rfl zw) rfl ?_
       exact yE HW.out Hb1.out Hb12.out Lg.out HB6.out Op6.out Ov6.out Ok6.out Ht9.out
      exact AllReadyH.nil
     exact AllReadyH.nil
    exact AllReadyH.nil
   refine AllReadyH.cons rfl (fun K hK => ?_) ?_
   ·clear hHeld
    (try simp only [iq4, iq5, iq6])
    obtain ⟨V3, hV3⟩ : ∃ W, World.alloc V2 (.cells #[] 49) = W := ⟨_, rfl⟩
    have Ov3 := ihq (show World.ownsRow V3 w2.heap.size 49 8 (.slice (some ⟨(World.heap V2).size, 0, none⟩) 0 0) 0 [] from (by rw [<- hV3]; exact yk _ _ HB2.out.size))
    have hbn : Below (World.heap V2).size V2 V3 := by rw [<- hV3]; exact zg _ _
    have HB3 := ihq (HB2.out.trans (hbn.mono HB2.out.size))
    have Op3 := ihq (zh Op2.out hbn)
    have Ok3 := ihq (zh Ok2.out hbn)
    go_simp
    try rw [hV3]
    refine hK.out _ _ ?_ (fun hHeld => ?_)
    ·exact Hb12.out.trans (HB3.out.mono Hb12.out.size)
    clear hK K hbn hV3
    try simp only [Act.put, iq1, iq2, iq3, iq4, iq5, iq6]
    clear HB2 Op2 Ok2
    refine wpAnyH_ready (rs := [3]) (by kernel_rfl) (by simp) ?_
    refine AllReadyH.cons rfl (fun K hK => ?_) ?_
    ·clear hHeld
     (try simp only [iq4, iq5, iq6])
     refine zy (by rfl) ?_
     refine zF (.tmp 3) (.tmp 5) _ (by rfl) 3 _ 1 8 Tryz.underlying28 zP (by rfl) (by omega) w2.heap.size (some ⟨(World.heap w2.drew).size, 0, none⟩) 0 0 [] (by rfl) Op3.out f.p.A f.p.n f.p.c (zo (yJ f.pk)) (by rfl) Lp.out (Sp.out _ HB3.out) (yf _) (by have := Mp.out; unfold maxLen; omega) (by have := Mp.out; omega) HB3.out.size ?_
     intro Ap cp V4 hown hg hbk
     simp only [Nat.zero_add, List.nil_append] at hown ⊢
     have t : Turned (fun k => (Value.slice (some ⟨(World.heap w2.drew).size, 0, none⟩) 0 0).ownBlock = some k) V3 V4 := Turned.of_grown hg (fun k e => e)
     have Op4 := ihq hown
     have HB4 := ihq (HB3.out.trans (t.below (fun k e => (Op3.out.lt k e).1) HB3.out.size))
     have Ov4 := ihq (ze t Ov3.out (fun k e => zq Ov3.out Op3.out (by decide) e))
     have Ok4 := ihq (ze t Ok3.out (fun k e => zq Ok3.out Op3.out (by decide) e))
     refine hK.out _ _ ?_ (fun hHeld => ?_)
     ·exact Hb12.out.trans (HB4.out.mono Hb12.out.size)
     clear hK K hown hg hbk t
     try simp only [Act.put, iq1, iq2, iq3, iq4, iq5, iq6]
     clear HB3 Op3 Ov3 Ok3
     refine wpAnyH_ready (rs := [7]) (by kernel_rfl) (by simp) ?_
     refine AllReadyH.cons rfl (fun K hK => ?_) ?_
     ·clear hHeld
      (try simp only [iq4, iq5, iq6])
      refine zy (by rfl) ?_
      refine zF (.tmp 7) (.tmp 9) _ (by rfl) 49 _ 8 80 Tryz.underlying29 yG (by rfl) (by omega) w2.heap.size (some ⟨(World.heap V2).size, 0, none⟩) 0 0 [] (by rfl) Ov4.out f.v.A f.v.n f.v.c (vksV f.X) (by rfl) Lv.out (Sv.out _ HB4.out) (zS _) (by have := Mv.out; unfold maxLen; omega) (by have := Mv.out; omega) HB4.out.size ?_
      intro Av cv V5 hown hg hbk
      simp only [Nat.zero_add, List.nil_append] at hown ⊢
      have t : Turned (fun k => (Value.slice (some ⟨(World.heap V2).size, 0, none⟩) 0 0).ownBlock = some k) V4 V5 := Turned.of_grown hg (fun k e => e)
      have Ov5 := ihq hown
      have HB5 := ihq (HB4.out.trans (t.below (fun k e => (Ov4.out.lt k e).1) HB4.out.size))
      have Op5 := ihq (ze t Op4.out (fun k e => zq Op4.out Ov4.out (by decide) e))
      have Ok5 := ihq (ze t Ok4.out (fun k e => zq Ok4.out Ov4.out (by decide) e))
      refine hK.out _ _ ?_ (fun hHeld => ?_)
      ·exact Hb12.out.trans (HB5.out.mono Hb12.out.size)
      clear hK K hown hg hbk t
      try simp only [Act.put, iq1, iq2, iq3, iq4, iq5, iq6]
      clear HB4 Op4 Ov4 Ok4
      refine wpAnyH_ready (rs := [11]) (by kernel_rfl) (by simp) ?_
      refine AllReadyH.cons rfl (fun K hK => ?_) ?_
      ·clear hHeld
       (try simp only [iq4, iq5, iq6])
       refine zy (by rfl) ?_
       refine zF (.tmp 11) (.tmp 13) _ (by rfl) 82 _ 5 72 Tryz.underlying30 yI (by rfl) (by omega) w2.heap.size (some ⟨(World.heap V1).size, 0, none⟩) 0 0 [] (by rfl) Ok5.out f.k.A f.k.n f.k.c (cksV f.K) (by rfl) Lk.out (Sk.out _ HB5.out) (zV _) (by have := Mk.out; unfold maxLen; omega) (by have := Mk.out; omega) HB5.out.size ?_
       intro Ak ck V6 hown hg hbk
       simp only [Nat.zero_add, List.nil_append] at hown ⊢
       have t : Turned (fun k => (Value.slice (some ⟨(World.heap V1).size, 0, none⟩) 0 0).ownBlock = some k) V5 V6 := Turned.of_grown hg (fun k e => e)
       have Ok6 := ihq hown
       have HB6 := ihq (HB5.out.trans (t.below (fun k e => (Ok5.out.lt k e).1) HB5.out.size))
       have Op6 := ihq (ze t Op5.out (fun k e => zq Op5.out Ok5.out (by decide) e))
       have Ov6 := ihq (ze t Ov5.out (fun k e => zq Ov5.out Ok5.out (by decide) e))
       refine hK.out _ _ ?_ (fun hHeld => ?_)
       ·exact Hb12.out.trans (HB6.out.mono Hb12.out.size)
       clear hK K hown hg hbk t
       try simp only [Act.put, iq1, iq2, iq3, iq4, iq5, iq6]
       clear HB5 Op5 Ov5 Ok5
       refine wpAnyH_take (i := 14) (v := ?v16) rfl (by kernel_rfl) (by kernel_rfl) (by kernel_rfl) (fun _ _ _ h => h) (Or.inl ⟨by rfl, ?hy16⟩) (by assumption) ?rest16
       case hy16 => (intro w' hS; obtain ⟨t1, t2, t3, t4⟩ := Hc.out w' hS; (try simp only [iq4, iq5, iq6]); go_simp; try with_reducible rfl)
       try simp only [Act.put, iq1, iq2, iq3, iq4, iq5, iq6]
       obtain ⟨W9, hst, hr9, ht9⟩ := zk ((HB6.out.block w1.heap.size Lg.out).trans Hr2.out) rfl ⟨Ap, f.p.n, cp⟩ ⟨Av, f.v.n, cv⟩ ⟨Ak, f.k.n, ck⟩ f.nx
       have Hr9 := ihq hr9; have Ht9 := ihq ht9; have Hst := ihq hst
       clear hr9 ht9 hst
       refine wpAnyH_ready (rs := [15]) (by kernel_rfl) (by simp) ?_
       refine AllReadyH.cons rfl (fun K hK => ?_) AllReadyH.nil
       (try simp only [iq4, iq5, iq6])
       have hst := Hst.out
       go_simp
       have HB9 := ihq (show Below w1.heap.size w1 W9 from (Hb12.out.trans (HB6.out.mono Hb12.out.size)).trans (Ht9.out.below (fun k e => by omega) (Nat.le_trans Hb12.out.size HB6.out.size)))
       refine hK.out _ _ ?_ (fun _ => ?_)
       ·exact HB9.out
       clear hK K hHeld hst
       try simp only [Act.put, iq1, iq2, iq3, iq4, iq5, iq6]
       refine wpAnyH_done (by kernel_rfl) ?_ _
       go_wp2
       refine bodyPost_ret (results_cell_row rfl _ _ w1.heap.size 32 _ (0, 0) _ rfl Hr9.out Tryz.underlying32 rfl zw) rfl ?_
       exact yE HW.out Hb1.out Hb12.out Lg.out HB6.out Op6.out Ov6.out Ok6.out Ht9.out
      exact AllReadyH.nil
     exact AllReadyH.nil
    exact AllReadyH.nil
   exact AllReadyH.nil
  exact AllReadyH.nil
 refine AllReadyH.cons rfl (fun K hK => ?_) ?_
 ·clear hHeld
  (try simp only [iq4, iq5, iq6])
  obtain ⟨V1, hV1⟩ : ∃ W, World.alloc w2.drew (.cells #[] 49) = W := ⟨_, rfl⟩
  have Ov1 := ihq (show World.ownsRow V1 w2.heap.size 49 8 (.slice (some ⟨(World.heap w2.drew).size, 0, none⟩) 0 0) 0 [] from (by rw [<- hV1]; exact yk _ _ HB0.out.size))
  have hbn : Below (World.heap w2.drew).size w2.drew V1 := by rw [<- hV1]; exact zg _ _
  have HB1 := ihq (HB0.out.trans (hbn.mono HB0.out.size))
  go_simp
  try rw [hV1]
  refine hK.out _ _ ?_ (fun hHeld => ?_)
  ·exact Hb12.out.trans (HB1.out.mono Hb12.out.size)
  clear hK K hbn hV1
  try simp only [Act.put, iq1, iq2, iq3, iq4, iq5, iq6]
  refine wpAnyH_ready (rs := [0, 8]) (by kernel_rfl) (by simp) ?_
  refine AllReadyH.cons rfl (fun K hK => ?_) ?_
  ·clear hHeld
   (try simp only [iq4, iq5, iq6])
   obtain ⟨V2, hV2⟩ : ∃ W, World.alloc V1 (.cells #[] 3) = W := ⟨_, rfl⟩
   have Op2 := ihq (show World.ownsRow V2 w2.heap.size 3 1 (.slice (some ⟨(World.heap V1).size, 0, none⟩) 0 0) 0 [] from (by rw [<- hV2]; exact yk _ _ HB1.out.size))
   have hbn : Below (World.heap V1).size V1 V2 := by rw [<- hV2]; exact zg _ _
   have HB2 := ihq (HB1.out.trans (hbn.mono HB1.out.size))
   have Ov2 := ihq (zh Ov1.out hbn)
   go_simp
   try rw [hV2]
   refine hK.out _ _ ?_ (fun hHeld => ?_)
   ·exact Hb12.out.trans (HB2.out.mono Hb12.out.size)
   clear hK K hbn hV2
   try simp only [Act.put, iq1, iq2, iq3, iq4, iq5, iq6]
   clear HB1 Ov1
   refine wpAnyH_ready (rs := [3, 8]) (by kernel_rfl) (by simp) ?_
   refine AllReadyH.cons rfl (fun K hK => ?_) ?_
   ·clear hHeld
    (try simp only [iq4, iq5, iq6])
    refine zy (by rfl) ?_
    refine zF (.tmp 3) (.tmp 5) _ (by rfl) 3 _ 1 8 Tryz.underlying28 zP (by rfl) (by omega) w2.heap.size (some ⟨(World.heap V1).size, 0, none⟩) 0 0 [] (by rfl) Op2.out f.p.A f.p.n f.p.c (zo (yJ f.pk)) (by rfl) Lp.out (Sp.out _ HB2.out) (yf _) (by have := Mp.out; unfold maxLen; omega) (by have := Mp.out; omega) HB2.out.size ?_
    intro Ap cp V3 hown hg hbk
    simp only [Nat.zero_add, List.nil_append] at hown ⊢
    have t : Turned (fun k => (Value.slice (some ⟨(World.heap V1).size, 0, none⟩) 0 0).ownBlock = some k) V2 V3 := Turned.of_grown hg (fun k e => e)
    have Op3 := ihq hown
    have HB3 := ihq (HB2.out.trans (t.below (fun k e => (Op2.out.lt k e).1) HB2.out.size))
    have Ov3 := ihq (ze t Ov2.out (fun k e => zq Ov2.out Op2.out (by decide) e))
    refine hK.out _ _ ?_ (fun hHeld => ?_)
    ·exact Hb12.out.trans (HB3.out.mono Hb12.out.size)
    clear hK K hown hg hbk t
    try simp only [Act.put, iq1, iq2, iq3, iq4, iq5, iq6]
    clear HB2 Op2 Ov2
    refine wpAnyH_ready (rs := [7, 8]) (by kernel_rfl) (by simp) ?_
    refine AllReadyH.cons rfl (fun K hK => ?_) ?_
    ·clear hHeld
     (try simp only [iq4, iq5, iq6])
     refine zy (by rfl) ?_
     refine zF (.tmp 7) (.tmp 9) _ (by rfl) 49 _ 8 80 Tryz.underlying29 yG (by rfl) (by omega) w2.heap.size (some ⟨(World.heap w2.drew).size, 0, none⟩) 0 0 [] (by rfl) Ov3.out f.v.A f.v.n f.v.c (vksV f.X) (by rfl) Lv.out (Sv.out _ HB3.out) (zS _) (by have := Mv.out; unfold maxLen; omega) (by have := Mv.out; omega) HB3.out.size ?_
     intro Av cv V4 hown hg hbk
     simp only [Nat.zero_add, List.nil_append] at hown ⊢
     have t : Turned (fun k => (Value.slice (some ⟨(World.heap w2.drew).size, 0, none⟩) 0 0).ownBlock = some k) V3 V4 := Turned.of_grown hg (fun k e => e)
     have Ov4 := ihq hown
     have HB4 := ihq (HB3.out.trans (t.below (fun k e => (Ov3.out.lt k e).1) HB3.out.size))
     have Op4 := ihq (ze t Op3.out (fun k e => zq Op3.out Ov3.out (by decide) e))
     refine hK.out _ _ ?_ (fun hHeld => ?_)
     ·exact Hb12.out.trans (HB4.out.mono Hb12.out.size)
     clear hK K hown hg hbk t
     try simp only [Act.put, iq1, iq2, iq3, iq4, iq5, iq6]
     clear HB3 Op3 Ov3
     refine wpAnyH_ready (rs := [8]) (by kernel_rfl) (by simp) ?_
     refine AllReadyH.cons rfl (fun K hK => ?_) ?_
     ·clear hHeld
      (try simp only [iq4, iq5, iq6])
      obtain ⟨V5, hV5⟩ : ∃ W, World.alloc V4 (.cells #[] 82) = W := ⟨_, rfl⟩
      have Ok5 := ihq (show World.ownsRow V5 w2.heap.size 82 5 (.slice (some ⟨(World.heap V4).size, 0, none⟩) 0 0) 0 [] from (by rw [<- hV5]; exact yk _ _ HB4.out.size))
      have hbn : Below (World.heap V4).size V4 V5 := by rw [<- hV5]; exact zg _ _
      have HB5 := ihq (HB4.out.trans (hbn.mono HB4.out.size))
      have Op5 := ihq (zh Op4.out hbn)
      have Ov5 := ihq (zh Ov4.out hbn)
      go_simp
      try rw [hV5]
      refine hK.out _ _ ?_ (fun hHeld => ?_)
      ·exact Hb12.out.trans (HB5.out.mono Hb12.out.size)
      clear hK K hbn hV5
      try simp only [Act.put, iq1, iq2, iq3, iq4, iq5, iq6]
      clear HB4 Op4 Ov4
      refine wpAnyH_ready (rs := [11]) (by kernel_rfl) (by simp) ?_
      refine AllReadyH.cons rfl (fun K hK => ?_) ?_
      ·clear hHeld
       (try simp only [iq4, iq5, iq6])
       refine zy (by rfl) ?_
       refine zF (.tmp 11) (.tmp 13) _ (by rfl) 82 _ 5 72 Tryz.underlying30 yI (by rfl) (by omega) w2.heap.size (some ⟨(World.heap V4).size, 0, none⟩) 0 0 [] (by rfl) Ok5.out f.k.A f.k.n f.k.c (cksV f.K) (by rfl) Lk.out (Sk.out _ HB5.out) (zV _) (by have := Mk.out; unfold maxLen; omega) (by have := Mk.out; omega) HB5.out.size ?_
       intro Ak ck V6 hown hg hbk
       simp only [Nat.zero_add, List.nil_append] at hown ⊢
       have t : Turned (fun k => (Value.slice (some ⟨(World.heap V4).size, 0, none⟩) 0 0).ownBlock = some k) V5 V6 := Turned.of_grown hg (fun k e => e)
       have Ok6 := ihq hown
       have HB6 := ihq (HB5.out.trans (t.below (fun k e => (Ok5.out.lt k e).1) HB5.out.size))
       have Op6 := ihq (ze t Op5.out (fun k e => zq Op5.out Ok5.out (by decide) e))
       have Ov6 := ihq (ze t Ov5.out (fun k e => zq Ov5.out Ok5.out (by decide) e))
       refine hK.out _ _ ?_ (fun hHeld => ?_)
       ·exact Hb12.out.trans (HB6.out.mono Hb12.out.size)
       clear hK K hown hg hbk t
       try simp only [Act.put, iq1, iq2, iq3, iq4, iq5, iq6]
       clear HB5 Op5 Ov5 Ok5
       refine wpAnyH_take (i := 14) (v := ?v17) rfl (by kernel_rfl) (by kernel_rfl) (by kernel_rfl) (fun _ _ _ h => h) (Or.inl ⟨by rfl, ?hy17⟩) (by assumption) ?rest17
       case hy17 => (intro w' hS; obtain ⟨t1, t2, t3, t4⟩ := Hc.out w' hS; (try simp only [iq4, iq5, iq6]); go_simp; try with_reducible rfl)
       try simp only [Act.put, iq1, iq2, iq3, iq4, iq5, iq6]
       obtain ⟨W9, hst, hr9, ht9⟩ := zk ((HB6.out.block w1.heap.size Lg.out).trans Hr2.out) rfl ⟨Ap, f.p.n, cp⟩ ⟨Av, f.v.n, cv⟩ ⟨Ak, f.k.n, ck⟩ f.nx
       have Hr9 := ihq hr9; have Ht9 := ihq ht9; have Hst := ihq hst
       clear hr9 ht9 hst
       refine wpAnyH_ready (rs := [15]) (by kernel_rfl) (by simp) ?_
       refine AllReadyH.cons rfl (fun K hK => ?_) AllReadyH.nil
       (try simp only [iq4, iq5, iq6])
       have hst := Hst.out
       go_simp
       have HB9 := ihq (show Below w1.heap.size w1 W9 from (Hb12.out.trans (HB6.out.mono Hb12.out.size)).trans (Ht9.out.below (fun k e => by omega) (Nat.le_trans Hb12.out.size HB6.out.size)))
       refine hK.out _ _ ?_ (fun _ => ?_)
       ·exact HB9.out
       clear hK K hHeld hst
       try simp only [Act.put, iq1, iq2, iq3, iq4, iq5, iq6]
       refine wpAnyH_done (by kernel_rfl) ?_ _
       go_wp2
       refine bodyPost_ret (results_cell_row rfl _ _ w1.heap.size 32 _ (0, 0) _ rfl Hr9.out Tryz.underlying32 rfl zw) rfl ?_
       exact yE HW.out Hb1.out Hb12.out Lg.out HB6.out Op6.out Ov6.out Ok6.out Ht9.out
      exact AllReadyH.nil
     exact AllReadyH.nil
    refine AllReadyH.cons rfl (fun K hK => ?_) ?_
    ·clear hHeld
     (try simp only [iq4, iq5, iq6])
     obtain ⟨V4, hV4⟩ : ∃ W, World.alloc V3 (.cells #[] 82) = W := ⟨_, rfl⟩
     have Ok4 := ihq (show World.ownsRow V4 w2.heap.size 82 5 (.slice (some ⟨(World.heap V3).size, 0, none⟩) 0 0) 0 [] from (by rw [<- hV4]; exact yk _ _ HB3.out.size))
     have hbn : Below (World.heap V3).size V3 V4 := by rw [<- hV4]; exact zg _ _
     have HB4 := ihq (HB3.out.trans (hbn.mono HB3.out.size))
     have Op4 := ihq (zh Op3.out hbn)
     have Ov4 := ihq (zh Ov3.out hbn)
     go_simp
     try rw [hV4]
     refine hK.out _ _ ?_ (fun hHeld => ?_)
     ·exact Hb12.out.trans (HB4.out.mono Hb12.out.size)
     clear hK K hbn hV4
     try simp only [Act.put, iq1, iq2, iq3, iq4, iq5, iq6]
     clear HB3 Op3 Ov3
     refine wpAnyH_ready (rs := [7]) (by kernel_rfl) (by simp) ?_
     refine AllReadyH.cons rfl (fun K hK => ?_) ?_
     ·clear hHeld
      (try simp only [iq4, iq5, iq6])
      refine zy (by rfl) ?_
      refine zF (.tmp 7) (.tmp 9) _ (by rfl) 49 _ 8 80 Tryz.underlying29 yG (by rfl) (by omega) w2.heap.size (some ⟨(World.heap w2.drew).size, 0, none⟩) 0 0 [] (by rfl) Ov4.out f.v.A f.v.n f.v.c (vksV f.X) (by rfl) Lv.out (Sv.out _ HB4.out) (zS _) (by have := Mv.out; unfold maxLen; omega) (by have := Mv.out; omega) HB4.out.size ?_
      intro Av cv V5 hown hg hbk
      simp only [Nat.zero_add, List.nil_append] at hown ⊢
      have t : Turned (fun k => (Value.slice (some ⟨(World.heap w2.drew).size, 0, none⟩) 0 0).ownBlock = some k) V4 V5 := Turned.of_grown hg (fun k e => e)
      have Ov5 := ihq hown
      have HB5 := ihq (HB4.out.trans (t.below (fun k e => (Ov4.out.lt k e).1) HB4.out.size))
      have Op5 := ihq (ze t Op4.out (fun k e => zq Op4.out Ov4.out (by decide) e))
      have Ok5 := ihq (ze t Ok4.out (fun k e => zq Ok4.out Ov4.out (by decide) e))
      refine hK.out _ _ ?_ (fun hHeld => ?_)
      ·exact Hb12.out.trans (HB5.out.mono Hb12.out.size)
      clear hK K hown hg hbk t
      try simp only [Act.put, iq1, iq2, iq3, iq4, iq5, iq6]
      clear HB4 Op4 Ov4 Ok4
      refine wpAnyH_ready (rs := [11]) (by kernel_rfl) (by simp) ?_
      refine AllReadyH.cons rfl (fun K hK => ?_) ?_
      ·clear hHeld
       (try simp only [iq4, iq5, iq6])
       refine zy (by rfl) ?_
       refine zF (.tmp 11) (.tmp 13) _ (by rfl) 82 _ 5 72 Tryz.underlying30 yI (by rfl) (by omega) w2.heap.size (some ⟨(World.heap V3).size, 0, none⟩) 0 0 [] (by rfl) Ok5.out f.k.A f.k.n f.k.c (cksV f.K) (by rfl) Lk.out (Sk.out _ HB5.out) (zV _) (by have := Mk.out; unfold maxLen; omega) (by have := Mk.out; omega) HB5.out.size ?_
       intro Ak ck V6 hown hg hbk
       simp only [Nat.zero_add, List.nil_append] at hown ⊢
       have t : Turned (fun k => (Value.slice (some ⟨(World.heap V3).size, 0, none⟩) 0 0).ownBlock = some k) V5 V6 := Turned.of_grown hg (fun k e => e)
       have Ok6 := ihq hown
       have HB6 := ihq (HB5.out.trans (t.below (fun k e => (Ok5.out.lt k e).1) HB5.out.size))
       have Op6 := ihq (ze t Op5.out (fun k e => zq Op5.out Ok5.out (by decide) e))
       have Ov6 := ihq (ze t Ov5.out (fun k e => zq Ov5.out Ok5.out (by decide) e))
       refine hK.out _ _ ?_ (fun hHeld => ?_)
       ·exact Hb12.out.trans (HB6.out.mono Hb12.out.size)
       clear hK K hown hg hbk t
       try simp only [Act.put, iq1, iq2, iq3, iq4, iq5, iq6]
       clear HB5 Op5 Ov5 Ok5
       refine wpAnyH_take (i := 14) (v := ?v18) rfl (by kernel_rfl) (by kernel_rfl) (by kernel_rfl) (fun _ _ _ h => h) (Or.inl ⟨by rfl, ?hy18⟩) (by assumption) ?rest18
       case hy18 => (intro w' hS; obtain ⟨t1, t2, t3, t4⟩ := Hc.out w' hS; (try simp only [iq4, iq5, iq6]); go_simp; try with_reducible rfl)
       try simp only [Act.put, iq1, iq2, iq3, iq4, iq5, iq6]
       obtain ⟨W9, hst, hr9, ht9⟩ := zk ((HB6.out.block w1.heap.size Lg.out).trans Hr2.out) rfl ⟨Ap, f.p.n, cp⟩ ⟨Av, f.v.n, cv⟩ ⟨Ak, f.k.n, ck⟩ f.nx
       have Hr9 := ihq hr9; have Ht9 := ihq ht9; have Hst := ihq hst
       clear hr9 ht9 hst
       refine wpAnyH_ready (rs := [15]) (by kernel_rfl) (by simp) ?_
       refine AllReadyH.cons rfl (fun K hK => ?_) AllReadyH.nil
       (try simp only [iq4, iq5, iq6])
       have hst := Hst.out
       go_simp
       have HB9 := ihq (show Below w1.heap.size w1 W9 from (Hb12.out.trans (HB6.out.mono Hb12.out.size)).trans (Ht9.out.below (fun k e => by omega) (Nat.le_trans Hb12.out.size HB6.out.size)))
       refine hK.out _ _ ?_ (fun _ => ?_)
       ·exact HB9.out
       clear hK K hHeld hst
       try simp only [Act.put, iq1, iq2, iq3, iq4, iq5, iq6]
       refine wpAnyH_done (by kernel_rfl) ?_ _
       go_wp2
       refine bodyPost_ret (results_cell_row rfl _ _ w1.heap.size 32 _ (0, 0) _ rfl Hr9.out Tryz.underlying32 rfl zw) rfl ?_
       exact yE HW.out Hb1.out Hb12.out Lg.out HB6.out Op6.out Ov6.out Ok6.out Ht9.out
      exact AllReadyH.nil
     exact AllReadyH.nil
    exact AllReadyH.nil
   refine AllReadyH.cons rfl (fun K hK => ?_) ?_
   ·clear hHeld
    (try simp only [iq4, iq5, iq6])
    obtain ⟨V3, hV3⟩ : ∃ W, World.alloc V2 (.cells #[] 82) = W := ⟨_, rfl⟩
    have Ok3 := ihq (show World.ownsRow V3 w2.heap.size 82 5 (.slice (some ⟨(World.heap V2).size, 0, none⟩) 0 0) 0 [] from (by rw [<- hV3]; exact yk _ _ HB2.out.size))
    have hbn : Below (World.heap V2).size V2 V3 := by rw [<- hV3]; exact zg _ _
    have HB3 := ihq (HB2.out.trans (hbn.mono HB2.out.size))
    have Op3 := ihq (zh Op2.out hbn)
    have Ov3 := ihq (zh Ov2.out hbn)
    go_simp
    try rw [hV3]
    refine hK.out _ _ ?_ (fun hHeld => ?_)
    ·exact Hb12.out.trans (HB3.out.mono Hb12.out.size)
    clear hK K hbn hV3
    try simp only [Act.put, iq1, iq2, iq3, iq4, iq5, iq6]
    clear HB2 Op2 Ov2
    refine wpAnyH_ready (rs := [3]) (by kernel_rfl) (by simp) ?_
    refine AllReadyH.cons rfl (fun K hK => ?_) ?_
    ·clear hHeld
     (try simp only [iq4, iq5, iq6])
     refine zy (by rfl) ?_
     refine zF (.tmp 3) (.tmp 5) _ (by rfl) 3 _ 1 8 Tryz.underlying28 zP (by rfl) (by omega) w2.heap.size (some ⟨(World.heap V1).size, 0, none⟩) 0 0 [] (by rfl) Op3.out f.p.A f.p.n f.p.c (zo (yJ f.pk)) (by rfl) Lp.out (Sp.out _ HB3.out) (yf _) (by have := Mp.out; unfold maxLen; omega) (by have := Mp.out; omega) HB3.out.size ?_
     intro Ap cp V4 hown hg hbk
     simp only [Nat.zero_add, List.nil_append] at hown ⊢
     have t : Turned (fun k => (Value.slice (some ⟨(World.heap V1).size, 0, none⟩) 0 0).ownBlock = some k) V3 V4 := Turned.of_grown hg (fun k e => e)
     have Op4 := ihq hown
     have HB4 := ihq (HB3.out.trans (t.below (fun k e => (Op3.out.lt k e).1) HB3.out.size))
     have Ov4 := ihq (ze t Ov3.out (fun k e => zq Ov3.out Op3.out (by decide) e))
     have Ok4 := ihq (ze t Ok3.out (fun k e => zq Ok3.out Op3.out (by decide) e))
     refine hK.out _ _ ?_ (fun hHeld => ?_)
     ·exact Hb12.out.trans (HB4.out.mono Hb12.out.size)
     clear hK K hown hg hbk t
     try simp only [Act.put, iq1, iq2, iq3, iq4, iq5, iq6]
     clear HB3 Op3 Ov3 Ok3
     refine wpAnyH_ready (rs := [7]) (by kernel_rfl) (by simp) ?_
     refine AllReadyH.cons rfl (fun K hK => ?_) ?_
     ·clear hHeld
      (try simp only [iq4, iq5, iq6])
      refine zy (by rfl) ?_
      refine zF (.tmp 7) (.tmp 9) _ (by rfl) 49 _ 8 80 Tryz.underlying29 yG (by rfl) (by omega) w2.heap.size (some ⟨(World.heap w2.drew).size, 0, none⟩) 0 0 [] (by rfl) Ov4.out f.v.A f.v.n f.v.c (vksV f.X) (by rfl) Lv.out (Sv.out _ HB4.out) (zS _) (by have := Mv.out; unfold maxLen; omega) (by have := Mv.out; omega) HB4.out.size ?_
      intro Av cv V5 hown hg hbk
      simp only [Nat.zero_add, List.nil_append] at hown ⊢
      have t : Turned (fun k => (Value.slice (some ⟨(World.heap w2.drew).size, 0, none⟩) 0 0).ownBlock = some k) V4 V5 := Turned.of_grown hg (fun k e => e)
      have Ov5 := ihq hown
      have HB5 := ihq (HB4.out.trans (t.below (fun k e => (Ov4.out.lt k e).1) HB4.out.size))
      have Op5 := ihq (ze t Op4.out (fun k e => zq Op4.out Ov4.out (by decide) e))
      have Ok5 := ihq (ze t Ok4.out (fun k e => zq Ok4.out Ov4.out (by decide) e))
      refine hK.out _ _ ?_ (fun hHeld => ?_)
      ·exact Hb12.out.trans (HB5.out.mono Hb12.out.size)
      clear hK K hown hg hbk t
      try simp only [Act.put, iq1, iq2, iq3, iq4, iq5, iq6]
      clear HB4 Op4 Ov4 Ok4
      refine wpAnyH_ready (rs := [11]) (by kernel_rfl) (by simp) ?_
      refine AllReadyH.cons rfl (fun K hK => ?_) ?_
      ·clear hHeld
       (try simp only [iq4, iq5, iq6])
       refine zy (by rfl) ?_
       refine zF (.tmp 11) (.tmp 13) _ (by rfl) 82 _ 5 72 Tryz.underlying30 yI (by rfl) (by omega) w2.heap.size (some ⟨(World.heap V2).size, 0, none⟩) 0 0 [] (by rfl) Ok5.out f.k.A f.k.n f.k.c (cksV f.K) (by rfl) Lk.out (Sk.out _ HB5.out) (zV _) (by have := Mk.out; unfold maxLen; omega) (by have := Mk.out; omega) HB5.out.size ?_
       intro Ak ck V6 hown hg hbk
       simp only [Nat.zero_add, List.nil_append] at hown ⊢
       have t : Turned (fun k => (Value.slice (some ⟨(World.heap V2).size, 0, none⟩) 0 0).ownBlock = some k) V5 V6 := Turned.of_grown hg (fun k e => e)
       have Ok6 := ihq hown
       have HB6 := ihq (HB5.out.trans (t.below (fun k e => (Ok5.out.lt k e).1) HB5.out.size))
       have Op6 := ihq (ze t Op5.out (fun k e => zq Op5.out Ok5.out (by decide) e))
       have Ov6 := ihq (ze t Ov5.out (fun k e => zq Ov5.out Ok5.out (by decide) e))
       refine hK.out _ _ ?_ (fun hHeld => ?_)
       ·exact Hb12.out.trans (HB6.out.mono Hb12.out.size)
       clear hK K hown hg hbk t
       try simp only [Act.put, iq1, iq2, iq3, iq4, iq5, iq6]
       clear HB5 Op5 Ov5 Ok5
       refine wpAnyH_take (i := 14) (v := ?v19) rfl (by kernel_rfl) (by kernel_rfl) (by kernel_rfl) (fun _ _ _ h => h) (Or.inl ⟨by rfl, ?hy19⟩) (by assumption) ?rest19
       case hy19 => (intro w' hS; obtain ⟨t1, t2, t3, t4⟩ := Hc.out w' hS; (try simp only [iq4, iq5, iq6]); go_simp; try with_reducible rfl)
       try simp only [Act.put, iq1, iq2, iq3, iq4, iq5, iq6]
       obtain ⟨W9, hst, hr9, ht9⟩ := zk ((HB6.out.block w1.heap.size Lg.out).trans Hr2.out) rfl ⟨Ap, f.p.n, cp⟩ ⟨Av, f.v.n, cv⟩ ⟨Ak, f.k.n, ck⟩ f.nx
       have Hr9 := ihq hr9; have Ht9 := ihq ht9; have Hst := ihq hst
       clear hr9 ht9 hst
       refine wpAnyH_ready (rs := [15]) (by kernel_rfl) (by simp) ?_
       refine AllReadyH.cons rfl (fun K hK => ?_) AllReadyH.nil
       (try simp only [iq4, iq5, iq6])
       have hst := Hst.out
       go_simp
       have HB9 := ihq (show Below w1.heap.size w1 W9 from (Hb12.out.trans (HB6.out.mono Hb12.out.size)).trans (Ht9.out.below (fun k e => by omega) (Nat.le_trans Hb12.out.size HB6.out.size)))
       refine hK.out _ _ ?_ (fun _ => ?_)
       ·exact HB9.out
       clear hK K hHeld hst
       try simp only [Act.put, iq1, iq2, iq3, iq4, iq5, iq6]
       refine wpAnyH_done (by kernel_rfl) ?_ _
       go_wp2
       refine bodyPost_ret (results_cell_row rfl _ _ w1.heap.size 32 _ (0, 0) _ rfl Hr9.out Tryz.underlying32 rfl zw) rfl ?_
       exact yE HW.out Hb1.out Hb12.out Lg.out HB6.out Op6.out Ov6.out Ok6.out Ht9.out
      exact AllReadyH.nil
     exact AllReadyH.nil
    exact AllReadyH.nil
   exact AllReadyH.nil
  refine AllReadyH.cons rfl (fun K hK => ?_) ?_
  ·clear hHeld
   (try simp only [iq4, iq5, iq6])
   obtain ⟨V2, hV2⟩ : ∃ W, World.alloc V1 (.cells #[] 82) = W := ⟨_, rfl⟩
   have Ok2 := ihq (show World.ownsRow V2 w2.heap.size 82 5 (.slice (some ⟨(World.heap V1).size, 0, none⟩) 0 0) 0 [] from (by rw [<- hV2]; exact yk _ _ HB1.out.size))
   have hbn : Below (World.heap V1).size V1 V2 := by rw [<- hV2]; exact zg _ _
   have HB2 := ihq (HB1.out.trans (hbn.mono HB1.out.size))
   have Ov2 := ihq (zh Ov1.out hbn)
   go_simp
   try rw [hV2]
   refine hK.out _ _ ?_ (fun hHeld => ?_)
   ·exact Hb12.out.trans (HB2.out.mono Hb12.out.size)
   clear hK K hbn hV2
   try simp only [Act.put, iq1, iq2, iq3, iq4, iq5, iq6]
   clear HB1 Ov1
   refine wpAnyH_ready (rs := [0]) (by kernel_rfl) (by simp) ?_
   refine AllReadyH.cons rfl (fun K hK => ?_) ?_
   ·clear hHeld
    (try simp only [iq4, iq5, iq6])
    obtain ⟨V3, hV3⟩ : ∃ W, World.alloc V2 (.cells #[] 3) = W := ⟨_, rfl⟩
    have Op3 := ihq (show World.ownsRow V3 w2.heap.size 3 1 (.slice (some ⟨(World.heap V2).size, 0, none⟩) 0 0) 0 [] from (by rw [<- hV3]; exact yk _ _ HB2.out.size))
    have hbn : Below (World.heap V2).size V2 V3 := by rw [<- hV3]; exact zg _ _
    have HB3 := ihq (HB2.out.trans (hbn.mono HB2.out.size))
    have Ov3 := ihq (zh Ov2.out hbn)
    have Ok3 := ihq (zh Ok2.out hbn)
    go_simp
    try rw [hV3]
    refine hK.out _ _ ?_ (fun hHeld => ?_)
    ·exact Hb12.out.trans (HB3.out.mono Hb12.out.size)
    clear hK K hbn hV3
    try simp only [Act.put, iq1, iq2, iq3, iq4, iq5, iq6]
    clear HB2 Ov2 Ok2
    refine wpAnyH_ready (rs := [3]) (by kernel_rfl) (by simp) ?_
    refine AllReadyH.cons rfl (fun K hK => ?_) ?_
    ·clear hHeld
     (try simp only [iq4, iq5, iq6])
     refine zy (by rfl) ?_
     refine zF (.tmp 3) (.tmp 5) _ (by rfl) 3 _ 1 8 Tryz.underlying28 zP (by rfl) (by omega) w2.heap.size (some ⟨(World.heap V2).size, 0, none⟩) 0 0 [] (by rfl) Op3.out f.p.A f.p.n f.p.c (zo (yJ f.pk)) (by rfl) Lp.out (Sp.out _ HB3.out) (yf _) (by have := Mp.out; unfold maxLen; omega) (by have := Mp.out; omega) HB3.out.size ?_
     intro Ap cp V4 hown hg hbk
     simp only [Nat.zero_add, List.nil_append] at hown ⊢
     have t : Turned (fun k => (Value.slice (some ⟨(World.heap V2).size, 0, none⟩) 0 0).ownBlock = some k) V3 V4 := Turned.of_grown hg (fun k e => e)
     have Op4 := ihq hown
     have HB4 := ihq (HB3.out.trans (t.below (fun k e => (Op3.out.lt k e).1) HB3.out.size))
     have Ov4 := ihq (ze t Ov3.out (fun k e => zq Ov3.out Op3.out (by decide) e))
     have Ok4 := ihq (ze t Ok3.out (fun k e => zq Ok3.out Op3.out (by decide) e))
     refine hK.out _ _ ?_ (fun hHeld => ?_)
     ·exact Hb12.out.trans (HB4.out.mono Hb12.out.size)
     clear hK K hown hg hbk t
     try simp only [Act.put, iq1, iq2, iq3, iq4, iq5, iq6]
     clear HB3 Op3 Ov3 Ok3
     refine wpAnyH_ready (rs := [7]) (by kernel_rfl) (by simp) ?_
     refine AllReadyH.cons rfl (fun K hK => ?_) ?_
     ·clear hHeld
      (try simp only [iq4, iq5, iq6])
      refine zy (by rfl) ?_
      refine zF (.tmp 7) (.tmp 9) _ (by rfl) 49 _ 8 80 Tryz.underlying29 yG (by rfl) (by omega) w2.heap.size (some ⟨(World.heap w2.drew).size, 0, none⟩) 0 0 [] (by rfl) Ov4.out f.v.A f.v.n f.v.c (vksV f.X) (by rfl) Lv.out (Sv.out _ HB4.out) (zS _) (by have := Mv.out; unfold maxLen; omega) (by have := Mv.out; omega) HB4.out.size ?_
      intro Av cv V5 hown hg hbk
      simp only [Nat.zero_add, List.nil_append] at hown ⊢
      have t : Turned (fun k => (Value.slice (some ⟨(World.heap w2.drew).size, 0, none⟩) 0 0).ownBlock = some k) V4 V5 := Turned.of_grown hg (fun k e => e)
      have Ov5 := ihq hown
      have HB5 := ihq (HB4.out.trans (t.below (fun k e => (Ov4.out.lt k e).1) HB4.out.size))
      have Op5 := ihq (ze t Op4.out (fun k e => zq Op4.out Ov4.out (by decide) e))
      have Ok5 := ihq (ze t Ok4.out (fun k e => zq Ok4.out Ov4.out (by decide) e))
      refine hK.out _ _ ?_ (fun hHeld => ?_)
      ·exact Hb12.out.trans (HB5.out.mono Hb12.out.size)
      clear hK K hown hg hbk t
      try simp only [Act.put, iq1, iq2, iq3, iq4, iq5, iq6]
      clear HB4 Op4 Ov4 Ok4
      refine wpAnyH_ready (rs := [11]) (by kernel_rfl) (by simp) ?_
      refine AllReadyH.cons rfl (fun K hK => ?_) ?_
      ·clear hHeld
       (try simp only [iq4, iq5, iq6])
       refine zy (by rfl) ?_
       refine zF (.tmp 11) (.tmp 13) _ (by rfl) 82 _ 5 72 Tryz.underlying30 yI (by rfl) (by omega) w2.heap.size (some ⟨(World.heap V1).size, 0, none⟩) 0 0 [] (by rfl) Ok5.out f.k.A f.k.n f.k.c (cksV f.K) (by rfl) Lk.out (Sk.out _ HB5.out) (zV _) (by have := Mk.out; unfold maxLen; omega) (by have := Mk.out; omega) HB5.out.size ?_
       intro Ak ck V6 hown hg hbk
       simp only [Nat.zero_add, List.nil_append] at hown ⊢
       have t : Turned (fun k => (Value.slice (some ⟨(World.heap V1).size, 0, none⟩) 0 0).ownBlock = some k) V5 V6 := Turned.of_grown hg (fun k e => e)
       have Ok6 := ihq hown
       have HB6 := ihq (HB5.out.trans (t.below (fun k e => (Ok5.out.lt k e).1) HB5.out.size))
       have Op6 := ihq (ze t Op5.out (fun k e => zq Op5.out Ok5.out (by decide) e))
       have Ov6 := ihq (ze t Ov5.out (fun k e => zq Ov5.out Ok5.out (by decide) e))
       refine hK.out _ _ ?_ (fun hHeld => ?_)
       ·exact Hb12.out.trans (HB6.out.mono Hb12.out.size)
       clear hK K hown hg hbk t
       try simp only [Act.put, iq1, iq2, iq3, iq4, iq5, iq6]
       clear HB5 Op5 Ov5 Ok5
       refine wpAnyH_take (i := 14) (v := ?v20) rfl (by kernel_rfl) (by kernel_rfl) (by kernel_rfl) (fun _ _ _ h => h) (Or.inl ⟨by rfl, ?hy20⟩) (by assumption) ?rest20
       case hy20 => (intro w' hS; obtain ⟨t1, t2, t3, t4⟩ := Hc.out w' hS; (try simp only [iq4, iq5, iq6]); go_simp; try with_reducible rfl)
       try simp only [Act.put, iq1, iq2, iq3, iq4, iq5, iq6]
       obtain ⟨W9, hst, hr9, ht9⟩ := zk ((HB6.out.block w1.heap.size Lg.out).trans Hr2.out) rfl ⟨Ap, f.p.n, cp⟩ ⟨Av, f.v.n, cv⟩ ⟨Ak, f.k.n, ck⟩ f.nx
       have Hr9 := ihq hr9; have Ht9 := ihq ht9; have Hst := ihq hst
       clear hr9 ht9 hst
       refine wpAnyH_ready (rs := [15]) (by kernel_rfl) (by simp) ?_
       refine AllReadyH.cons rfl (fun K hK => ?_) AllReadyH.nil
       (try simp only [iq4, iq5, iq6])
       have hst := Hst.out
       go_simp
       have HB9 := ihq (show Below w1.heap.size w1 W9 from (Hb12.out.trans (HB6.out.mono Hb12.out.size)).trans (Ht9.out.below (fun k e => by omega) (Nat.le_trans Hb12.out.size HB6.out.size)))
       refine hK.out _ _ ?_ (fun _ => ?_)
       ·exact HB9.out
       clear hK K hHeld hst
       try simp only [Act.put, iq1, iq2, iq3, iq4, iq5, iq6]
       refine wpAnyH_done (by kernel_rfl) ?_ _
       go_wp2
       refine bodyPost_ret (results_cell_row rfl _ _ w1.heap.size 32 _ (0, 0) _ rfl Hr9.out Tryz.underlying32 rfl zw) rfl ?_
       exact yE HW.out Hb1.out Hb12.out Lg.out HB6.out Op6.out Ov6.out Ok6.out Ht9.out
      exact AllReadyH.nil
     exact AllReadyH.nil
    exact AllReadyH.nil
   exact AllReadyH.nil
  exact AllReadyH.nil
 refine AllReadyH.cons rfl (fun K hK => ?_) ?_
 ·clear hHeld
  (try simp only [iq4, iq5, iq6])
  obtain ⟨V1, hV1⟩ : ∃ W, World.alloc w2.drew (.cells #[] 82) = W := ⟨_, rfl⟩
  have Ok1 := ihq (show World.ownsRow V1 w2.heap.size 82 5 (.slice (some ⟨(World.heap w2.drew).size, 0, none⟩) 0 0) 0 [] from (by rw [<- hV1]; exact yk _ _ HB0.out.size))
  have hbn : Below (World.heap w2.drew).size w2.drew V1 := by rw [<- hV1]; exact zg _ _
  have HB1 := ihq (HB0.out.trans (hbn.mono HB0.out.size))
  go_simp
  try rw [hV1]
  refine hK.out _ _ ?_ (fun hHeld => ?_)
  ·exact Hb12.out.trans (HB1.out.mono Hb12.out.size)
  clear hK K hbn hV1
  try simp only [Act.put, iq1, iq2, iq3, iq4, iq5, iq6]
  refine wpAnyH_ready (rs := [0, 4]) (by kernel_rfl) (by simp) ?_
  refine AllReadyH.cons rfl (fun K hK => ?_) ?_
  ·clear hHeld
   (try simp only [iq4, iq5, iq6])
   obtain ⟨V2, hV2⟩ : ∃ W, World.alloc V1 (.cells #[] 3) = W := ⟨_, rfl⟩
   have Op2 := ihq (show World.ownsRow V2 w2.heap.size 3 1 (.slice (some ⟨(World.heap V1).size, 0, none⟩) 0 0) 0 [] from (by rw [<- hV2]; exact yk _ _ HB1.out.size))
   have hbn : Below (World.heap V1).size V1 V2 := by rw [<- hV2]; exact zg _ _
   have HB2 := ihq (HB1.out.trans (hbn.mono HB1.out.size))
   have Ok2 := ihq (zh Ok1.out hbn)
   go_simp
   try rw [hV2]
   refine hK.out _ _ ?_ (fun hHeld => ?_)
   ·exact Hb12.out.trans (HB2.out.mono Hb12.out.size)
   clear hK K hbn hV2
   try simp only [Act.put, iq1, iq2, iq3, iq4, iq5, iq6]
   clear HB1 Ok1
   refine wpAnyH_ready (rs := [3, 4]) (by kernel_rfl) (by simp) ?_
   refine AllReadyH.cons rfl (fun K hK => ?_) ?_
   ·clear hHeld
    (try simp only [iq4, iq5, iq6])
    refine zy (by rfl) ?_
    refine zF (.tmp 3) (.tmp 5) _ (by rfl) 3 _ 1 8 Tryz.underlying28 zP (by rfl) (by omega) w2.heap.size (some ⟨(World.heap V1).size, 0, none⟩) 0 0 [] (by rfl) Op2.out f.p.A f.p.n f.p.c (zo (yJ f.pk)) (by rfl) Lp.out (Sp.out _ HB2.out) (yf _) (by have := Mp.out; unfold maxLen; omega) (by have := Mp.out; omega) HB2.out.size ?_
    intro Ap cp V3 hown hg hbk
    simp only [Nat.zero_add, List.nil_append] at hown ⊢
    have t : Turned (fun k => (Value.slice (some ⟨(World.heap V1).size, 0, none⟩) 0 0).ownBlock = some k) V2 V3 := Turned.of_grown hg (fun k e => e)
    have Op3 := ihq hown
    have HB3 := ihq (HB2.out.trans (t.below (fun k e => (Op2.out.lt k e).1) HB2.out.size))
    have Ok3 := ihq (ze t Ok2.out (fun k e => zq Ok2.out Op2.out (by decide) e))
    refine hK.out _ _ ?_ (fun hHeld => ?_)
    ·exact Hb12.out.trans (HB3.out.mono Hb12.out.size)
    clear hK K hown hg hbk t
    try simp only [Act.put, iq1, iq2, iq3, iq4, iq5, iq6]
    clear HB2 Op2 Ok2
    refine wpAnyH_ready (rs := [4]) (by kernel_rfl) (by simp) ?_
    refine AllReadyH.cons rfl (fun K hK => ?_) ?_
    ·clear hHeld
     (try simp only [iq4, iq5, iq6])
     obtain ⟨V4, hV4⟩ : ∃ W, World.alloc V3 (.cells #[] 49) = W := ⟨_, rfl⟩
     have Ov4 := ihq (show World.ownsRow V4 w2.heap.size 49 8 (.slice (some ⟨(World.heap V3).size, 0, none⟩) 0 0) 0 [] from (by rw [<- hV4]; exact yk _ _ HB3.out.size))
     have hbn : Below (World.heap V3).size V3 V4 := by rw [<- hV4]; exact zg _ _
     have HB4 := ihq (HB3.out.trans (hbn.mono HB3.out.size))
     have Op4 := ihq (zh Op3.out hbn)
     have Ok4 := ihq (zh Ok3.out hbn)
     go_simp
     try rw [hV4]
     refine hK.out _ _ ?_ (fun hHeld => ?_)
     ·exact Hb12.out.trans (HB4.out.mono Hb12.out.size)
     clear hK K hbn hV4
     try simp only [Act.put, iq1, iq2, iq3, iq4, iq5, iq6]
     clear HB3 Op3 Ok3
     refine wpAnyH_ready (rs := [7]) (by kernel_rfl) (by simp) ?_
     refine AllReadyH.cons rfl (fun K hK => ?_) ?_
     ·clear hHeld
      (try simp only [iq4, iq5, iq6])
      refine zy (by rfl) ?_
      refine zF (.tmp 7) (.tmp 9) _ (by rfl) 49 _ 8 80 Tryz.underlying29 yG (by rfl) (by omega) w2.heap.size (some ⟨(World.heap V3).size, 0, none⟩) 0 0 [] (by rfl) Ov4.out f.v.A f.v.n f.v.c (vksV f.X) (by rfl) Lv.out (Sv.out _ HB4.out) (zS _) (by have := Mv.out; unfold maxLen; omega) (by have := Mv.out; omega) HB4.out.size ?_
      intro Av cv V5 hown hg hbk
      simp only [Nat.zero_add, List.nil_append] at hown ⊢
      have t : Turned (fun k => (Value.slice (some ⟨(World.heap V3).size, 0, none⟩) 0 0).ownBlock = some k) V4 V5 := Turned.of_grown hg (fun k e => e)
      have Ov5 := ihq hown
      have HB5 := ihq (HB4.out.trans (t.below (fun k e => (Ov4.out.lt k e).1) HB4.out.size))
      have Op5 := ihq (ze t Op4.out (fun k e => zq Op4.out Ov4.out (by decide) e))
      have Ok5 := ihq (ze t Ok4.out (fun k e => zq Ok4.out Ov4.out (by decide) e))
      refine hK.out _ _ ?_ (fun hHeld => ?_)
      ·exact Hb12.out.trans (HB5.out.mono Hb12.out.size)
      clear hK K hown hg hbk t
      try simp only [Act.put, iq1, iq2, iq3, iq4, iq5, iq6]
      clear HB4 Op4 Ov4 Ok4
      refine wpAnyH_ready (rs := [11]) (by kernel_rfl) (by simp) ?_
      refine AllReadyH.cons rfl (fun K hK => ?_) ?_
      ·clear hHeld
       (try simp only [iq4, iq5, iq6])
       refine zy (by rfl) ?_
       refine zF (.tmp 11) (.tmp 13) _ (by rfl) 82 _ 5 72 Tryz.underlying30 yI (by rfl) (by omega) w2.heap.size (some ⟨(World.heap w2.drew).size, 0, none⟩) 0 0 [] (by rfl) Ok5.out f.k.A f.k.n f.k.c (cksV f.K) (by rfl) Lk.out (Sk.out _ HB5.out) (zV _) (by have := Mk.out; unfold maxLen; omega) (by have := Mk.out; omega) HB5.out.size ?_
       intro Ak ck V6 hown hg hbk
       simp only [Nat.zero_add, List.nil_append] at hown ⊢
       have t : Turned (fun k => (Value.slice (some ⟨(World.heap w2.drew).size, 0, none⟩) 0 0).ownBlock = some k) V5 V6 := Turned.of_grown hg (fun k e => e)
       have Ok6 := ihq hown
       have HB6 := ihq (HB5.out.trans (t.below (fun k e => (Ok5.out.lt k e).1) HB5.out.size))
       have Op6 := ihq (ze t Op5.out (fun k e => zq Op5.out Ok5.out (by decide) e))
       have Ov6 := ihq (ze t Ov5.out (fun k e => zq Ov5.out Ok5.out (by decide) e))
       refine hK.out _ _ ?_ (fun hHeld => ?_)
       ·exact Hb12.out.trans (HB6.out.mono Hb12.out.size)
       clear hK K hown hg hbk t
       try simp only [Act.put, iq1, iq2, iq3, iq4, iq5, iq6]
       clear HB5 Op5 Ov5 Ok5
       refine wpAnyH_take (i := 14) (v := ?v21) rfl (by kernel_rfl) (by kernel_rfl) (by kernel_rfl) (fun _ _ _ h => h) (Or.inl ⟨by rfl, ?hy21⟩) (by assumption) ?rest21
       case hy21 => (intro w' hS; obtain ⟨t1, t2, t3, t4⟩ := Hc.out w' hS; (try simp only [iq4, iq5, iq6]); go_simp; try with_reducible rfl)
       try simp only [Act.put, iq1, iq2, iq3, iq4, iq5, iq6]
       obtain ⟨W9, hst, hr9, ht9⟩ := zk ((HB6.out.block w1.heap.size Lg.out).trans Hr2.out) rfl ⟨Ap, f.p.n, cp⟩ ⟨Av, f.v.n, cv⟩ ⟨Ak, f.k.n, ck⟩ f.nx
       have Hr9 := ihq hr9; have Ht9 := ihq ht9; have Hst := ihq hst
       clear hr9 ht9 hst
       refine wpAnyH_ready (rs := [15]) (by kernel_rfl) (by simp) ?_
       refine AllReadyH.cons rfl (fun K hK => ?_) AllReadyH.nil
       (try simp only [iq4, iq5, iq6])
       have hst := Hst.out
       go_simp
       have HB9 := ihq (show Below w1.heap.size w1 W9 from (Hb12.out.trans (HB6.out.mono Hb12.out.size)).trans (Ht9.out.below (fun k e => by omega) (Nat.le_trans Hb12.out.size HB6.out.size)))
       refine hK.out _ _ ?_ (fun _ => ?_)
       ·exact HB9.out
       clear hK K hHeld hst
       try simp only [Act.put, iq1, iq2, iq3, iq4, iq5, iq6]
       refine wpAnyH_done (by kernel_rfl) ?_ _
       go_wp2
       refine bodyPost_ret (results_cell_row rfl _ _ w1.heap.size 32 _ (0, 0) _ rfl Hr9.out Tryz.underlying32 rfl zw) rfl ?_
       exact yE HW.out Hb1.out Hb12.out Lg.out HB6.out Op6.out Ov6.out Ok6.out Ht9.out
      exact AllReadyH.nil
     exact AllReadyH.nil
    exact AllReadyH.nil
   refine AllReadyH.cons rfl (fun K hK => ?_) ?_
   ·clear hHeld
    (try simp only [iq4, iq5, iq6])
    obtain ⟨V3, hV3⟩ : ∃ W, World.alloc V2 (.cells #[] 49) = W := ⟨_, rfl⟩
    have Ov3 := ihq (show World.ownsRow V3 w2.heap.size 49 8 (.slice (some ⟨(World.heap V2).size, 0, none⟩) 0 0) 0 [] from (by rw [<- hV3]; exact yk _ _ HB2.out.size))
    have hbn : Below (World.heap V2).size V2 V3 := by rw [<- hV3]; exact zg _ _
    have HB3 := ihq (HB2.out.trans (hbn.mono HB2.out.size))
    have Op3 := ihq (zh Op2.out hbn)
    have Ok3 := ihq (zh Ok2.out hbn)
    go_simp
    try rw [hV3]
    refine hK.out _ _ ?_ (fun hHeld => ?_)
    ·exact Hb12.out.trans (HB3.out.mono Hb12.out.size)
    clear hK K hbn hV3
    try simp only [Act.put, iq1, iq2, iq3, iq4, iq5, iq6]
    clear HB2 Op2 Ok2
    refine wpAnyH_ready (rs := [3]) (by kernel_rfl) (by simp) ?_
    refine AllReadyH.cons rfl (fun K hK => ?_) ?_
    ·clear hHeld
     (try simp only [iq4, iq5, iq6])
     refine zy (by rfl) ?_
     refine zF (.tmp 3) (.tmp 5) _ (by rfl) 3 _ 1 8 Tryz.underlying28 zP (by rfl) (by omega) w2.heap.size (some ⟨(World.heap V1).size, 0, none⟩) 0 0 [] (by rfl) Op3.out f.p.A f.p.n f.p.c (zo (yJ f.pk)) (by rfl) Lp.out (Sp.out _ HB3.out) (yf _) (by have := Mp.out; unfold maxLen; omega) (by have := Mp.out; omega) HB3.out.size ?_
     intro Ap cp V4 hown hg hbk
     simp only [Nat.zero_add, List.nil_append] at hown ⊢
     have t : Turned (fun k => (Value.slice (some ⟨(World.heap V1).size, 0, none⟩) 0 0).ownBlock = some k) V3 V4 := Turned.of_grown hg (fun k e => e)
     have Op4 := ihq hown
     have HB4 := ihq (HB3.out.trans (t.below (fun k e => (Op3.out.lt k e).1) HB3.out.size))
     have Ov4 := ihq (ze t Ov3.out (fun k e => zq Ov3.out Op3.out (by decide) e))
     have Ok4 := ihq (ze t Ok3.out (fun k e => zq Ok3.out Op3.out (by decide) e))
     refine hK.out _ _ ?_ (fun hHeld => ?_)
     ·exact Hb12.out.trans (HB4.out.mono Hb12.out.size)
     clear hK K hown hg hbk t
     try simp only [Act.put, iq1, iq2, iq3, iq4, iq5, iq6]
     clear HB3 Op3 Ov3 Ok3
     refine wpAnyH_ready (rs := [7]) (by kernel_rfl) (by simp) ?_
     refine AllReadyH.cons rfl (fun K hK => ?_) ?_
     ·clear hHeld
      (try simp only [iq4, iq5, iq6])
      refine zy (by rfl) ?_
      refine zF (.tmp 7) (.tmp 9) _ (by rfl) 49 _ 8 80 Tryz.underlying29 yG (by rfl) (by omega) w2.heap.size (some ⟨(World.heap V2).size, 0, none⟩) 0 0 [] (by rfl) Ov4.out f.v.A f.v.n f.v.c (vksV f.X) (by rfl) Lv.out (Sv.out _ HB4.out) (zS _) (by have := Mv.out; unfold maxLen; omega) (by have := Mv.out; omega) HB4.out.size ?_
      intro Av cv V5 hown hg hbk
      simp only [Nat.zero_add, List.nil_append] at hown ⊢
      have t : Turned (fun k => (Value.slice (some ⟨(World.heap V2).size, 0, none⟩) 0 0).ownBlock = some k) V4 V5 := Turned.of_grown hg (fun k e => e)
      have Ov5 := ihq hown
      have HB5 := ihq (HB4.out.trans (t.below (fun k e => (Ov4.out.lt k e).1) HB4.out.size))
      have Op5 := ihq (ze t Op4.out (fun k e => zq Op4.out Ov4.out (by decide) e))
      have Ok5 := ihq (ze t Ok4.out (fun k e => zq Ok4.out Ov4.out (by decide) e))
      refine hK.out _ _ ?_ (fun hHeld => ?_)
      ·exact Hb12.out.trans (HB5.out.mono Hb12.out.size)
      clear hK K hown hg hbk t
      try simp only [Act.put, iq1, iq2, iq3, iq4, iq5, iq6]
      clear HB4 Op4 Ov4 Ok4
      refine wpAnyH_ready (rs := [11]) (by kernel_rfl) (by simp) ?_
      refine AllReadyH.cons rfl (fun K hK => ?_) ?_
      ·clear hHeld
       (try simp only [iq4, iq5, iq6])
       refine zy (by rfl) ?_
       refine zF (.tmp 11) (.tmp 13) _ (by rfl) 82 _ 5 72 Tryz.underlying30 yI (by rfl) (by omega) w2.heap.size (some ⟨(World.heap w2.drew).size, 0, none⟩) 0 0 [] (by rfl) Ok5.out f.k.A f.k.n f.k.c (cksV f.K) (by rfl) Lk.out (Sk.out _ HB5.out) (zV _) (by have := Mk.out; unfold maxLen; omega) (by have := Mk.out; omega) HB5.out.size ?_
       intro Ak ck V6 hown hg hbk
       simp only [Nat.zero_add, List.nil_append] at hown ⊢
       have t : Turned (fun k => (Value.slice (some ⟨(World.heap w2.drew).size, 0, none⟩) 0 0).ownBlock = some k) V5 V6 := Turned.of_grown hg (fun k e => e)
       have Ok6 := ihq hown
       have HB6 := ihq (HB5.out.trans (t.below (fun k e => (Ok5.out.lt k e).1) HB5.out.size))
       have Op6 := ihq (ze t Op5.out (fun k e => zq Op5.out Ok5.out (by decide) e))
       have Ov6 := ihq (ze t Ov5.out (fun k e => zq Ov5.out Ok5.out (by decide) e))
       refine hK.out _ _ ?_ (fun hHeld => ?_)
       ·exact Hb12.out.trans (HB6.out.mono Hb12.out.size)
       clear hK K hown hg hbk t
       try simp only [Act.put, iq1, iq2, iq3, iq4, iq5, iq6]
       clear HB5 Op5 Ov5 Ok5
       refine wpAnyH_take (i := 14) (v := ?v22) rfl (by kernel_rfl) (by kernel_rfl) (by kernel_rfl) (fun _ _ _ h => h) (Or.inl ⟨by rfl, ?hy22⟩) (by assumption) ?rest22
       case hy22 => (intro w' hS; obtain ⟨t1, t2, t3, t4⟩ := Hc.out w' hS; (try simp only [iq4, iq5, iq6]); go_simp; try with_reducible rfl)
       try simp only [Act.put, iq1, iq2, iq3, iq4, iq5, iq6]
       obtain ⟨W9, hst, hr9, ht9⟩ := zk ((HB6.out.block w1.heap.size Lg.out).trans Hr2.out) rfl ⟨Ap, f.p.n, cp⟩ ⟨Av, f.v.n, cv⟩ ⟨Ak, f.k.n, ck⟩ f.nx
       have Hr9 := ihq hr9; have Ht9 := ihq ht9; have Hst := ihq hst
       clear hr9 ht9 hst
       refine wpAnyH_ready (rs := [15]) (by kernel_rfl) (by simp) ?_
       refine AllReadyH.cons rfl (fun K hK => ?_) AllReadyH.nil
       (try simp only [iq4, iq5, iq6])
       have hst := Hst.out
       go_simp
       have HB9 := ihq (show Below w1.heap.size w1 W9 from (Hb12.out.trans (HB6.out.mono Hb12.out.size)).trans (Ht9.out.below (fun k e => by omega) (Nat.le_trans Hb12.out.size HB6.out.size)))
       refine hK.out _ _ ?_ (fun _ => ?_)
       ·exact HB9.out
       clear hK K hHeld hst
       try simp only [Act.put, iq1, iq2, iq3, iq4, iq5, iq6]
       refine wpAnyH_done (by kernel_rfl) ?_ _
       go_wp2
       refine bodyPost_ret (results_cell_row rfl _ _ w1.heap.size 32 _ (0, 0) _ rfl Hr9.out Tryz.underlying32 rfl zw) rfl ?_
       exact yE HW.out Hb1.out Hb12.out Lg.out HB6.out Op6.out Ov6.out Ok6.out Ht9.out
      exact AllReadyH.nil
     exact AllReadyH.nil
    exact AllReadyH.nil
   exact AllReadyH.nil
  refine AllReadyH.cons rfl (fun K hK => ?_) ?_
  ·clear hHeld
   (try simp only [iq4, iq5, iq6])
   obtain ⟨V2, hV2⟩ : ∃ W, World.alloc V1 (.cells #[] 49) = W := ⟨_, rfl⟩
   have Ov2 := ihq (show World.ownsRow V2 w2.heap.size 49 8 (.slice (some ⟨(World.heap V1).size, 0, none⟩) 0 0) 0 [] from (by rw [<- hV2]; exact yk _ _ HB1.out.size))
   have hbn : Below (World.heap V1).size V1 V2 := by rw [<- hV2]; exact zg _ _
   have HB2 := ihq (HB1.out.trans (hbn.mono HB1.out.size))
   have Ok2 := ihq (zh Ok1.out hbn)
   go_simp
   try rw [hV2]
   refine hK.out _ _ ?_ (fun hHeld => ?_)
   ·exact Hb12.out.trans (HB2.out.mono Hb12.out.size)
   clear hK K hbn hV2
   try simp only [Act.put, iq1, iq2, iq3, iq4, iq5, iq6]
   clear HB1 Ok1
   refine wpAnyH_ready (rs := [0]) (by kernel_rfl) (by simp) ?_
   refine AllReadyH.cons rfl (fun K hK => ?_) ?_
   ·clear hHeld
    (try simp only [iq4, iq5, iq6])
    obtain ⟨V3, hV3⟩ : ∃ W, World.alloc V2 (.cells #[] 3) = W := ⟨_, rfl⟩
    have Op3 := ihq (show World.ownsRow V3 w2.heap.size 3 1 (.slice (some ⟨(World.heap V2).size, 0, none⟩) 0 0) 0 [] from (by rw [<- hV3]; exact yk _ _ HB2.out.size))
    have hbn : Below (World.heap V2).size V2 V3 := by rw [<- hV3]; exact zg _ _
    have HB3 := ihq (HB2.out.trans (hbn.mono HB2.out.size))
    have Ov3 := ihq (zh Ov2.out hbn)
    have Ok3 := ihq (zh Ok2.out hbn)
    go_simp
    try rw [hV3]
    refine hK.out _ _ ?_ (fun hHeld => ?_)
    ·exact Hb12.out.trans (HB3.out.mono Hb12.out.size)
    clear hK K hbn hV3
    try simp only [Act.put, iq1, iq2, iq3, iq4, iq5, iq6]
    clear HB2 Ov2 Ok2
    refine wpAnyH_ready (rs := [3]) (by kernel_rfl) (by simp) ?_
    refine AllReadyH.cons rfl (fun K hK => ?_) ?_
    ·clear hHeld
     (try simp only [iq4, iq5, iq6])
     refine zy (by rfl) ?_
     refine zF (.tmp 3) (.tmp 5) _ (by rfl) 3 _ 1 8 Tryz.underlying28 zP (by rfl) (by omega) w2.heap.size (some ⟨(World.heap V2).size, 0, none⟩) 0 0 [] (by rfl) Op3.out f.p.A f.p.n f.p.c (zo (yJ f.pk)) (by rfl) Lp.out (Sp.out _ HB3.out) (yf _) (by have := Mp.out; unfold maxLen; omega) (by have := Mp.out; omega) HB3.out.size ?_
     intro Ap cp V4 hown hg hbk
     simp only [Nat.zero_add, List.nil_append] at hown ⊢
     have t : Turned (fun k => (Value.slice (some ⟨(World.heap V2).size, 0, none⟩) 0 0).ownBlock = some k) V3 V4 := Turned.of_grown hg (fun k e => e)
     have Op4 := ihq hown
     have HB4 := ihq (HB3.out.trans (t.below (fun k e => (Op3.out.lt k e).1) HB3.out.size))
     have Ov4 := ihq (ze t Ov3.out (fun k e => zq Ov3.out Op3.out (by decide) e))
     have Ok4 := ihq (ze t Ok3.out (fun k e => zq Ok3.out Op3.out (by decide) e))
     refine hK.out _ _ ?_ (fun hHeld => ?_)
     ·exact Hb12.out.trans (HB4.out.mono Hb12.out.size)
     clear hK K hown hg hbk t
     try simp only [Act.put, iq1, iq2, iq3, iq4, iq5, iq6]
     clear HB3 Op3 Ov3 Ok3
     refine wpAnyH_ready (rs := [7]) (by kernel_rfl) (by simp) ?_
     refine AllReadyH.cons rfl (fun K hK => ?_) ?_
     ·clear hHeld
      (try simp only [iq4, iq5, iq6])
      refine zy (by rfl) ?_
      refine zF (.tmp 7) (.tmp 9) _ (by rfl) 49 _ 8 80 Tryz.underlying29 yG (by rfl) (by omega) w2.heap.size (some ⟨(World.heap V1).size, 0, none⟩) 0 0 [] (by rfl) Ov4.out f.v.A f.v.n f.v.c (vksV f.X) (by rfl) Lv.out (Sv.out _ HB4.out) (zS _) (by have := Mv.out; unfold maxLen; omega) (by have := Mv.out; omega) HB4.out.size ?_
      intro Av cv V5 hown hg hbk
      simp only [Nat.zero_add, List.nil_append] at hown ⊢
      have t : Turned (fun k => (Value.slice (some ⟨(World.heap V1).size, 0, none⟩) 0 0).ownBlock = some k) V4 V5 := Turned.of_grown hg (fun k e => e)
      have Ov5 := ihq hown
      have HB5 := ihq (HB4.out.trans (t.below (fun k e => (Ov4.out.lt k e).1) HB4.out.size))
      have Op5 := ihq (ze t Op4.out (fun k e => zq Op4.out Ov4.out (by decide) e))
      have Ok5 := ihq (ze t Ok4.out (fun k e => zq Ok4.out Ov4.out (by decide) e))
      refine hK.out _ _ ?_ (fun hHeld => ?_)
      ·exact Hb12.out.trans (HB5.out.mono Hb12.out.size)
      clear hK K hown hg hbk t
      try simp only [Act.put, iq1, iq2, iq3, iq4, iq5, iq6]
      clear HB4 Op4 Ov4 Ok4
      refine wpAnyH_ready (rs := [11]) (by kernel_rfl) (by simp) ?_
      refine AllReadyH.cons rfl (fun K hK => ?_) ?_
      ·clear hHeld
       (try simp only [iq4, iq5, iq6])
       refine zy (by rfl) ?_
       refine zF (.tmp 11) (.tmp 13) _ (by rfl) 82 _ 5 72 Tryz.underlying30 yI (by rfl) (by omega) w2.heap.size (some ⟨(World.heap w2.drew).size, 0, none⟩) 0 0 [] (by rfl) Ok5.out f.k.A f.k.n f.k.c (cksV f.K) (by rfl) Lk.out (Sk.out _ HB5.out) (zV _) (by have := Mk.out; unfold maxLen; omega) (by have := Mk.out; omega) HB5.out.size ?_
       intro Ak ck V6 hown hg hbk
       simp only [Nat.zero_add, List.nil_append] at hown ⊢
       have t : Turned (fun k => (Value.slice (some ⟨(World.heap w2.drew).size, 0, none⟩) 0 0).ownBlock = some k) V5 V6 := Turned.of_grown hg (fun k e => e)
       have Ok6 := ihq hown
       have HB6 := ihq (HB5.out.trans (t.below (fun k e => (Ok5.out.lt k e).1) HB5.out.size))
       have Op6 := ihq (ze t Op5.out (fun k e => zq Op5.out Ok5.out (by decide) e))
       have Ov6 := ihq (ze t Ov5.out (fun k e => zq Ov5.out Ok5.out (by decide) e))
       refine hK.out _ _ ?_ (fun hHeld => ?_)
       ·exact Hb12.out.trans (HB6.out.mono Hb12.out.size)
       clear hK K hown hg hbk t
       try simp only [Act.put, iq1, iq2, iq3, iq4, iq5, iq6]
       clear HB5 Op5 Ov5 Ok5
       refine wpAnyH_take (i := 14) (v := ?v23) rfl (by kernel_rfl) (by kernel_rfl) (by kernel_rfl) (fun _ _ _ h => h) (Or.inl ⟨by rfl, ?hy23⟩) (by assumption) ?rest23
       case hy23 => (intro w' hS; obtain ⟨t1, t2, t3, t4⟩ := Hc.out w' hS; (try simp only [iq4, iq5, iq6]); go_simp; try with_reducible rfl)
       try simp only [Act.put, iq1, iq2, iq3, iq4, iq5, iq6]
       obtain ⟨W9, hst, hr9, ht9⟩ := zk ((HB6.out.block w1.heap.size Lg.out).trans Hr2.out) rfl ⟨Ap, f.p.n, cp⟩ ⟨Av, f.v.n, cv⟩ ⟨Ak, f.k.n, ck⟩ f.nx
       have Hr9 := ihq hr9; have Ht9 := ihq ht9; have Hst := ihq hst
       clear hr9 ht9 hst
       refine wpAnyH_ready (rs := [15]) (by kernel_rfl) (by simp) ?_
       refine AllReadyH.cons rfl (fun K hK => ?_) AllReadyH.nil
       (try simp only [iq4, iq5, iq6])
       have hst := Hst.out
       go_simp
       have HB9 := ihq (show Below w1.heap.size w1 W9 from (Hb12.out.trans (HB6.out.mono Hb12.out.size)).trans (Ht9.out.below (fun k e => by omega) (Nat.le_trans Hb12.out.size HB6.out.size)))
       refine hK.out _ _ ?_ (fun _ => ?_)
       ·exact HB9.out
       clear hK K hHeld hst
       try simp only [Act.put, iq1, iq2, iq3, iq4, iq5, iq6]
       refine wpAnyH_done (by kernel_rfl) ?_ _
       go_wp2
       refine bodyPost_ret (results_cell_row rfl _ _ w1.heap.size 32 _ (0, 0) _ rfl Hr9.out Tryz.underlying32 rfl zw) rfl ?_
       exact yE HW.out Hb1.out Hb12.out Lg.out HB6.out Op6.out Ov6.out Ok6.out Ht9.out
      exact AllReadyH.nil
     exact AllReadyH.nil
    exact AllReadyH.nil
   exact AllReadyH.nil
  exact AllReadyH.nil
 exact AllReadyH.nil
end Go.Proofs.YteebkolccbcehaaGreat
