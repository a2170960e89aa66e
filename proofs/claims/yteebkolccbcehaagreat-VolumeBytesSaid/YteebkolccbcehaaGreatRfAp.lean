/-
  Contract of dotterelref18's Apply: it answers applyR, and turns nothing that was there. Conditions: a state that can be read, whose numbers are within bounds; a command of numbers that an int holds.
-/
import Derived.Test.YteebkolccbcehaaGreatJW
import Derived.Test.YteebkolccbcehaaGreatRfAdm
set_option linter.all false
namespace Go.Proofs.YteebkolccbcehaaGreat
open Go.ChangeShapes Go.WideShapes Go.ChangeAt Go.RowKit
def YL (r : RS) (e : Int) (w : World) (en : Ending) (w' : World) : Prop := ∃ f' : Rf, en = .returned (.tuple #[f'.val, .int .i64 e]) /\ f'.dat = r /\ RfOk w' f' /\ Below w.heap.size w w'
theorem yV {w V V' : World} {f' : Rf} {r : RS} {e : Int} {g : Nat} (hw : Below w.heap.size w V) (ok : RfOk V f') (hwg : w.heap.size <= g) (hg : ∃ cs, V.heap[g]? = some (.cells cs 32 (0, 0))) (ht : Turned (fun b => b = g) V V') (hd : f'.dat = r) :
  YL r e w (.returned (.tuple #[f'.val, .int .i64 e])) V' :=
 ⟨f', rfl, hd, ok.turnedSt hg ht, hw.trans (ht.below (fun b e => by omega) hw.size)⟩
structure Bx3 (gs gc gr : Nat) (f : Rf) (c : Cmd) (V : World) : Prop where
 s : V.heap[gs]? = some (.cells #[.slice f.p.A f.p.n f.p.c, .slice f.v.A f.v.n f.v.c, .slice f.k.A f.k.n f.k.c, .int .i64 f.nx] 32 (0, 0))
 c : V.heap[gc]? = some (.cells #[.int .i64 c.k, .int .i64 c.a, .int .i64 c.b, .int .i64 c.c, .int .i64 c.p.re, .int .i64 c.p.we, .int .i64 c.p.li, .int .i64 c.p.bu] 39 (0, 0))
 r : V.heap[gr]? = some (.cells #[.slice none 0 0, .slice none 0 0, .slice none 0 0, .int .i64 0] 32 (0, 0))
theorem Bx3.below {gs gc gr : Nat} {f : Rf} {c : Cmd} {V W : World} (h : Bx3 gs gc gr f c V) (hb : Below V.heap.size V W) : Bx3 gs gc gr f c W := ⟨za h.s hb, za h.c hb, za h.r hb⟩
theorem Bx3.turned {p : Nat -> Prop} {gs gc gr : Nat} {f : Rf} {c : Cmd} {V W : World} (h : Bx3 gs gc gr f c V) (ht : Turned p V W) (h1 : ¬ p gs) (h2 : ¬ p gc) (h3 : ¬ p gr) : Bx3 gs gc gr f c W := ⟨ht.heap h.s h1, ht.heap h.c h2, ht.heap h.r h3⟩
theorem Bx3.sees {gs gc gr : Nat} {f : Rf} {c : Cmd} {V : World} (h : Bx3 gs gc gr f c V) : (ldRf (.pointer (some ⟨gs, 0, none⟩))).run Tryz.prog V = .ok (.agg #[.slice f.p.A f.p.n f.p.c, .slice f.v.A f.v.n f.v.c, .slice f.k.A f.k.n f.k.c, .int .i64 f.nx]) V /\ (Ye (.pointer (some ⟨gc, 0, none⟩))).run Tryz.prog V = .ok (.agg #[.int .i64 c.k, .int .i64 c.a, .int .i64 c.b, .int .i64 c.c, .int .i64 c.p.re, .int .i64 c.p.we, .int .i64 c.p.li, .int .i64 c.p.bu]) V := ⟨zR h.s, Xk h.c⟩
theorem Bx3.do_ {gs gc gr B : Nat} {f f1 : Rf} {c : Cmd} {w0 V W : World} (h : Bx3 gs gc gr f c V) (ho : xh B w0 V f1) (ht : Turned (RowB f1) V W) (h1 : gs < B) (h2 : gc < B) (h3 : gr < B) : Bx3 gs gc gr f c W :=
 h.turned ht (fun e => by have := (RowB.lt ho e).1; omega) (fun e => by have := (RowB.lt ho e).1; omega) (fun e => by have := (RowB.lt ho e).1; omega)
theorem ZL {B g : Nat} {f1 : Rf} {w0 V : World} {cs : Array Value} (ho : xh B w0 V f1) (hg : V.heap[g]? = some (.cells cs 32 (0, 0))) : ¬ RowB f1 g := fun e => by
 rcases e with e | e | e
 ·obtain ⟨cs', h1⟩ := zD ho.p e
  rw [hg] at h1; injection h1 with h1; injection h1 with _ h1; exact absurd h1 (by decide)
 ·obtain ⟨cs', h1⟩ := zD ho.v e
  rw [hg] at h1; injection h1 with h1; injection h1 with _ h1; exact absurd h1 (by decide)
 ·obtain ⟨cs', h1⟩ := zD ho.k e
  rw [hg] at h1; injection h1 with h1; injection h1 with _ h1; exact absurd h1 (by decide)
attribute [local go_sem ↓] yX y9 yK
set_option maxRecDepth 100000 in
set_option maxHeartbeats 4000000 in
theorem RApply_err (f : Rf) (c : Cmd) (w : World) (h : RfOk w f) (hf : Yj f.dat) (hc : yj c) (h1k : 1 <= c.k) (h8k : c.k <= 8) (hE : (doR f.dat c).2 ≠ 0) :
  Calls Tryz.prog 9 #[f.val, cmdA c] w (YL f.dat (doR f.dat c).2 w) := by
 unfold Rf.val cmdA
 obtain ⟨w1, hw1, hb1, hr1⟩ := yb w f
 obtain ⟨w2, hw2, hb2, hr2⟩ := zN w1 c
 obtain ⟨w3, hw3⟩ : ∃ w3, w2.alloc (.cells #[.slice none 0 0, .slice none 0 0, .slice none 0 0, .int .i64 0] 32) = w3 := ⟨_, rfl⟩
 have hb3 : Below w2.heap.size w2 w3 := by rw [<- hw3]; exact zg _ _
 have hr3 : w3.heap[w2.heap.size]? = some (.cells #[.slice none 0 0, .slice none 0 0, .slice none 0 0, .int .i64 0] 32 (0, 0)) := by rw [<- hw3]; exact heap_alloc_new _ _
 have hb12 : Below w.heap.size w w2 := hb1.trans (hb2.mono hb1.size)
 have hbw : Below w.heap.size w w3 := hb12.trans (hb3.mono hb12.size)
 have h1 := za (za hr1 hb2) hb3
 have h2 := za hr2 hb3
 have Hr3 := ihq hr3; have Hbw := ihq hbw; have HW := ihq h
 have Hsz := ihq (show w.heap.size < w1.heap.size /\ w1.heap.size < w2.heap.size /\ w2.heap.size < w3.heap.size from ⟨(Array.getElem?_eq_some_iff.1 hr1).1, (Array.getElem?_eq_some_iff.1 hr2).1, (Array.getElem?_eq_some_iff.1 hr3).1⟩)
 have F := ihq (fun V (hv : Below w3.heap.size w3 V) => (zK.of (za h1 hv) (za h2 hv) : zK w w1 f c V))
 have H3 := ihq (h.below hbw)
 obtain ⟨s0, s1, s2, s3, sl, c0, c1, c2, c3⟩ := F.out w3 (Below.refl _ _)
 have KCl := ihq (fun V (hv : Below w3.heap.size w3 V) => (show Calls Tryz.prog 18 #[.agg #[.slice f.p.A f.p.n f.p.c, .slice f.v.A f.v.n f.v.c, .slice f.k.A f.k.n f.k.c, .int .i64 f.nx]] V (Ym f V) from Rclone f V (H3.out.below hv)))
 obtain ⟨er, her⟩ : ∃ e, (doR f.dat c).2 = e := ⟨_, rfl⟩
 have KD := ihq (fun B w0 V P Vs Kc (hB : w3.heap.size <= B) (ho : xh B w0 V { f with p := P, v := Vs, k := Kc }) => (show Calls Tryz.prog 17 #[.agg #[.slice P.A P.n P.c, .slice Vs.A Vs.n Vs.c, .slice Kc.A Kc.n Kc.c, .int .i64 f.nx], .agg #[.int .i64 c.k, .int .i64 c.a, .int .i64 c.b, .int .i64 c.c, .int .i64 c.p.re, .int .i64 c.p.we, .int .i64 c.p.li, .int .i64 c.p.bu]] V (yg { f with p := P, v := Vs, k := Kc } (doR f.dat c).1 er V) from by
  rw [<- her]; exact Rdo_any _ c B w0 V ho hf hc h1k h8k))
 have BX0 := ihq ((⟨h1, h2, hr3⟩ : Bx3 w.heap.size w1.heap.size w2.heap.size f c w3).below (Below.refl w3.heap.size w3).drew)
 have HB0 := ihq (Below.refl w3.heap.size w3).drew
 have H0 := ihq h
 have k1 : ¬ c.k < 1 := by omega
 have k2 : ¬ 8 < c.k := by omega
 rw [her] at hE ⊢
 have he1 : (er != 0) = true := by simpa using hE
 clear hE
 clear hf hc her h1k h8k
 clear h hb1 hb2 hb3 hb12 hbw hr1 hr2 hr3 h1 h2
 go_enter Tryz.func9, Tryz.ntmps9
 go_upto_region 3 with fail
 refine zU (S := fun V => (ldRf (.pointer (some ⟨w.heap.size, 0, none⟩))).run Tryz.prog V = .ok (.agg #[.slice f.p.A f.p.n f.p.c, .slice f.v.A f.v.n f.v.c, .slice f.k.A f.k.n f.k.c, .int .i64 f.nx]) V /\ (Ye (.pointer (some ⟨w1.heap.size, 0, none⟩))).run Tryz.prog V = .ok (.agg #[.int .i64 c.k, .int .i64 c.a, .int .i64 c.b, .int .i64 c.c, .int .i64 c.p.re, .int .i64 c.p.we, .int .i64 c.p.li, .int .i64 c.p.bu]) V) 8 (by kernel_rfl) ?_
 have hHeld := BX0.out.sees
 refine zi (i := 0) (v := ?v1) rfl (by kernel_rfl) (fun _ _ _ h => h) (Or.inl ⟨by rfl, ?hy1⟩) hHeld ?rest1
 case hy1 => (intro w' hS; obtain ⟨t1, t2⟩ := hS; (try simp only [iq4, iq5, iq6]); go_simp; try with_reducible rfl)
 try simp only [Act.put, iq1, iq2, iq3, iq4, iq5, iq6]
 refine zi (i := 2) (v := ?v2) rfl (by kernel_rfl) (fun _ _ _ h => h) (Or.inl ⟨by rfl, ?hy2⟩) hHeld ?rest2
 case hy2 => (intro w' hS; obtain ⟨t1, t2⟩ := hS; (try simp only [iq4, iq5, iq6]); go_simp; try with_reducible rfl)
 try simp only [Act.put, iq1, iq2, iq3, iq4, iq5, iq6]
 refine zf (rs := [1, 7]) (by kernel_rfl) (by simp) ?_
 refine zb.cons rfl (fun K hK => ?_) ?_
 ·(try simp only [iq4, iq5, iq6])
  go_simp
  refine (KCl.out w3.drew HB0.out).mono ?_
  rintro e U1 ⟨P, Vs, Kc, rfl, own⟩
  have OW1 := ihq own
  have BX1 := ihq (BX0.out.below own.bel)
  have HB1 := ihq (HB0.out.trans (own.bel.mono HB0.out.size))
  have HZ := ihq (show w3.heap.size <= (World.heap w3.drew).size from HB0.out.size)
  clear own
  try unfold Rf.val
  refine hK.out _ _ (fun _ => BX1.out.sees) ?_
  clear hHeld
  have hHeld := BX1.out.sees
  clear hK K
  try simp only [Act.put, iq1, iq2, iq3, iq4, iq5, iq6]
  refine zf (rs := [3, 7]) (by kernel_rfl) (by simp) ?_
  refine zb.cons rfl (fun K hK => ?_) ?_
  ·(try simp only [iq4, iq5, iq6])
   go_simp
   refine (KD.out _ _ _ P Vs Kc HZ.out OW1.out).mono ?_
   rintro e U2 ⟨f2, rfl, hd, hok, ht⟩
   have HD := ihq hd
   have OK2 := ihq hok
   have BX2 := ihq (BX1.out.do_ OW1.out ht (by have := Hsz.out; have := HZ.out; omega) (by have := Hsz.out; have := HZ.out; omega) (by have := Hsz.out; have := HZ.out; omega))
   have HQ2 := ihq (Nat.le_trans HB1.out.size ht.size)
   have HW2 := ihq ((Hbw.out.trans (HB1.out.mono Hbw.out.size)).trans (ht.below (B := w.heap.size) (fun b e => by have := (RowB.lt OW1.out e).1; have := HZ.out; have := Hbw.out.size; omega) (by have := HB1.out.size; have := Hbw.out.size; omega)))
   clear hd hok ht
   try unfold Rf.val
   refine hK.out _ _ (fun _ => BX2.out.sees) ?_
   clear hHeld
   have hHeld := BX2.out.sees
   clear hK K
   try simp only [Act.put, iq1, iq2, iq3, iq4, iq5, iq6]
   refine zi (i := 4) (v := ?v3) rfl (by kernel_rfl) (fun _ _ _ h => h) (Or.inl ⟨by rfl, ?hy3⟩) hHeld ?rest3
   case hy3 => (intro w' hS; obtain ⟨t1, t2⟩ := hS; (try simp only [iq4, iq5, iq6]); go_simp; try with_reducible rfl)
   try simp only [Act.put, iq1, iq2, iq3, iq4, iq5, iq6]
   refine zi (i := 5) (v := ?v4) rfl (by kernel_rfl) (fun _ _ _ h => h) (Or.inl ⟨by rfl, ?hy4⟩) hHeld ?rest4
   case hy4 => (intro w' hS; obtain ⟨t1, t2⟩ := hS; (try simp only [iq4, iq5, iq6]); go_simp; try with_reducible rfl)
   try simp only [Act.put, iq1, iq2, iq3, iq4, iq5, iq6]
   refine zf (rs := [6, 7]) (by kernel_rfl) (by simp) ?_
   refine zb.cons rfl (fun K hK => ?_) ?_
   ·(try simp only [iq4, iq5, iq6])
    go_simp
    refine hK.out _ _ (fun _ => hHeld) ?_
    clear hK K
    try simp only [Act.put, iq1, iq2, iq3, iq4, iq5, iq6]
    refine zf (rs := [7]) (by kernel_rfl) (by simp) ?_
    refine zb.cons rfl (fun K hK => ?_) ?_
    ·(try simp only [iq4, iq5, iq6])
     obtain ⟨U3, hU3⟩ : ∃ W, World.alloc U2 (.cells #[.slice none 0 0, .slice none 0 0, .slice none 0 0, .int .i64 0] 32) = W := ⟨_, rfl⟩
     have hbn : Below (World.heap U2).size U2 U3 := by rw [<- hU3]; exact zg _ _
     have G3 := ihq (show U3.heap[(World.heap U2).size]? = some (.cells #[.slice none 0 0, .slice none 0 0, .slice none 0 0, .int .i64 0] 32 (0, 0)) from (by rw [<- hU3]; exact heap_alloc_new _ _))
     have BX3 := ihq (BX2.out.below hbn)
     have HG := ihq (show w3.heap.size <= (World.heap U2).size from HQ2.out)
     have OK3 := ihq (OK2.out.below hbn)
     have HQ3 := ihq (Nat.le_trans HQ2.out hbn.size)
     have HW3 := ihq (HW2.out.trans (hbn.mono HW2.out.size))
     go_simp
     try rw [hU3]
     clear hbn
     refine hK.out _ _ (fun _ => BX3.out.sees) ?_
     clear hHeld
     have hHeld := BX3.out.sees
     clear hK K
     try simp only [Act.put, iq1, iq2, iq3, iq4, iq5, iq6]
     refine zf (rs := [8]) (by kernel_rfl) (by simp) ?_
     refine zb.cons rfl (fun K hK => ?_) ?_
     ·(try simp only [iq4, iq5, iq6])
      obtain ⟨X9, hst9, hr9, ht9⟩ := zk G3.out rfl f2.p f2.v f2.k f2.nx
      have BX9 := ihq (BX3.out.turned ht9 (by have := Hsz.out; have := HG.out; omega) (by have := Hsz.out; have := HG.out; omega) (by have := Hsz.out; have := HG.out; omega))
      have OK9 := ihq (OK3.out.turnedSt ⟨_, G3.out⟩ ht9)
      have HW9 := ihq (HW3.out.trans (ht9.below (B := w.heap.size) (fun b e => by have := HG.out; have := Hbw.out.size; omega) HW3.out.size))
      have Hr9 := ihq hr9
      clear hr9 ht9
      go_simp
      refine hK.out _ _ (fun h => (by cases h)) ?_
      clear hHeld hK K hst9
      try simp only [Act.put, iq1, iq2, iq3, iq4, iq5, iq6]
      refine zf (rs := [9]) (by kernel_rfl) (by simp) ?_
      refine zb.cons rfl (fun K hK => ?_) zb.nil
      (try simp only [iq4, iq5, iq6])
      go_simp
      refine hK.out _ _ (fun h => (by cases h)) ?_
      clear hK K
      try simp only [Act.put, iq1, iq2, iq3, iq4, iq5, iq6]
      refine zu (by kernel_rfl) ?_ _
      obtain ⟨l1, l2⟩ := BX9.out.sees
      obtain ⟨X10, hst10, hr10, ht10⟩ := zk BX9.out.r rfl f.p f.v f.k f.nx
      have Hr10 := ihq hr10; have Ht10 := ihq ht10
      clear hr10 ht10
      go_wp2
      refine bodyPost_ret (v := .tuple #[.agg #[.slice f.p.A f.p.n f.p.c, .slice f.v.A f.v.n f.v.c, .slice f.k.A f.k.n f.k.c, .int .i64 f.nx], .int .i64 er]) (zj rfl _ _ w2.heap.size 32 #[.slice f.p.A f.p.n f.p.c, .slice f.v.A f.v.n f.v.c, .slice f.k.A f.k.n f.k.c, .int .i64 f.nx] (0, 0) _ (.int .i64 er) rfl rfl Hr10.out Tryz.underlying32 rfl zw) rfl ?_
      exact yV (f' := f) HW9.out (H0.out.below HW9.out) (by have := Hsz.out; omega) ⟨_, BX9.out.r⟩ Ht10.out rfl
     exact zb.nil
    exact zb.nil
   refine zb.cons rfl (fun K hK => ?_) ?_
   ·(try simp only [iq4, iq5, iq6])
    obtain ⟨U3, hU3⟩ : ∃ W, World.alloc U2 (.cells #[.slice none 0 0, .slice none 0 0, .slice none 0 0, .int .i64 0] 32) = W := ⟨_, rfl⟩
    have hbn : Below (World.heap U2).size U2 U3 := by rw [<- hU3]; exact zg _ _
    have G3 := ihq (show U3.heap[(World.heap U2).size]? = some (.cells #[.slice none 0 0, .slice none 0 0, .slice none 0 0, .int .i64 0] 32 (0, 0)) from (by rw [<- hU3]; exact heap_alloc_new _ _))
    have BX3 := ihq (BX2.out.below hbn)
    have HG := ihq (show w3.heap.size <= (World.heap U2).size from HQ2.out)
    have OK3 := ihq (OK2.out.below hbn)
    have HQ3 := ihq (Nat.le_trans HQ2.out hbn.size)
    have HW3 := ihq (HW2.out.trans (hbn.mono HW2.out.size))
    go_simp
    try rw [hU3]
    clear hbn
    refine hK.out _ _ (fun _ => BX3.out.sees) ?_
    clear hHeld
    have hHeld := BX3.out.sees
    clear hK K
    try simp only [Act.put, iq1, iq2, iq3, iq4, iq5, iq6]
    refine zf (rs := [6, 8]) (by kernel_rfl) (by simp) ?_
    refine zb.cons rfl (fun K hK => ?_) ?_
    ·(try simp only [iq4, iq5, iq6])
     go_simp
     refine hK.out _ _ (fun _ => hHeld) ?_
     clear hK K
     try simp only [Act.put, iq1, iq2, iq3, iq4, iq5, iq6]
     refine zf (rs := [8]) (by kernel_rfl) (by simp) ?_
     refine zb.cons rfl (fun K hK => ?_) ?_
     ·(try simp only [iq4, iq5, iq6])
      obtain ⟨X9, hst9, hr9, ht9⟩ := zk G3.out rfl f2.p f2.v f2.k f2.nx
      have BX9 := ihq (BX3.out.turned ht9 (by have := Hsz.out; have := HG.out; omega) (by have := Hsz.out; have := HG.out; omega) (by have := Hsz.out; have := HG.out; omega))
      have OK9 := ihq (OK3.out.turnedSt ⟨_, G3.out⟩ ht9)
      have HW9 := ihq (HW3.out.trans (ht9.below (B := w.heap.size) (fun b e => by have := HG.out; have := Hbw.out.size; omega) HW3.out.size))
      have Hr9 := ihq hr9
      clear hr9 ht9
      go_simp
      refine hK.out _ _ (fun h => (by cases h)) ?_
      clear hHeld hK K hst9
      try simp only [Act.put, iq1, iq2, iq3, iq4, iq5, iq6]
      refine zf (rs := [9]) (by kernel_rfl) (by simp) ?_
      refine zb.cons rfl (fun K hK => ?_) zb.nil
      (try simp only [iq4, iq5, iq6])
      go_simp
      refine hK.out _ _ (fun h => (by cases h)) ?_
      clear hK K
      try simp only [Act.put, iq1, iq2, iq3, iq4, iq5, iq6]
      refine zu (by kernel_rfl) ?_ _
      obtain ⟨l1, l2⟩ := BX9.out.sees
      obtain ⟨X10, hst10, hr10, ht10⟩ := zk BX9.out.r rfl f.p f.v f.k f.nx
      have Hr10 := ihq hr10; have Ht10 := ihq ht10
      clear hr10 ht10
      go_wp2
      refine bodyPost_ret (v := .tuple #[.agg #[.slice f.p.A f.p.n f.p.c, .slice f.v.A f.v.n f.v.c, .slice f.k.A f.k.n f.k.c, .int .i64 f.nx], .int .i64 er]) (zj rfl _ _ w2.heap.size 32 #[.slice f.p.A f.p.n f.p.c, .slice f.v.A f.v.n f.v.c, .slice f.k.A f.k.n f.k.c, .int .i64 f.nx] (0, 0) _ (.int .i64 er) rfl rfl Hr10.out Tryz.underlying32 rfl zw) rfl ?_
      exact yV (f' := f) HW9.out (H0.out.below HW9.out) (by have := Hsz.out; omega) ⟨_, BX9.out.r⟩ Ht10.out rfl
     exact zb.nil
    refine zb.cons rfl (fun K hK => ?_) ?_
    ·(try simp only [iq4, iq5, iq6])
     obtain ⟨X9, hst9, hr9, ht9⟩ := zk G3.out rfl f2.p f2.v f2.k f2.nx
     have BX9 := ihq (BX3.out.turned ht9 (by have := Hsz.out; have := HG.out; omega) (by have := Hsz.out; have := HG.out; omega) (by have := Hsz.out; have := HG.out; omega))
     have OK9 := ihq (OK3.out.turnedSt ⟨_, G3.out⟩ ht9)
     have HW9 := ihq (HW3.out.trans (ht9.below (B := w.heap.size) (fun b e => by have := HG.out; have := Hbw.out.size; omega) HW3.out.size))
     have Hr9 := ihq hr9
     clear hr9 ht9
     go_simp
     refine hK.out _ _ (fun h => (by cases h)) ?_
     clear hHeld hK K hst9
     try simp only [Act.put, iq1, iq2, iq3, iq4, iq5, iq6]
     refine zf (rs := [6]) (by kernel_rfl) (by simp) ?_
     refine zb.cons rfl (fun K hK => ?_) ?_
     ·(try simp only [iq4, iq5, iq6])
      go_simp
      refine hK.out _ _ (fun h => (by cases h)) ?_
      clear hK K
      try simp only [Act.put, iq1, iq2, iq3, iq4, iq5, iq6]
      refine zf (rs := [9]) (by kernel_rfl) (by simp) ?_
      refine zb.cons rfl (fun K hK => ?_) zb.nil
      (try simp only [iq4, iq5, iq6])
      go_simp
      refine hK.out _ _ (fun h => (by cases h)) ?_
      clear hK K
      try simp only [Act.put, iq1, iq2, iq3, iq4, iq5, iq6]
      refine zu (by kernel_rfl) ?_ _
      obtain ⟨l1, l2⟩ := BX9.out.sees
      obtain ⟨X10, hst10, hr10, ht10⟩ := zk BX9.out.r rfl f.p f.v f.k f.nx
      have Hr10 := ihq hr10; have Ht10 := ihq ht10
      clear hr10 ht10
      go_wp2
      refine bodyPost_ret (v := .tuple #[.agg #[.slice f.p.A f.p.n f.p.c, .slice f.v.A f.v.n f.v.c, .slice f.k.A f.k.n f.k.c, .int .i64 f.nx], .int .i64 er]) (zj rfl _ _ w2.heap.size 32 #[.slice f.p.A f.p.n f.p.c, .slice f.v.A f.v.n f.v.c, .slice f.k.A f.k.n f.k.c, .int .i64 f.nx] (0, 0) _ (.int .i64 er) rfl rfl Hr10.out Tryz.underlying32 rfl zw) rfl ?_
      exact yV (f' := f) HW9.out (H0.out.below HW9.out) (by have := Hsz.out; omega) ⟨_, BX9.out.r⟩ Ht10.out rfl
     exact zb.nil
    exact zb.nil
   exact zb.nil
  refine zb.cons rfl (fun K hK => ?_) ?_
  ·(try simp only [iq4, iq5, iq6])
   obtain ⟨U2, hU2⟩ : ∃ W, World.alloc U1 (.cells #[.slice none 0 0, .slice none 0 0, .slice none 0 0, .int .i64 0] 32) = W := ⟨_, rfl⟩
   have hbn : Below (World.heap U1).size U1 U2 := by rw [<- hU2]; exact zg _ _
   have G2 := ihq (show U2.heap[(World.heap U1).size]? = some (.cells #[.slice none 0 0, .slice none 0 0, .slice none 0 0, .int .i64 0] 32 (0, 0)) from (by rw [<- hU2]; exact heap_alloc_new _ _))
   have BX2 := ihq (BX1.out.below hbn)
   have HG := ihq (show w3.heap.size <= (World.heap U1).size from HB1.out.size)
   have HB2 := ihq (HB1.out.trans (hbn.mono HB1.out.size))
   have OW2 := ihq (OW1.out.below hbn)
   go_simp
   try rw [hU2]
   clear hbn
   refine hK.out _ _ (fun _ => BX2.out.sees) ?_
   clear hHeld
   have hHeld := BX2.out.sees
   clear hK K
   try simp only [Act.put, iq1, iq2, iq3, iq4, iq5, iq6]
   refine zf (rs := [3]) (by kernel_rfl) (by simp) ?_
   refine zb.cons rfl (fun K hK => ?_) ?_
   ·(try simp only [iq4, iq5, iq6])
    go_simp
    refine (KD.out _ _ _ P Vs Kc HZ.out OW2.out).mono ?_
    rintro e U3 ⟨f2, rfl, hd, hok, ht⟩
    have HD := ihq hd
    have OK3 := ihq hok
    have BX3 := ihq (BX2.out.do_ OW2.out ht (by have := Hsz.out; have := HZ.out; omega) (by have := Hsz.out; have := HZ.out; omega) (by have := Hsz.out; have := HZ.out; omega))
    have HQ3 := ihq (Nat.le_trans HB2.out.size ht.size)
    have HW3 := ihq ((Hbw.out.trans (HB2.out.mono Hbw.out.size)).trans (ht.below (B := w.heap.size) (fun b e => by have := (RowB.lt OW2.out e).1; have := HZ.out; have := Hbw.out.size; omega) (by have := HB2.out.size; have := Hbw.out.size; omega)))
    have G3 := ihq (ht.heap G2.out (ZL OW2.out G2.out))
    clear hd hok ht
    try unfold Rf.val
    refine hK.out _ _ (fun _ => BX3.out.sees) ?_
    clear hHeld
    have hHeld := BX3.out.sees
    clear hK K
    try simp only [Act.put, iq1, iq2, iq3, iq4, iq5, iq6]
    refine zi (i := 4) (v := ?v5) rfl (by kernel_rfl) (fun _ _ _ h => h) (Or.inl ⟨by rfl, ?hy5⟩) hHeld ?rest5
    case hy5 => (intro w' hS; obtain ⟨t1, t2⟩ := hS; (try simp only [iq4, iq5, iq6]); go_simp; try with_reducible rfl)
    try simp only [Act.put, iq1, iq2, iq3, iq4, iq5, iq6]
    refine zi (i := 5) (v := ?v6) rfl (by kernel_rfl) (fun _ _ _ h => h) (Or.inl ⟨by rfl, ?hy6⟩) hHeld ?rest6
    case hy6 => (intro w' hS; obtain ⟨t1, t2⟩ := hS; (try simp only [iq4, iq5, iq6]); go_simp; try with_reducible rfl)
    try simp only [Act.put, iq1, iq2, iq3, iq4, iq5, iq6]
    refine zf (rs := [6, 8]) (by kernel_rfl) (by simp) ?_
    refine zb.cons rfl (fun K hK => ?_) ?_
    ·(try simp only [iq4, iq5, iq6])
     go_simp
     refine hK.out _ _ (fun _ => hHeld) ?_
     clear hK K
     try simp only [Act.put, iq1, iq2, iq3, iq4, iq5, iq6]
     refine zf (rs := [8]) (by kernel_rfl) (by simp) ?_
     refine zb.cons rfl (fun K hK => ?_) ?_
     ·(try simp only [iq4, iq5, iq6])
      obtain ⟨X9, hst9, hr9, ht9⟩ := zk G3.out rfl f2.p f2.v f2.k f2.nx
      have BX9 := ihq (BX3.out.turned ht9 (by have := Hsz.out; have := HG.out; omega) (by have := Hsz.out; have := HG.out; omega) (by have := Hsz.out; have := HG.out; omega))
      have OK9 := ihq (OK3.out.turnedSt ⟨_, G3.out⟩ ht9)
      have HW9 := ihq (HW3.out.trans (ht9.below (B := w.heap.size) (fun b e => by have := HG.out; have := Hbw.out.size; omega) HW3.out.size))
      have Hr9 := ihq hr9
      clear hr9 ht9
      go_simp
      refine hK.out _ _ (fun h => (by cases h)) ?_
      clear hHeld hK K hst9
      try simp only [Act.put, iq1, iq2, iq3, iq4, iq5, iq6]
      refine zf (rs := [9]) (by kernel_rfl) (by simp) ?_
      refine zb.cons rfl (fun K hK => ?_) zb.nil
      (try simp only [iq4, iq5, iq6])
      go_simp
      refine hK.out _ _ (fun h => (by cases h)) ?_
      clear hK K
      try simp only [Act.put, iq1, iq2, iq3, iq4, iq5, iq6]
      refine zu (by kernel_rfl) ?_ _
      obtain ⟨l1, l2⟩ := BX9.out.sees
      obtain ⟨X10, hst10, hr10, ht10⟩ := zk BX9.out.r rfl f.p f.v f.k f.nx
      have Hr10 := ihq hr10; have Ht10 := ihq ht10
      clear hr10 ht10
      go_wp2
      refine bodyPost_ret (v := .tuple #[.agg #[.slice f.p.A f.p.n f.p.c, .slice f.v.A f.v.n f.v.c, .slice f.k.A f.k.n f.k.c, .int .i64 f.nx], .int .i64 er]) (zj rfl _ _ w2.heap.size 32 #[.slice f.p.A f.p.n f.p.c, .slice f.v.A f.v.n f.v.c, .slice f.k.A f.k.n f.k.c, .int .i64 f.nx] (0, 0) _ (.int .i64 er) rfl rfl Hr10.out Tryz.underlying32 rfl zw) rfl ?_
      exact yV (f' := f) HW9.out (H0.out.below HW9.out) (by have := Hsz.out; omega) ⟨_, BX9.out.r⟩ Ht10.out rfl
     exact zb.nil
    refine zb.cons rfl (fun K hK => ?_) ?_
    ·(try simp only [iq4, iq5, iq6])
     obtain ⟨X9, hst9, hr9, ht9⟩ := zk G3.out rfl f2.p f2.v f2.k f2.nx
     have BX9 := ihq (BX3.out.turned ht9 (by have := Hsz.out; have := HG.out; omega) (by have := Hsz.out; have := HG.out; omega) (by have := Hsz.out; have := HG.out; omega))
     have OK9 := ihq (OK3.out.turnedSt ⟨_, G3.out⟩ ht9)
     have HW9 := ihq (HW3.out.trans (ht9.below (B := w.heap.size) (fun b e => by have := HG.out; have := Hbw.out.size; omega) HW3.out.size))
     have Hr9 := ihq hr9
     clear hr9 ht9
     go_simp
     refine hK.out _ _ (fun h => (by cases h)) ?_
     clear hHeld hK K hst9
     try simp only [Act.put, iq1, iq2, iq3, iq4, iq5, iq6]
     refine zf (rs := [6]) (by kernel_rfl) (by simp) ?_
     refine zb.cons rfl (fun K hK => ?_) ?_
     ·(try simp only [iq4, iq5, iq6])
      go_simp
      refine hK.out _ _ (fun h => (by cases h)) ?_
      clear hK K
      try simp only [Act.put, iq1, iq2, iq3, iq4, iq5, iq6]
      refine zf (rs := [9]) (by kernel_rfl) (by simp) ?_
      refine zb.cons rfl (fun K hK => ?_) zb.nil
      (try simp only [iq4, iq5, iq6])
      go_simp
      refine hK.out _ _ (fun h => (by cases h)) ?_
      clear hK K
      try simp only [Act.put, iq1, iq2, iq3, iq4, iq5, iq6]
      refine zu (by kernel_rfl) ?_ _
      obtain ⟨l1, l2⟩ := BX9.out.sees
      obtain ⟨X10, hst10, hr10, ht10⟩ := zk BX9.out.r rfl f.p f.v f.k f.nx
      have Hr10 := ihq hr10; have Ht10 := ihq ht10
      clear hr10 ht10
      go_wp2
      refine bodyPost_ret (v := .tuple #[.agg #[.slice f.p.A f.p.n f.p.c, .slice f.v.A f.v.n f.v.c, .slice f.k.A f.k.n f.k.c, .int .i64 f.nx], .int .i64 er]) (zj rfl _ _ w2.heap.size 32 #[.slice f.p.A f.p.n f.p.c, .slice f.v.A f.v.n f.v.c, .slice f.k.A f.k.n f.k.c, .int .i64 f.nx] (0, 0) _ (.int .i64 er) rfl rfl Hr10.out Tryz.underlying32 rfl zw) rfl ?_
      exact yV (f' := f) HW9.out (H0.out.below HW9.out) (by have := Hsz.out; omega) ⟨_, BX9.out.r⟩ Ht10.out rfl
     exact zb.nil
    exact zb.nil
   exact zb.nil
  exact zb.nil
 refine zb.cons rfl (fun K hK => ?_) ?_
 ·(try simp only [iq4, iq5, iq6])
  obtain ⟨U1, hU1⟩ : ∃ W, World.alloc w3.drew (.cells #[.slice none 0 0, .slice none 0 0, .slice none 0 0, .int .i64 0] 32) = W := ⟨_, rfl⟩
  have hbn : Below (World.heap w3.drew).size w3.drew U1 := by rw [<- hU1]; exact zg _ _
  have G1 := ihq (show U1.heap[w3.heap.size]? = some (.cells #[.slice none 0 0, .slice none 0 0, .slice none 0 0, .int .i64 0] 32 (0, 0)) from (by rw [<- hU1]; exact heap_alloc_new _ _))
  have BX1 := ihq (BX0.out.below hbn)
  have HG := ihq (show w3.heap.size <= w3.heap.size from HB0.out.size)
  have HB1 := ihq (HB0.out.trans (hbn.mono HB0.out.size))
  go_simp
  try rw [hU1]
  clear hbn
  refine hK.out _ _ (fun _ => BX1.out.sees) ?_
  clear hHeld
  have hHeld := BX1.out.sees
  clear hK K
  try simp only [Act.put, iq1, iq2, iq3, iq4, iq5, iq6]
  refine zf (rs := [1]) (by kernel_rfl) (by simp) ?_
  refine zb.cons rfl (fun K hK => ?_) ?_
  ·(try simp only [iq4, iq5, iq6])
   go_simp
   refine (KCl.out U1 HB1.out).mono ?_
   rintro e U2 ⟨P, Vs, Kc, rfl, own⟩
   have OW2 := ihq own
   have BX2 := ihq (BX1.out.below own.bel)
   have HB2 := ihq (HB1.out.trans (own.bel.mono HB1.out.size))
   have HZ := ihq (show w3.heap.size <= (World.heap U1).size from HB1.out.size)
   have G2 := ihq (za G1.out own.bel)
   clear own
   try unfold Rf.val
   refine hK.out _ _ (fun _ => BX2.out.sees) ?_
   clear hHeld
   have hHeld := BX2.out.sees
   clear hK K
   try simp only [Act.put, iq1, iq2, iq3, iq4, iq5, iq6]
   refine zf (rs := [3]) (by kernel_rfl) (by simp) ?_
   refine zb.cons rfl (fun K hK => ?_) ?_
   ·(try simp only [iq4, iq5, iq6])
    go_simp
    refine (KD.out _ _ _ P Vs Kc HZ.out OW2.out).mono ?_
    rintro e U3 ⟨f2, rfl, hd, hok, ht⟩
    have HD := ihq hd
    have OK3 := ihq hok
    have BX3 := ihq (BX2.out.do_ OW2.out ht (by have := Hsz.out; have := HZ.out; omega) (by have := Hsz.out; have := HZ.out; omega) (by have := Hsz.out; have := HZ.out; omega))
    have HQ3 := ihq (Nat.le_trans HB2.out.size ht.size)
    have HW3 := ihq ((Hbw.out.trans (HB2.out.mono Hbw.out.size)).trans (ht.below (B := w.heap.size) (fun b e => by have := (RowB.lt OW2.out e).1; have := HZ.out; have := Hbw.out.size; omega) (by have := HB2.out.size; have := Hbw.out.size; omega)))
    have G3 := ihq (ht.heap G2.out (ZL OW2.out G2.out))
    clear hd hok ht
    try unfold Rf.val
    refine hK.out _ _ (fun _ => BX3.out.sees) ?_
    clear hHeld
    have hHeld := BX3.out.sees
    clear hK K
    try simp only [Act.put, iq1, iq2, iq3, iq4, iq5, iq6]
    refine zi (i := 4) (v := ?v7) rfl (by kernel_rfl) (fun _ _ _ h => h) (Or.inl ⟨by rfl, ?hy7⟩) hHeld ?rest7
    case hy7 => (intro w' hS; obtain ⟨t1, t2⟩ := hS; (try simp only [iq4, iq5, iq6]); go_simp; try with_reducible rfl)
    try simp only [Act.put, iq1, iq2, iq3, iq4, iq5, iq6]
    refine zi (i := 5) (v := ?v8) rfl (by kernel_rfl) (fun _ _ _ h => h) (Or.inl ⟨by rfl, ?hy8⟩) hHeld ?rest8
    case hy8 => (intro w' hS; obtain ⟨t1, t2⟩ := hS; (try simp only [iq4, iq5, iq6]); go_simp; try with_reducible rfl)
    try simp only [Act.put, iq1, iq2, iq3, iq4, iq5, iq6]
    refine zf (rs := [6, 8]) (by kernel_rfl) (by simp) ?_
    refine zb.cons rfl (fun K hK => ?_) ?_
    ·(try simp only [iq4, iq5, iq6])
     go_simp
     refine hK.out _ _ (fun _ => hHeld) ?_
     clear hK K
     try simp only [Act.put, iq1, iq2, iq3, iq4, iq5, iq6]
     refine zf (rs := [8]) (by kernel_rfl) (by simp) ?_
     refine zb.cons rfl (fun K hK => ?_) ?_
     ·(try simp only [iq4, iq5, iq6])
      obtain ⟨X9, hst9, hr9, ht9⟩ := zk G3.out rfl f2.p f2.v f2.k f2.nx
      have BX9 := ihq (BX3.out.turned ht9 (by have := Hsz.out; have := HG.out; omega) (by have := Hsz.out; have := HG.out; omega) (by have := Hsz.out; have := HG.out; omega))
      have OK9 := ihq (OK3.out.turnedSt ⟨_, G3.out⟩ ht9)
      have HW9 := ihq (HW3.out.trans (ht9.below (B := w.heap.size) (fun b e => by have := HG.out; have := Hbw.out.size; omega) HW3.out.size))
      have Hr9 := ihq hr9
      clear hr9 ht9
      go_simp
      refine hK.out _ _ (fun h => (by cases h)) ?_
      clear hHeld hK K hst9
      try simp only [Act.put, iq1, iq2, iq3, iq4, iq5, iq6]
      refine zf (rs := [9]) (by kernel_rfl) (by simp) ?_
      refine zb.cons rfl (fun K hK => ?_) zb.nil
      (try simp only [iq4, iq5, iq6])
      go_simp
      refine hK.out _ _ (fun h => (by cases h)) ?_
      clear hK K
      try simp only [Act.put, iq1, iq2, iq3, iq4, iq5, iq6]
      refine zu (by kernel_rfl) ?_ _
      obtain ⟨l1, l2⟩ := BX9.out.sees
      obtain ⟨X10, hst10, hr10, ht10⟩ := zk BX9.out.r rfl f.p f.v f.k f.nx
      have Hr10 := ihq hr10; have Ht10 := ihq ht10
      clear hr10 ht10
      go_wp2
      refine bodyPost_ret (v := .tuple #[.agg #[.slice f.p.A f.p.n f.p.c, .slice f.v.A f.v.n f.v.c, .slice f.k.A f.k.n f.k.c, .int .i64 f.nx], .int .i64 er]) (zj rfl _ _ w2.heap.size 32 #[.slice f.p.A f.p.n f.p.c, .slice f.v.A f.v.n f.v.c, .slice f.k.A f.k.n f.k.c, .int .i64 f.nx] (0, 0) _ (.int .i64 er) rfl rfl Hr10.out Tryz.underlying32 rfl zw) rfl ?_
      exact yV (f' := f) HW9.out (H0.out.below HW9.out) (by have := Hsz.out; omega) ⟨_, BX9.out.r⟩ Ht10.out rfl
     exact zb.nil
    refine zb.cons rfl (fun K hK => ?_) ?_
    ·(try simp only [iq4, iq5, iq6])
     obtain ⟨X9, hst9, hr9, ht9⟩ := zk G3.out rfl f2.p f2.v f2.k f2.nx
     have BX9 := ihq (BX3.out.turned ht9 (by have := Hsz.out; have := HG.out; omega) (by have := Hsz.out; have := HG.out; omega) (by have := Hsz.out; have := HG.out; omega))
     have OK9 := ihq (OK3.out.turnedSt ⟨_, G3.out⟩ ht9)
     have HW9 := ihq (HW3.out.trans (ht9.below (B := w.heap.size) (fun b e => by have := HG.out; have := Hbw.out.size; omega) HW3.out.size))
     have Hr9 := ihq hr9
     clear hr9 ht9
     go_simp
     refine hK.out _ _ (fun h => (by cases h)) ?_
     clear hHeld hK K hst9
     try simp only [Act.put, iq1, iq2, iq3, iq4, iq5, iq6]
     refine zf (rs := [6]) (by kernel_rfl) (by simp) ?_
     refine zb.cons rfl (fun K hK => ?_) ?_
     ·(try simp only [iq4, iq5, iq6])
      go_simp
      refine hK.out _ _ (fun h => (by cases h)) ?_
      clear hK K
      try simp only [Act.put, iq1, iq2, iq3, iq4, iq5, iq6]
      refine zf (rs := [9]) (by kernel_rfl) (by simp) ?_
      refine zb.cons rfl (fun K hK => ?_) zb.nil
      (try simp only [iq4, iq5, iq6])
      go_simp
      refine hK.out _ _ (fun h => (by cases h)) ?_
      clear hK K
      try simp only [Act.put, iq1, iq2, iq3, iq4, iq5, iq6]
      refine zu (by kernel_rfl) ?_ _
      obtain ⟨l1, l2⟩ := BX9.out.sees
      obtain ⟨X10, hst10, hr10, ht10⟩ := zk BX9.out.r rfl f.p f.v f.k f.nx
      have Hr10 := ihq hr10; have Ht10 := ihq ht10
      clear hr10 ht10
      go_wp2
      refine bodyPost_ret (v := .tuple #[.agg #[.slice f.p.A f.p.n f.p.c, .slice f.v.A f.v.n f.v.c, .slice f.k.A f.k.n f.k.c, .int .i64 f.nx], .int .i64 er]) (zj rfl _ _ w2.heap.size 32 #[.slice f.p.A f.p.n f.p.c, .slice f.v.A f.v.n f.v.c, .slice f.k.A f.k.n f.k.c, .int .i64 f.nx] (0, 0) _ (.int .i64 er) rfl rfl Hr10.out Tryz.underlying32 rfl zw) rfl ?_
      exact yV (f' := f) HW9.out (H0.out.below HW9.out) (by have := Hsz.out; omega) ⟨_, BX9.out.r⟩ Ht10.out rfl
     exact zb.nil
    exact zb.nil
   exact zb.nil
  exact zb.nil
 exact zb.nil
set_option maxRecDepth 100000 in
set_option maxHeartbeats 4000000 in
theorem RApply_yes (f : Rf) (c : Cmd) (w : World) (h : RfOk w f) (hf : Yj f.dat) (hc : yj c) (h1k : 1 <= c.k) (h8k : c.k <= 8) (hE : (doR f.dat c).2 = 0) (hadm : admR (doR f.dat c).1 = true) :
  Calls Tryz.prog 9 #[f.val, cmdA c] w (YL (doR f.dat c).1 0 w) := by
 unfold Rf.val cmdA
 obtain ⟨w1, hw1, hb1, hr1⟩ := yb w f
 obtain ⟨w2, hw2, hb2, hr2⟩ := zN w1 c
 obtain ⟨w3, hw3⟩ : ∃ w3, w2.alloc (.cells #[.slice none 0 0, .slice none 0 0, .slice none 0 0, .int .i64 0] 32) = w3 := ⟨_, rfl⟩
 have hb3 : Below w2.heap.size w2 w3 := by rw [<- hw3]; exact zg _ _
 have hr3 : w3.heap[w2.heap.size]? = some (.cells #[.slice none 0 0, .slice none 0 0, .slice none 0 0, .int .i64 0] 32 (0, 0)) := by rw [<- hw3]; exact heap_alloc_new _ _
 have hb12 : Below w.heap.size w w2 := hb1.trans (hb2.mono hb1.size)
 have hbw : Below w.heap.size w w3 := hb12.trans (hb3.mono hb12.size)
 have h1 := za (za hr1 hb2) hb3
 have h2 := za hr2 hb3
 have Hr3 := ihq hr3; have Hbw := ihq hbw; have HW := ihq h
 have Hsz := ihq (show w.heap.size < w1.heap.size /\ w1.heap.size < w2.heap.size /\ w2.heap.size < w3.heap.size from ⟨(Array.getElem?_eq_some_iff.1 hr1).1, (Array.getElem?_eq_some_iff.1 hr2).1, (Array.getElem?_eq_some_iff.1 hr3).1⟩)
 have F := ihq (fun V (hv : Below w3.heap.size w3 V) => (zK.of (za h1 hv) (za h2 hv) : zK w w1 f c V))
 have H3 := ihq (h.below hbw)
 obtain ⟨s0, s1, s2, s3, sl, c0, c1, c2, c3⟩ := F.out w3 (Below.refl _ _)
 have KCl := ihq (fun V (hv : Below w3.heap.size w3 V) => (show Calls Tryz.prog 18 #[.agg #[.slice f.p.A f.p.n f.p.c, .slice f.v.A f.v.n f.v.c, .slice f.k.A f.k.n f.k.c, .int .i64 f.nx]] V (Ym f V) from Rclone f V (H3.out.below hv)))
 obtain ⟨er, her⟩ : ∃ e, (doR f.dat c).2 = e := ⟨_, rfl⟩
 have KD := ihq (fun B w0 V P Vs Kc (hB : w3.heap.size <= B) (ho : xh B w0 V { f with p := P, v := Vs, k := Kc }) => (show Calls Tryz.prog 17 #[.agg #[.slice P.A P.n P.c, .slice Vs.A Vs.n Vs.c, .slice Kc.A Kc.n Kc.c, .int .i64 f.nx], .agg #[.int .i64 c.k, .int .i64 c.a, .int .i64 c.b, .int .i64 c.c, .int .i64 c.p.re, .int .i64 c.p.we, .int .i64 c.p.li, .int .i64 c.p.bu]] V (yg { f with p := P, v := Vs, k := Kc } (doR f.dat c).1 er V) from by
  rw [<- her]; exact Rdo_any _ c B w0 V ho hf hc h1k h8k))
 have BX0 := ihq ((⟨h1, h2, hr3⟩ : Bx3 w.heap.size w1.heap.size w2.heap.size f c w3).below (Below.refl w3.heap.size w3).drew)
 have HB0 := ihq (Below.refl w3.heap.size w3).drew
 have H0 := ihq h
 have k1 : ¬ c.k < 1 := by omega
 have k2 : ¬ 8 < c.k := by omega
 have Hadm := ihq hadm
 rw [her] at hE
 subst hE
 clear hadm
 clear hf hc her h1k h8k
 clear h hb1 hb2 hb3 hb12 hbw hr1 hr2 hr3 h1 h2
 go_enter Tryz.func9, Tryz.ntmps9
 go_upto_region 3 with fail
 refine zU (S := fun V => (ldRf (.pointer (some ⟨w.heap.size, 0, none⟩))).run Tryz.prog V = .ok (.agg #[.slice f.p.A f.p.n f.p.c, .slice f.v.A f.v.n f.v.c, .slice f.k.A f.k.n f.k.c, .int .i64 f.nx]) V /\ (Ye (.pointer (some ⟨w1.heap.size, 0, none⟩))).run Tryz.prog V = .ok (.agg #[.int .i64 c.k, .int .i64 c.a, .int .i64 c.b, .int .i64 c.c, .int .i64 c.p.re, .int .i64 c.p.we, .int .i64 c.p.li, .int .i64 c.p.bu]) V) 8 (by kernel_rfl) ?_
 have hHeld := BX0.out.sees
 refine zi (i := 0) (v := ?v1) rfl (by kernel_rfl) (fun _ _ _ h => h) (Or.inl ⟨by rfl, ?hy1⟩) hHeld ?rest1
 case hy1 => (intro w' hS; obtain ⟨t1, t2⟩ := hS; (try simp only [iq4, iq5, iq6]); go_simp; try with_reducible rfl)
 try simp only [Act.put, iq1, iq2, iq3, iq4, iq5, iq6]
 refine zi (i := 2) (v := ?v2) rfl (by kernel_rfl) (fun _ _ _ h => h) (Or.inl ⟨by rfl, ?hy2⟩) hHeld ?rest2
 case hy2 => (intro w' hS; obtain ⟨t1, t2⟩ := hS; (try simp only [iq4, iq5, iq6]); go_simp; try with_reducible rfl)
 try simp only [Act.put, iq1, iq2, iq3, iq4, iq5, iq6]
 refine zf (rs := [1, 7]) (by kernel_rfl) (by simp) ?_
 refine zb.cons rfl (fun K hK => ?_) ?_
 ·(try simp only [iq4, iq5, iq6])
  go_simp
  refine (KCl.out w3.drew HB0.out).mono ?_
  rintro e U1 ⟨P, Vs, Kc, rfl, own⟩
  have OW1 := ihq own
  have BX1 := ihq (BX0.out.below own.bel)
  have HB1 := ihq (HB0.out.trans (own.bel.mono HB0.out.size))
  have HZ := ihq (show w3.heap.size <= (World.heap w3.drew).size from HB0.out.size)
  clear own
  try unfold Rf.val
  refine hK.out _ _ (fun _ => BX1.out.sees) ?_
  clear hHeld
  have hHeld := BX1.out.sees
  clear hK K
  try simp only [Act.put, iq1, iq2, iq3, iq4, iq5, iq6]
  refine zf (rs := [3, 7]) (by kernel_rfl) (by simp) ?_
  refine zb.cons rfl (fun K hK => ?_) ?_
  ·(try simp only [iq4, iq5, iq6])
   go_simp
   refine (KD.out _ _ _ P Vs Kc HZ.out OW1.out).mono ?_
   rintro e U2 ⟨f2, rfl, hd, hok, ht⟩
   have HD := ihq hd
   have OK2 := ihq hok
   have BX2 := ihq (BX1.out.do_ OW1.out ht (by have := Hsz.out; have := HZ.out; omega) (by have := Hsz.out; have := HZ.out; omega) (by have := Hsz.out; have := HZ.out; omega))
   have HQ2 := ihq (Nat.le_trans HB1.out.size ht.size)
   have HW2 := ihq ((Hbw.out.trans (HB1.out.mono Hbw.out.size)).trans (ht.below (B := w.heap.size) (fun b e => by have := (RowB.lt OW1.out e).1; have := HZ.out; have := Hbw.out.size; omega) (by have := HB1.out.size; have := Hbw.out.size; omega)))
   clear hd hok ht
   try unfold Rf.val
   refine hK.out _ _ (fun _ => BX2.out.sees) ?_
   clear hHeld
   have hHeld := BX2.out.sees
   clear hK K
   try simp only [Act.put, iq1, iq2, iq3, iq4, iq5, iq6]
   refine zi (i := 4) (v := ?v3) rfl (by kernel_rfl) (fun _ _ _ h => h) (Or.inl ⟨by rfl, ?hy3⟩) hHeld ?rest3
   case hy3 => (intro w' hS; obtain ⟨t1, t2⟩ := hS; (try simp only [iq4, iq5, iq6]); go_simp; try with_reducible rfl)
   try simp only [Act.put, iq1, iq2, iq3, iq4, iq5, iq6]
   refine zi (i := 5) (v := ?v4) rfl (by kernel_rfl) (fun _ _ _ h => h) (Or.inl ⟨by rfl, ?hy4⟩) hHeld ?rest4
   case hy4 => (intro w' hS; obtain ⟨t1, t2⟩ := hS; (try simp only [iq4, iq5, iq6]); go_simp; try with_reducible rfl)
   try simp only [Act.put, iq1, iq2, iq3, iq4, iq5, iq6]
   refine zf (rs := [6, 7]) (by kernel_rfl) (by simp) ?_
   refine zb.cons rfl (fun K hK => ?_) ?_
   ·(try simp only [iq4, iq5, iq6])
    go_simp
    refine hK.out _ _ (fun _ => hHeld) ?_
    clear hK K
    try simp only [Act.put, iq1, iq2, iq3, iq4, iq5, iq6]
    refine zf (rs := [7]) (by kernel_rfl) (by simp) ?_
    refine zb.cons rfl (fun K hK => ?_) ?_
    ·(try simp only [iq4, iq5, iq6])
     obtain ⟨U3, hU3⟩ : ∃ W, World.alloc U2 (.cells #[.slice none 0 0, .slice none 0 0, .slice none 0 0, .int .i64 0] 32) = W := ⟨_, rfl⟩
     have hbn : Below (World.heap U2).size U2 U3 := by rw [<- hU3]; exact zg _ _
     have G3 := ihq (show U3.heap[(World.heap U2).size]? = some (.cells #[.slice none 0 0, .slice none 0 0, .slice none 0 0, .int .i64 0] 32 (0, 0)) from (by rw [<- hU3]; exact heap_alloc_new _ _))
     have BX3 := ihq (BX2.out.below hbn)
     have HG := ihq (show w3.heap.size <= (World.heap U2).size from HQ2.out)
     have OK3 := ihq (OK2.out.below hbn)
     have HQ3 := ihq (Nat.le_trans HQ2.out hbn.size)
     have HW3 := ihq (HW2.out.trans (hbn.mono HW2.out.size))
     go_simp
     try rw [hU3]
     clear hbn
     refine hK.out _ _ (fun _ => BX3.out.sees) ?_
     clear hHeld
     have hHeld := BX3.out.sees
     clear hK K
     try simp only [Act.put, iq1, iq2, iq3, iq4, iq5, iq6]
     refine zf (rs := [8]) (by kernel_rfl) (by simp) ?_
     refine zb.cons rfl (fun K hK => ?_) ?_
     ·(try simp only [iq4, iq5, iq6])
      obtain ⟨X9, hst9, hr9, ht9⟩ := zk G3.out rfl f2.p f2.v f2.k f2.nx
      have BX9 := ihq (BX3.out.turned ht9 (by have := Hsz.out; have := HG.out; omega) (by have := Hsz.out; have := HG.out; omega) (by have := Hsz.out; have := HG.out; omega))
      have OK9 := ihq (OK3.out.turnedSt ⟨_, G3.out⟩ ht9)
      have HW9 := ihq (HW3.out.trans (ht9.below (B := w.heap.size) (fun b e => by have := HG.out; have := Hbw.out.size; omega) HW3.out.size))
      have Hr9 := ihq hr9
      clear hr9 ht9
      go_simp
      refine hK.out _ _ (fun h => (by cases h)) ?_
      clear hHeld hK K hst9
      try simp only [Act.put, iq1, iq2, iq3, iq4, iq5, iq6]
      refine zf (rs := [9]) (by kernel_rfl) (by simp) ?_
      refine zb.cons rfl (fun K hK => ?_) zb.nil
      (try simp only [iq4, iq5, iq6])
      go_simp
      refine hK.out _ _ (fun h => (by cases h)) ?_
      clear hK K
      try simp only [Act.put, iq1, iq2, iq3, iq4, iq5, iq6]
      refine zu (by kernel_rfl) ?_ _
      have l3 := zR (f := f2) Hr9.out
      have hdd := HD.out
      have KA := xw f2 X9 OK9.out
      rw [hdd, Hadm.out] at KA
      unfold Rf.val at KA
      clear hdd
      go_wp2_with (go_at_call 19; refine KA.mono ?_; rintro e X10 ⟨rfl, hb10⟩; have Hb10 := ihq hb10; have l4 := zR (f := f2) (za Hr9.out hb10); obtain ⟨X11, hst11, hr11, ht11⟩ := zk (BX9.out.below hb10).r rfl f2.p f2.v f2.k f2.nx; have Hr11 := ihq hr11; have Ht11 := ihq ht11; clear hr11 ht11 hb10)
      refine bodyPost_ret (v := .tuple #[.agg #[.slice f2.p.A f2.p.n f2.p.c, .slice f2.v.A f2.v.n f2.v.c, .slice f2.k.A f2.k.n f2.k.c, .int .i64 f2.nx], .int .i64 0]) (zj rfl _ _ w2.heap.size 32 #[.slice f2.p.A f2.p.n f2.p.c, .slice f2.v.A f2.v.n f2.v.c, .slice f2.k.A f2.k.n f2.k.c, .int .i64 f2.nx] (0, 0) _ (.int .i64 0) rfl rfl Hr11.out Tryz.underlying32 rfl zw) rfl ?_
      exact yV (f' := f2) (HW9.out.trans (Hb10.out.mono HW9.out.size)) (OK9.out.below Hb10.out) (by have := Hsz.out; omega) ⟨_, (BX9.out.below Hb10.out).r⟩ Ht11.out HD.out
     exact zb.nil
    exact zb.nil
   refine zb.cons rfl (fun K hK => ?_) ?_
   ·(try simp only [iq4, iq5, iq6])
    obtain ⟨U3, hU3⟩ : ∃ W, World.alloc U2 (.cells #[.slice none 0 0, .slice none 0 0, .slice none 0 0, .int .i64 0] 32) = W := ⟨_, rfl⟩
    have hbn : Below (World.heap U2).size U2 U3 := by rw [<- hU3]; exact zg _ _
    have G3 := ihq (show U3.heap[(World.heap U2).size]? = some (.cells #[.slice none 0 0, .slice none 0 0, .slice none 0 0, .int .i64 0] 32 (0, 0)) from (by rw [<- hU3]; exact heap_alloc_new _ _))
    have BX3 := ihq (BX2.out.below hbn)
    have HG := ihq (show w3.heap.size <= (World.heap U2).size from HQ2.out)
    have OK3 := ihq (OK2.out.below hbn)
    have HQ3 := ihq (Nat.le_trans HQ2.out hbn.size)
    have HW3 := ihq (HW2.out.trans (hbn.mono HW2.out.size))
    go_simp
    try rw [hU3]
    clear hbn
    refine hK.out _ _ (fun _ => BX3.out.sees) ?_
    clear hHeld
    have hHeld := BX3.out.sees
    clear hK K
    try simp only [Act.put, iq1, iq2, iq3, iq4, iq5, iq6]
    refine zf (rs := [6, 8]) (by kernel_rfl) (by simp) ?_
    refine zb.cons rfl (fun K hK => ?_) ?_
    ·(try simp only [iq4, iq5, iq6])
     go_simp
     refine hK.out _ _ (fun _ => hHeld) ?_
     clear hK K
     try simp only [Act.put, iq1, iq2, iq3, iq4, iq5, iq6]
     refine zf (rs := [8]) (by kernel_rfl) (by simp) ?_
     refine zb.cons rfl (fun K hK => ?_) ?_
     ·(try simp only [iq4, iq5, iq6])
      obtain ⟨X9, hst9, hr9, ht9⟩ := zk G3.out rfl f2.p f2.v f2.k f2.nx
      have BX9 := ihq (BX3.out.turned ht9 (by have := Hsz.out; have := HG.out; omega) (by have := Hsz.out; have := HG.out; omega) (by have := Hsz.out; have := HG.out; omega))
      have OK9 := ihq (OK3.out.turnedSt ⟨_, G3.out⟩ ht9)
      have HW9 := ihq (HW3.out.trans (ht9.below (B := w.heap.size) (fun b e => by have := HG.out; have := Hbw.out.size; omega) HW3.out.size))
      have Hr9 := ihq hr9
      clear hr9 ht9
      go_simp
      refine hK.out _ _ (fun h => (by cases h)) ?_
      clear hHeld hK K hst9
      try simp only [Act.put, iq1, iq2, iq3, iq4, iq5, iq6]
      refine zf (rs := [9]) (by kernel_rfl) (by simp) ?_
      refine zb.cons rfl (fun K hK => ?_) zb.nil
      (try simp only [iq4, iq5, iq6])
      go_simp
      refine hK.out _ _ (fun h => (by cases h)) ?_
      clear hK K
      try simp only [Act.put, iq1, iq2, iq3, iq4, iq5, iq6]
      refine zu (by kernel_rfl) ?_ _
      have l3 := zR (f := f2) Hr9.out
      have hdd := HD.out
      have KA := xw f2 X9 OK9.out
      rw [hdd, Hadm.out] at KA
      unfold Rf.val at KA
      clear hdd
      go_wp2_with (go_at_call 19; refine KA.mono ?_; rintro e X10 ⟨rfl, hb10⟩; have Hb10 := ihq hb10; have l4 := zR (f := f2) (za Hr9.out hb10); obtain ⟨X11, hst11, hr11, ht11⟩ := zk (BX9.out.below hb10).r rfl f2.p f2.v f2.k f2.nx; have Hr11 := ihq hr11; have Ht11 := ihq ht11; clear hr11 ht11 hb10)
      refine bodyPost_ret (v := .tuple #[.agg #[.slice f2.p.A f2.p.n f2.p.c, .slice f2.v.A f2.v.n f2.v.c, .slice f2.k.A f2.k.n f2.k.c, .int .i64 f2.nx], .int .i64 0]) (zj rfl _ _ w2.heap.size 32 #[.slice f2.p.A f2.p.n f2.p.c, .slice f2.v.A f2.v.n f2.v.c, .slice f2.k.A f2.k.n f2.k.c, .int .i64 f2.nx] (0, 0) _ (.int .i64 0) rfl rfl Hr11.out Tryz.underlying32 rfl zw) rfl ?_
      exact yV (f' := f2) (HW9.out.trans (Hb10.out.mono HW9.out.size)) (OK9.out.below Hb10.out) (by have := Hsz.out; omega) ⟨_, (BX9.out.below Hb10.out).r⟩ Ht11.out HD.out
     exact zb.nil
    refine zb.cons rfl (fun K hK => ?_) ?_
    ·(try simp only [iq4, iq5, iq6])
     obtain ⟨X9, hst9, hr9, ht9⟩ := zk G3.out rfl f2.p f2.v f2.k f2.nx
     have BX9 := ihq (BX3.out.turned ht9 (by have := Hsz.out; have := HG.out; omega) (by have := Hsz.out; have := HG.out; omega) (by have := Hsz.out; have := HG.out; omega))
     have OK9 := ihq (OK3.out.turnedSt ⟨_, G3.out⟩ ht9)
     have HW9 := ihq (HW3.out.trans (ht9.below (B := w.heap.size) (fun b e => by have := HG.out; have := Hbw.out.size; omega) HW3.out.size))
     have Hr9 := ihq hr9
     clear hr9 ht9
     go_simp
     refine hK.out _ _ (fun h => (by cases h)) ?_
     clear hHeld hK K hst9
     try simp only [Act.put, iq1, iq2, iq3, iq4, iq5, iq6]
     refine zf (rs := [6]) (by kernel_rfl) (by simp) ?_
     refine zb.cons rfl (fun K hK => ?_) ?_
     ·(try simp only [iq4, iq5, iq6])
      go_simp
      refine hK.out _ _ (fun h => (by cases h)) ?_
      clear hK K
      try simp only [Act.put, iq1, iq2, iq3, iq4, iq5, iq6]
      refine zf (rs := [9]) (by kernel_rfl) (by simp) ?_
      refine zb.cons rfl (fun K hK => ?_) zb.nil
      (try simp only [iq4, iq5, iq6])
      go_simp
      refine hK.out _ _ (fun h => (by cases h)) ?_
      clear hK K
      try simp only [Act.put, iq1, iq2, iq3, iq4, iq5, iq6]
      refine zu (by kernel_rfl) ?_ _
      have l3 := zR (f := f2) Hr9.out
      have hdd := HD.out
      have KA := xw f2 X9 OK9.out
      rw [hdd, Hadm.out] at KA
      unfold Rf.val at KA
      clear hdd
      go_wp2_with (go_at_call 19; refine KA.mono ?_; rintro e X10 ⟨rfl, hb10⟩; have Hb10 := ihq hb10; have l4 := zR (f := f2) (za Hr9.out hb10); obtain ⟨X11, hst11, hr11, ht11⟩ := zk (BX9.out.below hb10).r rfl f2.p f2.v f2.k f2.nx; have Hr11 := ihq hr11; have Ht11 := ihq ht11; clear hr11 ht11 hb10)
      refine bodyPost_ret (v := .tuple #[.agg #[.slice f2.p.A f2.p.n f2.p.c, .slice f2.v.A f2.v.n f2.v.c, .slice f2.k.A f2.k.n f2.k.c, .int .i64 f2.nx], .int .i64 0]) (zj rfl _ _ w2.heap.size 32 #[.slice f2.p.A f2.p.n f2.p.c, .slice f2.v.A f2.v.n f2.v.c, .slice f2.k.A f2.k.n f2.k.c, .int .i64 f2.nx] (0, 0) _ (.int .i64 0) rfl rfl Hr11.out Tryz.underlying32 rfl zw) rfl ?_
      exact yV (f' := f2) (HW9.out.trans (Hb10.out.mono HW9.out.size)) (OK9.out.below Hb10.out) (by have := Hsz.out; omega) ⟨_, (BX9.out.below Hb10.out).r⟩ Ht11.out HD.out
     exact zb.nil
    exact zb.nil
   exact zb.nil
  refine zb.cons rfl (fun K hK => ?_) ?_
  ·(try simp only [iq4, iq5, iq6])
   obtain ⟨U2, hU2⟩ : ∃ W, World.alloc U1 (.cells #[.slice none 0 0, .slice none 0 0, .slice none 0 0, .int .i64 0] 32) = W := ⟨_, rfl⟩
   have hbn : Below (World.heap U1).size U1 U2 := by rw [<- hU2]; exact zg _ _
   have G2 := ihq (show U2.heap[(World.heap U1).size]? = some (.cells #[.slice none 0 0, .slice none 0 0, .slice none 0 0, .int .i64 0] 32 (0, 0)) from (by rw [<- hU2]; exact heap_alloc_new _ _))
   have BX2 := ihq (BX1.out.below hbn)
   have HG := ihq (show w3.heap.size <= (World.heap U1).size from HB1.out.size)
   have HB2 := ihq (HB1.out.trans (hbn.mono HB1.out.size))
   have OW2 := ihq (OW1.out.below hbn)
   go_simp
   try rw [hU2]
   clear hbn
   refine hK.out _ _ (fun _ => BX2.out.sees) ?_
   clear hHeld
   have hHeld := BX2.out.sees
   clear hK K
   try simp only [Act.put, iq1, iq2, iq3, iq4, iq5, iq6]
   refine zf (rs := [3]) (by kernel_rfl) (by simp) ?_
   refine zb.cons rfl (fun K hK => ?_) ?_
   ·(try simp only [iq4, iq5, iq6])
    go_simp
    refine (KD.out _ _ _ P Vs Kc HZ.out OW2.out).mono ?_
    rintro e U3 ⟨f2, rfl, hd, hok, ht⟩
    have HD := ihq hd
    have OK3 := ihq hok
    have BX3 := ihq (BX2.out.do_ OW2.out ht (by have := Hsz.out; have := HZ.out; omega) (by have := Hsz.out; have := HZ.out; omega) (by have := Hsz.out; have := HZ.out; omega))
    have HQ3 := ihq (Nat.le_trans HB2.out.size ht.size)
    have HW3 := ihq ((Hbw.out.trans (HB2.out.mono Hbw.out.size)).trans (ht.below (B := w.heap.size) (fun b e => by have := (RowB.lt OW2.out e).1; have := HZ.out; have := Hbw.out.size; omega) (by have := HB2.out.size; have := Hbw.out.size; omega)))
    have G3 := ihq (ht.heap G2.out (ZL OW2.out G2.out))
    clear hd hok ht
    try unfold Rf.val
    refine hK.out _ _ (fun _ => BX3.out.sees) ?_
    clear hHeld
    have hHeld := BX3.out.sees
    clear hK K
    try simp only [Act.put, iq1, iq2, iq3, iq4, iq5, iq6]
    refine zi (i := 4) (v := ?v5) rfl (by kernel_rfl) (fun _ _ _ h => h) (Or.inl ⟨by rfl, ?hy5⟩) hHeld ?rest5
    case hy5 => (intro w' hS; obtain ⟨t1, t2⟩ := hS; (try simp only [iq4, iq5, iq6]); go_simp; try with_reducible rfl)
    try simp only [Act.put, iq1, iq2, iq3, iq4, iq5, iq6]
    refine zi (i := 5) (v := ?v6) rfl (by kernel_rfl) (fun _ _ _ h => h) (Or.inl ⟨by rfl, ?hy6⟩) hHeld ?rest6
    case hy6 => (intro w' hS; obtain ⟨t1, t2⟩ := hS; (try simp only [iq4, iq5, iq6]); go_simp; try with_reducible rfl)
    try simp only [Act.put, iq1, iq2, iq3, iq4, iq5, iq6]
    refine zf (rs := [6, 8]) (by kernel_rfl) (by simp) ?_
    refine zb.cons rfl (fun K hK => ?_) ?_
    ·(try simp only [iq4, iq5, iq6])
     go_simp
     refine hK.out _ _ (fun _ => hHeld) ?_
     clear hK K
     try simp only [Act.put, iq1, iq2, iq3, iq4, iq5, iq6]
     refine zf (rs := [8]) (by kernel_rfl) (by simp) ?_
     refine zb.cons rfl (fun K hK => ?_) ?_
     ·(try simp only [iq4, iq5, iq6])
      obtain ⟨X9, hst9, hr9, ht9⟩ := zk G3.out rfl f2.p f2.v f2.k f2.nx
      have BX9 := ihq (BX3.out.turned ht9 (by have := Hsz.out; have := HG.out; omega) (by have := Hsz.out; have := HG.out; omega) (by have := Hsz.out; have := HG.out; omega))
      have OK9 := ihq (OK3.out.turnedSt ⟨_, G3.out⟩ ht9)
      have HW9 := ihq (HW3.out.trans (ht9.below (B := w.heap.size) (fun b e => by have := HG.out; have := Hbw.out.size; omega) HW3.out.size))
      have Hr9 := ihq hr9
      clear hr9 ht9
      go_simp
      refine hK.out _ _ (fun h => (by cases h)) ?_
      clear hHeld hK K hst9
      try simp only [Act.put, iq1, iq2, iq3, iq4, iq5, iq6]
      refine zf (rs := [9]) (by kernel_rfl) (by simp) ?_
      refine zb.cons rfl (fun K hK => ?_) zb.nil
      (try simp only [iq4, iq5, iq6])
      go_simp
      refine hK.out _ _ (fun h => (by cases h)) ?_
      clear hK K
      try simp only [Act.put, iq1, iq2, iq3, iq4, iq5, iq6]
      refine zu (by kernel_rfl) ?_ _
      have l3 := zR (f := f2) Hr9.out
      have hdd := HD.out
      have KA := xw f2 X9 OK9.out
      rw [hdd, Hadm.out] at KA
      unfold Rf.val at KA
      clear hdd
      go_wp2_with (go_at_call 19; refine KA.mono ?_; rintro e X10 ⟨rfl, hb10⟩; have Hb10 := ihq hb10; have l4 := zR (f := f2) (za Hr9.out hb10); obtain ⟨X11, hst11, hr11, ht11⟩ := zk (BX9.out.below hb10).r rfl f2.p f2.v f2.k f2.nx; have Hr11 := ihq hr11; have Ht11 := ihq ht11; clear hr11 ht11 hb10)
      refine bodyPost_ret (v := .tuple #[.agg #[.slice f2.p.A f2.p.n f2.p.c, .slice f2.v.A f2.v.n f2.v.c, .slice f2.k.A f2.k.n f2.k.c, .int .i64 f2.nx], .int .i64 0]) (zj rfl _ _ w2.heap.size 32 #[.slice f2.p.A f2.p.n f2.p.c, .slice f2.v.A f2.v.n f2.v.c, .slice f2.k.A f2.k.n f2.k.c, .int .i64 f2.nx] (0, 0) _ (.int .i64 0) rfl rfl Hr11.out Tryz.underlying32 rfl zw) rfl ?_
      exact yV (f' := f2) (HW9.out.trans (Hb10.out.mono HW9.out.size)) (OK9.out.below Hb10.out) (by have := Hsz.out; omega) ⟨_, (BX9.out.below Hb10.out).r⟩ Ht11.out HD.out
     exact zb.nil
    refine zb.cons rfl (fun K hK => ?_) ?_
    ·(try simp only [iq4, iq5, iq6])
     obtain ⟨X9, hst9, hr9, ht9⟩ := zk G3.out rfl f2.p f2.v f2.k f2.nx
     have BX9 := ihq (BX3.out.turned ht9 (by have := Hsz.out; have := HG.out; omega) (by have := Hsz.out; have := HG.out; omega) (by have := Hsz.out; have := HG.out; omega))
     have OK9 := ihq (OK3.out.turnedSt ⟨_, G3.out⟩ ht9)
     have HW9 := ihq (HW3.out.trans (ht9.below (B := w.heap.size) (fun b e => by have := HG.out; have := Hbw.out.size; omega) HW3.out.size))
     have Hr9 := ihq hr9
     clear hr9 ht9
     go_simp
     refine hK.out _ _ (fun h => (by cases h)) ?_
     clear hHeld hK K hst9
     try simp only [Act.put, iq1, iq2, iq3, iq4, iq5, iq6]
     refine zf (rs := [6]) (by kernel_rfl) (by simp) ?_
     refine zb.cons rfl (fun K hK => ?_) ?_
     ·(try simp only [iq4, iq5, iq6])
      go_simp
      refine hK.out _ _ (fun h => (by cases h)) ?_
      clear hK K
      try simp only [Act.put, iq1, iq2, iq3, iq4, iq5, iq6]
      refine zf (rs := [9]) (by kernel_rfl) (by simp) ?_
      refine zb.cons rfl (fun K hK => ?_) zb.nil
      (try simp only [iq4, iq5, iq6])
      go_simp
      refine hK.out _ _ (fun h => (by cases h)) ?_
      clear hK K
      try simp only [Act.put, iq1, iq2, iq3, iq4, iq5, iq6]
      refine zu (by kernel_rfl) ?_ _
      have l3 := zR (f := f2) Hr9.out
      have hdd := HD.out
      have KA := xw f2 X9 OK9.out
      rw [hdd, Hadm.out] at KA
      unfold Rf.val at KA
      clear hdd
      go_wp2_with (go_at_call 19; refine KA.mono ?_; rintro e X10 ⟨rfl, hb10⟩; have Hb10 := ihq hb10; have l4 := zR (f := f2) (za Hr9.out hb10); obtain ⟨X11, hst11, hr11, ht11⟩ := zk (BX9.out.below hb10).r rfl f2.p f2.v f2.k f2.nx; have Hr11 := ihq hr11; have Ht11 := ihq ht11; clear hr11 ht11 hb10)
      refine bodyPost_ret (v := .tuple #[.agg #[.slice f2.p.A f2.p.n f2.p.c, .slice f2.v.A f2.v.n f2.v.c, .slice f2.k.A f2.k.n f2.k.c, .int .i64 f2.nx], .int .i64 0]) (zj rfl _ _ w2.heap.size 32 #[.slice f2.p.A f2.p.n f2.p.c, .slice f2.v.A f2.v.n f2.v.c, .slice f2.k.A f2.k.n f2.k.c, .int .i64 f2.nx] (0, 0) _ (.int .i64 0) rfl rfl Hr11.out Tryz.underlying32 rfl zw) rfl ?_
      exact yV (f' := f2) (HW9.out.trans (Hb10.out.mono HW9.out.size)) (OK9.out.below Hb10.out) (by have := Hsz.out; omega) ⟨_, (BX9.out.below Hb10.out).r⟩ Ht11.out HD.out
     exact zb.nil
    exact zb.nil
   exact zb.nil
  exact zb.nil
 refine zb.cons rfl (fun K hK => ?_) ?_
 ·(try simp only [iq4, iq5, iq6])
  obtain ⟨U1, hU1⟩ : ∃ W, World.alloc w3.drew (.cells #[.slice none 0 0, .slice none 0 0, .slice none 0 0, .int .i64 0] 32) = W := ⟨_, rfl⟩
  have hbn : Below (World.heap w3.drew).size w3.drew U1 := by rw [<- hU1]; exact zg _ _
  have G1 := ihq (show U1.heap[w3.heap.size]? = some (.cells #[.slice none 0 0, .slice none 0 0, .slice none 0 0, .int .i64 0] 32 (0, 0)) from (by rw [<- hU1]; exact heap_alloc_new _ _))
  have BX1 := ihq (BX0.out.below hbn)
  have HG := ihq (show w3.heap.size <= w3.heap.size from HB0.out.size)
  have HB1 := ihq (HB0.out.trans (hbn.mono HB0.out.size))
  go_simp
  try rw [hU1]
  clear hbn
  refine hK.out _ _ (fun _ => BX1.out.sees) ?_
  clear hHeld
  have hHeld := BX1.out.sees
  clear hK K
  try simp only [Act.put, iq1, iq2, iq3, iq4, iq5, iq6]
  refine zf (rs := [1]) (by kernel_rfl) (by simp) ?_
  refine zb.cons rfl (fun K hK => ?_) ?_
  ·(try simp only [iq4, iq5, iq6])
   go_simp
   refine (KCl.out U1 HB1.out).mono ?_
   rintro e U2 ⟨P, Vs, Kc, rfl, own⟩
   have OW2 := ihq own
   have BX2 := ihq (BX1.out.below own.bel)
   have HB2 := ihq (HB1.out.trans (own.bel.mono HB1.out.size))
   have HZ := ihq (show w3.heap.size <= (World.heap U1).size from HB1.out.size)
   have G2 := ihq (za G1.out own.bel)
   clear own
   try unfold Rf.val
   refine hK.out _ _ (fun _ => BX2.out.sees) ?_
   clear hHeld
   have hHeld := BX2.out.sees
   clear hK K
   try simp only [Act.put, iq1, iq2, iq3, iq4, iq5, iq6]
   refine zf (rs := [3]) (by kernel_rfl) (by simp) ?_
   refine zb.cons rfl (fun K hK => ?_) ?_
   ·(try simp only [iq4, iq5, iq6])
    go_simp
    refine (KD.out _ _ _ P Vs Kc HZ.out OW2.out).mono ?_
    rintro e U3 ⟨f2, rfl, hd, hok, ht⟩
    have HD := ihq hd
    have OK3 := ihq hok
    have BX3 := ihq (BX2.out.do_ OW2.out ht (by have := Hsz.out; have := HZ.out; omega) (by have := Hsz.out; have := HZ.out; omega) (by have := Hsz.out; have := HZ.out; omega))
    have HQ3 := ihq (Nat.le_trans HB2.out.size ht.size)
    have HW3 := ihq ((Hbw.out.trans (HB2.out.mono Hbw.out.size)).trans (ht.below (B := w.heap.size) (fun b e => by have := (RowB.lt OW2.out e).1; have := HZ.out; have := Hbw.out.size; omega) (by have := HB2.out.size; have := Hbw.out.size; omega)))
    have G3 := ihq (ht.heap G2.out (ZL OW2.out G2.out))
    clear hd hok ht
    try unfold Rf.val
    refine hK.out _ _ (fun _ => BX3.out.sees) ?_
    clear hHeld
    have hHeld := BX3.out.sees
    clear hK K
    try simp only [Act.put, iq1, iq2, iq3, iq4, iq5, iq6]
    refine zi (i := 4) (v := ?v7) rfl (by kernel_rfl) (fun _ _ _ h => h) (Or.inl ⟨by rfl, ?hy7⟩) hHeld ?rest7
    case hy7 => (intro w' hS; obtain ⟨t1, t2⟩ := hS; (try simp only [iq4, iq5, iq6]); go_simp; try with_reducible rfl)
    try simp only [Act.put, iq1, iq2, iq3, iq4, iq5, iq6]
    refine zi (i := 5) (v := ?v8) rfl (by kernel_rfl) (fun _ _ _ h => h) (Or.inl ⟨by rfl, ?hy8⟩) hHeld ?rest8
    case hy8 => (intro w' hS; obtain ⟨t1, t2⟩ := hS; (try simp only [iq4, iq5, iq6]); go_simp; try with_reducible rfl)
    try simp only [Act.put, iq1, iq2, iq3, iq4, iq5, iq6]
    refine zf (rs := [6, 8]) (by kernel_rfl) (by simp) ?_
    refine zb.cons rfl (fun K hK => ?_) ?_
    ·(try simp only [iq4, iq5, iq6])
     go_simp
     refine hK.out _ _ (fun _ => hHeld) ?_
     clear hK K
     try simp only [Act.put, iq1, iq2, iq3, iq4, iq5, iq6]
     refine zf (rs := [8]) (by kernel_rfl) (by simp) ?_
     refine zb.cons rfl (fun K hK => ?_) ?_
     ·(try simp only [iq4, iq5, iq6])
      obtain ⟨X9, hst9, hr9, ht9⟩ := zk G3.out rfl f2.p f2.v f2.k f2.nx
      have BX9 := ihq (BX3.out.turned ht9 (by have := Hsz.out; have := HG.out; omega) (by have := Hsz.out; have := HG.out; omega) (by have := Hsz.out; have := HG.out; omega))
      have OK9 := ihq (OK3.out.turnedSt ⟨_, G3.out⟩ ht9)
      have HW9 := ihq (HW3.out.trans (ht9.below (B := w.heap.size) (fun b e => by have := HG.out; have := Hbw.out.size; omega) HW3.out.size))
      have Hr9 := ihq hr9
      clear hr9 ht9
      go_simp
      refine hK.out _ _ (fun h => (by cases h)) ?_
      clear hHeld hK K hst9
      try simp only [Act.put, iq1, iq2, iq3, iq4, iq5, iq6]
      refine zf (rs := [9]) (by kernel_rfl) (by simp) ?_
      refine zb.cons rfl (fun K hK => ?_) zb.nil
      (try simp only [iq4, iq5, iq6])
      go_simp
      refine hK.out _ _ (fun h => (by cases h)) ?_
      clear hK K
      try simp only [Act.put, iq1, iq2, iq3, iq4, iq5, iq6]
      refine zu (by kernel_rfl) ?_ _
      have l3 := zR (f := f2) Hr9.out
      have hdd := HD.out
      have KA := xw f2 X9 OK9.out
      rw [hdd, Hadm.out] at KA
      unfold Rf.val at KA
      clear hdd
      go_wp2_with (go_at_call 19; refine KA.mono ?_; rintro e X10 ⟨rfl, hb10⟩; have Hb10 := ihq hb10; have l4 := zR (f := f2) (za Hr9.out hb10); obtain ⟨X11, hst11, hr11, ht11⟩ := zk (BX9.out.below hb10).r rfl f2.p f2.v f2.k f2.nx; have Hr11 := ihq hr11; have Ht11 := ihq ht11; clear hr11 ht11 hb10)
      refine bodyPost_ret (v := .tuple #[.agg #[.slice f2.p.A f2.p.n f2.p.c, .slice f2.v.A f2.v.n f2.v.c, .slice f2.k.A f2.k.n f2.k.c, .int .i64 f2.nx], .int .i64 0]) (zj rfl _ _ w2.heap.size 32 #[.slice f2.p.A f2.p.n f2.p.c, .slice f2.v.A f2.v.n f2.v.c, .slice f2.k.A f2.k.n f2.k.c, .int .i64 f2.nx] (0, 0) _ (.int .i64 0) rfl rfl Hr11.out Tryz.underlying32 rfl zw) rfl ?_
      exact yV (f' := f2) (HW9.out.trans (Hb10.out.mono HW9.out.size)) (OK9.out.below Hb10.out) (by have := Hsz.out; omega) ⟨_, (BX9.out.below Hb10.out).r⟩ Ht11.out HD.out
     exact zb.nil
    refine zb.cons rfl (fun K hK => ?_) ?_
    ·(try simp only [iq4, iq5, iq6])
     obtain ⟨X9, hst9, hr9, ht9⟩ := zk G3.out rfl f2.p f2.v f2.k f2.nx
     have BX9 := ihq (BX3.out.turned ht9 (by have := Hsz.out; have := HG.out; omega) (by have := Hsz.out; have := HG.out; omega) (by have := Hsz.out; have := HG.out; omega))
     have OK9 := ihq (OK3.out.turnedSt ⟨_, G3.out⟩ ht9)
     have HW9 := ihq (HW3.out.trans (ht9.below (B := w.heap.size) (fun b e => by have := HG.out; have := Hbw.out.size; omega) HW3.out.size))
     have Hr9 := ihq hr9
     clear hr9 ht9
     go_simp
     refine hK.out _ _ (fun h => (by cases h)) ?_
     clear hHeld hK K hst9
     try simp only [Act.put, iq1, iq2, iq3, iq4, iq5, iq6]
     refine zf (rs := [6]) (by kernel_rfl) (by simp) ?_
     refine zb.cons rfl (fun K hK => ?_) ?_
     ·(try simp only [iq4, iq5, iq6])
      go_simp
      refine hK.out _ _ (fun h => (by cases h)) ?_
      clear hK K
      try simp only [Act.put, iq1, iq2, iq3, iq4, iq5, iq6]
      refine zf (rs := [9]) (by kernel_rfl) (by simp) ?_
      refine zb.cons rfl (fun K hK => ?_) zb.nil
      (try simp only [iq4, iq5, iq6])
      go_simp
      refine hK.out _ _ (fun h => (by cases h)) ?_
      clear hK K
      try simp only [Act.put, iq1, iq2, iq3, iq4, iq5, iq6]
      refine zu (by kernel_rfl) ?_ _
      have l3 := zR (f := f2) Hr9.out
      have hdd := HD.out
      have KA := xw f2 X9 OK9.out
      rw [hdd, Hadm.out] at KA
      unfold Rf.val at KA
      clear hdd
      go_wp2_with (go_at_call 19; refine KA.mono ?_; rintro e X10 ⟨rfl, hb10⟩; have Hb10 := ihq hb10; have l4 := zR (f := f2) (za Hr9.out hb10); obtain ⟨X11, hst11, hr11, ht11⟩ := zk (BX9.out.below hb10).r rfl f2.p f2.v f2.k f2.nx; have Hr11 := ihq hr11; have Ht11 := ihq ht11; clear hr11 ht11 hb10)
      refine bodyPost_ret (v := .tuple #[.agg #[.slice f2.p.A f2.p.n f2.p.c, .slice f2.v.A f2.v.n f2.v.c, .slice f2.k.A f2.k.n f2.k.c, .int .i64 f2.nx], .int .i64 0]) (zj rfl _ _ w2.heap.size 32 #[.slice f2.p.A f2.p.n f2.p.c, .slice f2.v.A f2.v.n f2.v.c, .slice f2.k.A f2.k.n f2.k.c, .int .i64 f2.nx] (0, 0) _ (.int .i64 0) rfl rfl Hr11.out Tryz.underlying32 rfl zw) rfl ?_
      exact yV (f' := f2) (HW9.out.trans (Hb10.out.mono HW9.out.size)) (OK9.out.below Hb10.out) (by have := Hsz.out; omega) ⟨_, (BX9.out.below Hb10.out).r⟩ Ht11.out HD.out
     exact zb.nil
    exact zb.nil
   exact zb.nil
  exact zb.nil
 exact zb.nil
set_option maxRecDepth 100000 in
set_option maxHeartbeats 4000000 in
theorem RApply_rate (f : Rf) (c : Cmd) (w : World) (h : RfOk w f) (hf : Yj f.dat) (hc : yj c) (h1k : 1 <= c.k) (h8k : c.k <= 8) (hE : (doR f.dat c).2 = 0) (hadm : admR (doR f.dat c).1 = false) :
  Calls Tryz.prog 9 #[f.val, cmdA c] w (YL f.dat 14 w) := by
 unfold Rf.val cmdA
 obtain ⟨w1, hw1, hb1, hr1⟩ := yb w f
 obtain ⟨w2, hw2, hb2, hr2⟩ := zN w1 c
 obtain ⟨w3, hw3⟩ : ∃ w3, w2.alloc (.cells #[.slice none 0 0, .slice none 0 0, .slice none 0 0, .int .i64 0] 32) = w3 := ⟨_, rfl⟩
 have hb3 : Below w2.heap.size w2 w3 := by rw [<- hw3]; exact zg _ _
 have hr3 : w3.heap[w2.heap.size]? = some (.cells #[.slice none 0 0, .slice none 0 0, .slice none 0 0, .int .i64 0] 32 (0, 0)) := by rw [<- hw3]; exact heap_alloc_new _ _
 have hb12 : Below w.heap.size w w2 := hb1.trans (hb2.mono hb1.size)
 have hbw : Below w.heap.size w w3 := hb12.trans (hb3.mono hb12.size)
 have h1 := za (za hr1 hb2) hb3
 have h2 := za hr2 hb3
 have Hr3 := ihq hr3; have Hbw := ihq hbw; have HW := ihq h
 have Hsz := ihq (show w.heap.size < w1.heap.size /\ w1.heap.size < w2.heap.size /\ w2.heap.size < w3.heap.size from ⟨(Array.getElem?_eq_some_iff.1 hr1).1, (Array.getElem?_eq_some_iff.1 hr2).1, (Array.getElem?_eq_some_iff.1 hr3).1⟩)
 have F := ihq (fun V (hv : Below w3.heap.size w3 V) => (zK.of (za h1 hv) (za h2 hv) : zK w w1 f c V))
 have H3 := ihq (h.below hbw)
 obtain ⟨s0, s1, s2, s3, sl, c0, c1, c2, c3⟩ := F.out w3 (Below.refl _ _)
 have KCl := ihq (fun V (hv : Below w3.heap.size w3 V) => (show Calls Tryz.prog 18 #[.agg #[.slice f.p.A f.p.n f.p.c, .slice f.v.A f.v.n f.v.c, .slice f.k.A f.k.n f.k.c, .int .i64 f.nx]] V (Ym f V) from Rclone f V (H3.out.below hv)))
 obtain ⟨er, her⟩ : ∃ e, (doR f.dat c).2 = e := ⟨_, rfl⟩
 have KD := ihq (fun B w0 V P Vs Kc (hB : w3.heap.size <= B) (ho : xh B w0 V { f with p := P, v := Vs, k := Kc }) => (show Calls Tryz.prog 17 #[.agg #[.slice P.A P.n P.c, .slice Vs.A Vs.n Vs.c, .slice Kc.A Kc.n Kc.c, .int .i64 f.nx], .agg #[.int .i64 c.k, .int .i64 c.a, .int .i64 c.b, .int .i64 c.c, .int .i64 c.p.re, .int .i64 c.p.we, .int .i64 c.p.li, .int .i64 c.p.bu]] V (yg { f with p := P, v := Vs, k := Kc } (doR f.dat c).1 er V) from by
  rw [<- her]; exact Rdo_any _ c B w0 V ho hf hc h1k h8k))
 have BX0 := ihq ((⟨h1, h2, hr3⟩ : Bx3 w.heap.size w1.heap.size w2.heap.size f c w3).below (Below.refl w3.heap.size w3).drew)
 have HB0 := ihq (Below.refl w3.heap.size w3).drew
 have H0 := ihq h
 have k1 : ¬ c.k < 1 := by omega
 have k2 : ¬ 8 < c.k := by omega
 have Hadm := ihq hadm
 rw [her] at hE
 subst hE
 clear hadm
 clear hf hc her h1k h8k
 clear h hb1 hb2 hb3 hb12 hbw hr1 hr2 hr3 h1 h2
 go_enter Tryz.func9, Tryz.ntmps9
 go_upto_region 3 with fail
 refine zU (S := fun V => (ldRf (.pointer (some ⟨w.heap.size, 0, none⟩))).run Tryz.prog V = .ok (.agg #[.slice f.p.A f.p.n f.p.c, .slice f.v.A f.v.n f.v.c, .slice f.k.A f.k.n f.k.c, .int .i64 f.nx]) V /\ (Ye (.pointer (some ⟨w1.heap.size, 0, none⟩))).run Tryz.prog V = .ok (.agg #[.int .i64 c.k, .int .i64 c.a, .int .i64 c.b, .int .i64 c.c, .int .i64 c.p.re, .int .i64 c.p.we, .int .i64 c.p.li, .int .i64 c.p.bu]) V) 8 (by kernel_rfl) ?_
 have hHeld := BX0.out.sees
 refine zi (i := 0) (v := ?v1) rfl (by kernel_rfl) (fun _ _ _ h => h) (Or.inl ⟨by rfl, ?hy1⟩) hHeld ?rest1
 case hy1 => (intro w' hS; obtain ⟨t1, t2⟩ := hS; (try simp only [iq4, iq5, iq6]); go_simp; try with_reducible rfl)
 try simp only [Act.put, iq1, iq2, iq3, iq4, iq5, iq6]
 refine zi (i := 2) (v := ?v2) rfl (by kernel_rfl) (fun _ _ _ h => h) (Or.inl ⟨by rfl, ?hy2⟩) hHeld ?rest2
 case hy2 => (intro w' hS; obtain ⟨t1, t2⟩ := hS; (try simp only [iq4, iq5, iq6]); go_simp; try with_reducible rfl)
 try simp only [Act.put, iq1, iq2, iq3, iq4, iq5, iq6]
 refine zf (rs := [1, 7]) (by kernel_rfl) (by simp) ?_
 refine zb.cons rfl (fun K hK => ?_) ?_
 ·(try simp only [iq4, iq5, iq6])
  go_simp
  refine (KCl.out w3.drew HB0.out).mono ?_
  rintro e U1 ⟨P, Vs, Kc, rfl, own⟩
  have OW1 := ihq own
  have BX1 := ihq (BX0.out.below own.bel)
  have HB1 := ihq (HB0.out.trans (own.bel.mono HB0.out.size))
  have HZ := ihq (show w3.heap.size <= (World.heap w3.drew).size from HB0.out.size)
  clear own
  try unfold Rf.val
  refine hK.out _ _ (fun _ => BX1.out.sees) ?_
  clear hHeld
  have hHeld := BX1.out.sees
  clear hK K
  try simp only [Act.put, iq1, iq2, iq3, iq4, iq5, iq6]
  refine zf (rs := [3, 7]) (by kernel_rfl) (by simp) ?_
  refine zb.cons rfl (fun K hK => ?_) ?_
  ·(try simp only [iq4, iq5, iq6])
   go_simp
   refine (KD.out _ _ _ P Vs Kc HZ.out OW1.out).mono ?_
   rintro e U2 ⟨f2, rfl, hd, hok, ht⟩
   have HD := ihq hd
   have OK2 := ihq hok
   have BX2 := ihq (BX1.out.do_ OW1.out ht (by have := Hsz.out; have := HZ.out; omega) (by have := Hsz.out; have := HZ.out; omega) (by have := Hsz.out; have := HZ.out; omega))
   have HQ2 := ihq (Nat.le_trans HB1.out.size ht.size)
   have HW2 := ihq ((Hbw.out.trans (HB1.out.mono Hbw.out.size)).trans (ht.below (B := w.heap.size) (fun b e => by have := (RowB.lt OW1.out e).1; have := HZ.out; have := Hbw.out.size; omega) (by have := HB1.out.size; have := Hbw.out.size; omega)))
   clear hd hok ht
   try unfold Rf.val
   refine hK.out _ _ (fun _ => BX2.out.sees) ?_
   clear hHeld
   have hHeld := BX2.out.sees
   clear hK K
   try simp only [Act.put, iq1, iq2, iq3, iq4, iq5, iq6]
   refine zi (i := 4) (v := ?v3) rfl (by kernel_rfl) (fun _ _ _ h => h) (Or.inl ⟨by rfl, ?hy3⟩) hHeld ?rest3
   case hy3 => (intro w' hS; obtain ⟨t1, t2⟩ := hS; (try simp only [iq4, iq5, iq6]); go_simp; try with_reducible rfl)
   try simp only [Act.put, iq1, iq2, iq3, iq4, iq5, iq6]
   refine zi (i := 5) (v := ?v4) rfl (by kernel_rfl) (fun _ _ _ h => h) (Or.inl ⟨by rfl, ?hy4⟩) hHeld ?rest4
   case hy4 => (intro w' hS; obtain ⟨t1, t2⟩ := hS; (try simp only [iq4, iq5, iq6]); go_simp; try with_reducible rfl)
   try simp only [Act.put, iq1, iq2, iq3, iq4, iq5, iq6]
   refine zf (rs := [6, 7]) (by kernel_rfl) (by simp) ?_
   refine zb.cons rfl (fun K hK => ?_) ?_
   ·(try simp only [iq4, iq5, iq6])
    go_simp
    refine hK.out _ _ (fun _ => hHeld) ?_
    clear hK K
    try simp only [Act.put, iq1, iq2, iq3, iq4, iq5, iq6]
    refine zf (rs := [7]) (by kernel_rfl) (by simp) ?_
    refine zb.cons rfl (fun K hK => ?_) ?_
    ·(try simp only [iq4, iq5, iq6])
     obtain ⟨U3, hU3⟩ : ∃ W, World.alloc U2 (.cells #[.slice none 0 0, .slice none 0 0, .slice none 0 0, .int .i64 0] 32) = W := ⟨_, rfl⟩
     have hbn : Below (World.heap U2).size U2 U3 := by rw [<- hU3]; exact zg _ _
     have G3 := ihq (show U3.heap[(World.heap U2).size]? = some (.cells #[.slice none 0 0, .slice none 0 0, .slice none 0 0, .int .i64 0] 32 (0, 0)) from (by rw [<- hU3]; exact heap_alloc_new _ _))
     have BX3 := ihq (BX2.out.below hbn)
     have HG := ihq (show w3.heap.size <= (World.heap U2).size from HQ2.out)
     have OK3 := ihq (OK2.out.below hbn)
     have HQ3 := ihq (Nat.le_trans HQ2.out hbn.size)
     have HW3 := ihq (HW2.out.trans (hbn.mono HW2.out.size))
     go_simp
     try rw [hU3]
     clear hbn
     refine hK.out _ _ (fun _ => BX3.out.sees) ?_
     clear hHeld
     have hHeld := BX3.out.sees
     clear hK K
     try simp only [Act.put, iq1, iq2, iq3, iq4, iq5, iq6]
     refine zf (rs := [8]) (by kernel_rfl) (by simp) ?_
     refine zb.cons rfl (fun K hK => ?_) ?_
     ·(try simp only [iq4, iq5, iq6])
      obtain ⟨X9, hst9, hr9, ht9⟩ := zk G3.out rfl f2.p f2.v f2.k f2.nx
      have BX9 := ihq (BX3.out.turned ht9 (by have := Hsz.out; have := HG.out; omega) (by have := Hsz.out; have := HG.out; omega) (by have := Hsz.out; have := HG.out; omega))
      have OK9 := ihq (OK3.out.turnedSt ⟨_, G3.out⟩ ht9)
      have HW9 := ihq (HW3.out.trans (ht9.below (B := w.heap.size) (fun b e => by have := HG.out; have := Hbw.out.size; omega) HW3.out.size))
      have Hr9 := ihq hr9
      clear hr9 ht9
      go_simp
      refine hK.out _ _ (fun h => (by cases h)) ?_
      clear hHeld hK K hst9
      try simp only [Act.put, iq1, iq2, iq3, iq4, iq5, iq6]
      refine zf (rs := [9]) (by kernel_rfl) (by simp) ?_
      refine zb.cons rfl (fun K hK => ?_) zb.nil
      (try simp only [iq4, iq5, iq6])
      go_simp
      refine hK.out _ _ (fun h => (by cases h)) ?_
      clear hK K
      try simp only [Act.put, iq1, iq2, iq3, iq4, iq5, iq6]
      refine zu (by kernel_rfl) ?_ _
      have l3 := zR (f := f2) Hr9.out
      have hdd := HD.out
      have KA := xw f2 X9 OK9.out
      rw [hdd, Hadm.out] at KA
      unfold Rf.val at KA
      clear hdd
      go_wp2_with (go_at_call 19; refine KA.mono ?_; rintro e X10 ⟨rfl, hb10⟩; have Hb10 := ihq hb10; obtain ⟨l4, l5⟩ := (BX9.out.below hb10).sees; obtain ⟨X11, hst11, hr11, ht11⟩ := zk (BX9.out.below hb10).r rfl f.p f.v f.k f.nx; have Hr11 := ihq hr11; have Ht11 := ihq ht11; clear hr11 ht11 hb10)
      refine bodyPost_ret (v := .tuple #[.agg #[.slice f.p.A f.p.n f.p.c, .slice f.v.A f.v.n f.v.c, .slice f.k.A f.k.n f.k.c, .int .i64 f.nx], .int .i64 14]) (zj rfl _ _ w2.heap.size 32 #[.slice f.p.A f.p.n f.p.c, .slice f.v.A f.v.n f.v.c, .slice f.k.A f.k.n f.k.c, .int .i64 f.nx] (0, 0) _ (.int .i64 14) rfl rfl Hr11.out Tryz.underlying32 rfl zw) rfl ?_
      exact yV (f' := f) (HW9.out.trans (Hb10.out.mono HW9.out.size)) (H0.out.below (HW9.out.trans (Hb10.out.mono HW9.out.size))) (by have := Hsz.out; omega) ⟨_, (BX9.out.below Hb10.out).r⟩ Ht11.out rfl
     exact zb.nil
    exact zb.nil
   refine zb.cons rfl (fun K hK => ?_) ?_
   ·(try simp only [iq4, iq5, iq6])
    obtain ⟨U3, hU3⟩ : ∃ W, World.alloc U2 (.cells #[.slice none 0 0, .slice none 0 0, .slice none 0 0, .int .i64 0] 32) = W := ⟨_, rfl⟩
    have hbn : Below (World.heap U2).size U2 U3 := by rw [<- hU3]; exact zg _ _
    have G3 := ihq (show U3.heap[(World.heap U2).size]? = some (.cells #[.slice none 0 0, .slice none 0 0, .slice none 0 0, .int .i64 0] 32 (0, 0)) from (by rw [<- hU3]; exact heap_alloc_new _ _))
    have BX3 := ihq (BX2.out.below hbn)
    have HG := ihq (show w3.heap.size <= (World.heap U2).size from HQ2.out)
    have OK3 := ihq (OK2.out.below hbn)
    have HQ3 := ihq (Nat.le_trans HQ2.out hbn.size)
    have HW3 := ihq (HW2.out.trans (hbn.mono HW2.out.size))
    go_simp
    try rw [hU3]
    clear hbn
    refine hK.out _ _ (fun _ => BX3.out.sees) ?_
    clear hHeld
    have hHeld := BX3.out.sees
    clear hK K
    try simp only [Act.put, iq1, iq2, iq3, iq4, iq5, iq6]
    refine zf (rs := [6, 8]) (by kernel_rfl) (by simp) ?_
    refine zb.cons rfl (fun K hK => ?_) ?_
    ·(try simp only [iq4, iq5, iq6])
     go_simp
     refine hK.out _ _ (fun _ => hHeld) ?_
     clear hK K
     try simp only [Act.put, iq1, iq2, iq3, iq4, iq5, iq6]
     refine zf (rs := [8]) (by kernel_rfl) (by simp) ?_
     refine zb.cons rfl (fun K hK => ?_) ?_
     ·(try simp only [iq4, iq5, iq6])
      obtain ⟨X9, hst9, hr9, ht9⟩ := zk G3.out rfl f2.p f2.v f2.k f2.nx
      have BX9 := ihq (BX3.out.turned ht9 (by have := Hsz.out; have := HG.out; omega) (by have := Hsz.out; have := HG.out; omega) (by have := Hsz.out; have := HG.out; omega))
      have OK9 := ihq (OK3.out.turnedSt ⟨_, G3.out⟩ ht9)
      have HW9 := ihq (HW3.out.trans (ht9.below (B := w.heap.size) (fun b e => by have := HG.out; have := Hbw.out.size; omega) HW3.out.size))
      have Hr9 := ihq hr9
      clear hr9 ht9
      go_simp
      refine hK.out _ _ (fun h => (by cases h)) ?_
      clear hHeld hK K hst9
      try simp only [Act.put, iq1, iq2, iq3, iq4, iq5, iq6]
      refine zf (rs := [9]) (by kernel_rfl) (by simp) ?_
      refine zb.cons rfl (fun K hK => ?_) zb.nil
      (try simp only [iq4, iq5, iq6])
      go_simp
      refine hK.out _ _ (fun h => (by cases h)) ?_
      clear hK K
      try simp only [Act.put, iq1, iq2, iq3, iq4, iq5, iq6]
      refine zu (by kernel_rfl) ?_ _
      have l3 := zR (f := f2) Hr9.out
      have hdd := HD.out
      have KA := xw f2 X9 OK9.out
      rw [hdd, Hadm.out] at KA
      unfold Rf.val at KA
      clear hdd
      go_wp2_with (go_at_call 19; refine KA.mono ?_; rintro e X10 ⟨rfl, hb10⟩; have Hb10 := ihq hb10; obtain ⟨l4, l5⟩ := (BX9.out.below hb10).sees; obtain ⟨X11, hst11, hr11, ht11⟩ := zk (BX9.out.below hb10).r rfl f.p f.v f.k f.nx; have Hr11 := ihq hr11; have Ht11 := ihq ht11; clear hr11 ht11 hb10)
      refine bodyPost_ret (v := .tuple #[.agg #[.slice f.p.A f.p.n f.p.c, .slice f.v.A f.v.n f.v.c, .slice f.k.A f.k.n f.k.c, .int .i64 f.nx], .int .i64 14]) (zj rfl _ _ w2.heap.size 32 #[.slice f.p.A f.p.n f.p.c, .slice f.v.A f.v.n f.v.c, .slice f.k.A f.k.n f.k.c, .int .i64 f.nx] (0, 0) _ (.int .i64 14) rfl rfl Hr11.out Tryz.underlying32 rfl zw) rfl ?_
      exact yV (f' := f) (HW9.out.trans (Hb10.out.mono HW9.out.size)) (H0.out.below (HW9.out.trans (Hb10.out.mono HW9.out.size))) (by have := Hsz.out; omega) ⟨_, (BX9.out.below Hb10.out).r⟩ Ht11.out rfl
     exact zb.nil
    refine zb.cons rfl (fun K hK => ?_) ?_
    ·(try simp only [iq4, iq5, iq6])
     obtain ⟨X9, hst9, hr9, ht9⟩ := zk G3.out rfl f2.p f2.v f2.k f2.nx
     have BX9 := ihq (BX3.out.turned ht9 (by have := Hsz.out; have := HG.out; omega) (by have := Hsz.out; have := HG.out; omega) (by have := Hsz.out; have := HG.out; omega))
     have OK9 := ihq (OK3.out.turnedSt ⟨_, G3.out⟩ ht9)
     have HW9 := ihq (HW3.out.trans (ht9.below (B := w.heap.size) (fun b e => by have := HG.out; have := Hbw.out.size; omega) HW3.out.size))
     have Hr9 := ihq hr9
     clear hr9 ht9
     go_simp
     refine hK.out _ _ (fun h => (by cases h)) ?_
     clear hHeld hK K hst9
     try simp only [Act.put, iq1, iq2, iq3, iq4, iq5, iq6]
     refine zf (rs := [6]) (by kernel_rfl) (by simp) ?_
     refine zb.cons rfl (fun K hK => ?_) ?_
     ·(try simp only [iq4, iq5, iq6])
      go_simp
      refine hK.out _ _ (fun h => (by cases h)) ?_
      clear hK K
      try simp only [Act.put, iq1, iq2, iq3, iq4, iq5, iq6]
      refine zf (rs := [9]) (by kernel_rfl) (by simp) ?_
      refine zb.cons rfl (fun K hK => ?_) zb.nil
      (try simp only [iq4, iq5, iq6])
      go_simp
      refine hK.out _ _ (fun h => (by cases h)) ?_
      clear hK K
      try simp only [Act.put, iq1, iq2, iq3, iq4, iq5, iq6]
      refine zu (by kernel_rfl) ?_ _
      have l3 := zR (f := f2) Hr9.out
      have hdd := HD.out
      have KA := xw f2 X9 OK9.out
      rw [hdd, Hadm.out] at KA
      unfold Rf.val at KA
      clear hdd
      go_wp2_with (go_at_call 19; refine KA.mono ?_; rintro e X10 ⟨rfl, hb10⟩; have Hb10 := ihq hb10; obtain ⟨l4, l5⟩ := (BX9.out.below hb10).sees; obtain ⟨X11, hst11, hr11, ht11⟩ := zk (BX9.out.below hb10).r rfl f.p f.v f.k f.nx; have Hr11 := ihq hr11; have Ht11 := ihq ht11; clear hr11 ht11 hb10)
      refine bodyPost_ret (v := .tuple #[.agg #[.slice f.p.A f.p.n f.p.c, .slice f.v.A f.v.n f.v.c, .slice f.k.A f.k.n f.k.c, .int .i64 f.nx], .int .i64 14]) (zj rfl _ _ w2.heap.size 32 #[.slice f.p.A f.p.n f.p.c, .slice f.v.A f.v.n f.v.c, .slice f.k.A f.k.n f.k.c, .int .i64 f.nx] (0, 0) _ (.int .i64 14) rfl rfl Hr11.out Tryz.underlying32 rfl zw) rfl ?_
      exact yV (f' := f) (HW9.out.trans (Hb10.out.mono HW9.out.size)) (H0.out.below (HW9.out.trans (Hb10.out.mono HW9.out.size))) (by have := Hsz.out; omega) ⟨_, (BX9.out.below Hb10.out).r⟩ Ht11.out rfl
     exact zb.nil
    exact zb.nil
   exact zb.nil
  refine zb.cons rfl (fun K hK => ?_) ?_
  ·(try simp only [iq4, iq5, iq6])
   obtain ⟨U2, hU2⟩ : ∃ W, World.alloc U1 (.cells #[.slice none 0 0, .slice none 0 0, .slice none 0 0, .int .i64 0] 32) = W := ⟨_, rfl⟩
   have hbn : Below (World.heap U1).size U1 U2 := by rw [<- hU2]; exact zg _ _
   have G2 := ihq (show U2.heap[(World.heap U1).size]? = some (.cells #[.slice none 0 0, .slice none 0 0, .slice none 0 0, .int .i64 0] 32 (0, 0)) from (by rw [<- hU2]; exact heap_alloc_new _ _))
   have BX2 := ihq (BX1.out.below hbn)
   have HG := ihq (show w3.heap.size <= (World.heap U1).size from HB1.out.size)
   have HB2 := ihq (HB1.out.trans (hbn.mono HB1.out.size))
   have OW2 := ihq (OW1.out.below hbn)
   go_simp
   try rw [hU2]
   clear hbn
   refine hK.out _ _ (fun _ => BX2.out.sees) ?_
   clear hHeld
   have hHeld := BX2.out.sees
   clear hK K
   try simp only [Act.put, iq1, iq2, iq3, iq4, iq5, iq6]
   refine zf (rs := [3]) (by kernel_rfl) (by simp) ?_
   refine zb.cons rfl (fun K hK => ?_) ?_
   ·(try simp only [iq4, iq5, iq6])
    go_simp
    refine (KD.out _ _ _ P Vs Kc HZ.out OW2.out).mono ?_
    rintro e U3 ⟨f2, rfl, hd, hok, ht⟩
    have HD := ihq hd
    have OK3 := ihq hok
    have BX3 := ihq (BX2.out.do_ OW2.out ht (by have := Hsz.out; have := HZ.out; omega) (by have := Hsz.out; have := HZ.out; omega) (by have := Hsz.out; have := HZ.out; omega))
    have HQ3 := ihq (Nat.le_trans HB2.out.size ht.size)
    have HW3 := ihq ((Hbw.out.trans (HB2.out.mono Hbw.out.size)).trans (ht.below (B := w.heap.size) (fun b e => by have := (RowB.lt OW2.out e).1; have := HZ.out; have := Hbw.out.size; omega) (by have := HB2.out.size; have := Hbw.out.size; omega)))
    have G3 := ihq (ht.heap G2.out (ZL OW2.out G2.out))
    clear hd hok ht
    try unfold Rf.val
    refine hK.out _ _ (fun _ => BX3.out.sees) ?_
    clear hHeld
    have hHeld := BX3.out.sees
    clear hK K
    try simp only [Act.put, iq1, iq2, iq3, iq4, iq5, iq6]
    refine zi (i := 4) (v := ?v5) rfl (by kernel_rfl) (fun _ _ _ h => h) (Or.inl ⟨by rfl, ?hy5⟩) hHeld ?rest5
    case hy5 => (intro w' hS; obtain ⟨t1, t2⟩ := hS; (try simp only [iq4, iq5, iq6]); go_simp; try with_reducible rfl)
    try simp only [Act.put, iq1, iq2, iq3, iq4, iq5, iq6]
    refine zi (i := 5) (v := ?v6) rfl (by kernel_rfl) (fun _ _ _ h => h) (Or.inl ⟨by rfl, ?hy6⟩) hHeld ?rest6
    case hy6 => (intro w' hS; obtain ⟨t1, t2⟩ := hS; (try simp only [iq4, iq5, iq6]); go_simp; try with_reducible rfl)
    try simp only [Act.put, iq1, iq2, iq3, iq4, iq5, iq6]
    refine zf (rs := [6, 8]) (by kernel_rfl) (by simp) ?_
    refine zb.cons rfl (fun K hK => ?_) ?_
    ·(try simp only [iq4, iq5, iq6])
     go_simp
     refine hK.out _ _ (fun _ => hHeld) ?_
     clear hK K
     try simp only [Act.put, iq1, iq2, iq3, iq4, iq5, iq6]
     refine zf (rs := [8]) (by kernel_rfl) (by simp) ?_
     refine zb.cons rfl (fun K hK => ?_) ?_
     ·(try simp only [iq4, iq5, iq6])
      obtain ⟨X9, hst9, hr9, ht9⟩ := zk G3.out rfl f2.p f2.v f2.k f2.nx
      have BX9 := ihq (BX3.out.turned ht9 (by have := Hsz.out; have := HG.out; omega) (by have := Hsz.out; have := HG.out; omega) (by have := Hsz.out; have := HG.out; omega))
      have OK9 := ihq (OK3.out.turnedSt ⟨_, G3.out⟩ ht9)
      have HW9 := ihq (HW3.out.trans (ht9.below (B := w.heap.size) (fun b e => by have := HG.out; have := Hbw.out.size; omega) HW3.out.size))
      have Hr9 := ihq hr9
      clear hr9 ht9
      go_simp
      refine hK.out _ _ (fun h => (by cases h)) ?_
      clear hHeld hK K hst9
      try simp only [Act.put, iq1, iq2, iq3, iq4, iq5, iq6]
      refine zf (rs := [9]) (by kernel_rfl) (by simp) ?_
      refine zb.cons rfl (fun K hK => ?_) zb.nil
      (try simp only [iq4, iq5, iq6])
      go_simp
      refine hK.out _ _ (fun h => (by cases h)) ?_
      clear hK K
      try simp only [Act.put, iq1, iq2, iq3, iq4, iq5, iq6]
      refine zu (by kernel_rfl) ?_ _
      have l3 := zR (f := f2) Hr9.out
      have hdd := HD.out
      have KA := xw f2 X9 OK9.out
      rw [hdd, Hadm.out] at KA
      unfold Rf.val at KA
      clear hdd
      go_wp2_with (go_at_call 19; refine KA.mono ?_; rintro e X10 ⟨rfl, hb10⟩; have Hb10 := ihq hb10; obtain ⟨l4, l5⟩ := (BX9.out.below hb10).sees; obtain ⟨X11, hst11, hr11, ht11⟩ := zk (BX9.out.below hb10).r rfl f.p f.v f.k f.nx; have Hr11 := ihq hr11; have Ht11 := ihq ht11; clear hr11 ht11 hb10)
      refine bodyPost_ret (v := .tuple #[.agg #[.slice f.p.A f.p.n f.p.c, .slice f.v.A f.v.n f.v.c, .slice f.k.A f.k.n f.k.c, .int .i64 f.nx], .int .i64 14]) (zj rfl _ _ w2.heap.size 32 #[.slice f.p.A f.p.n f.p.c, .slice f.v.A f.v.n f.v.c, .slice f.k.A f.k.n f.k.c, .int .i64 f.nx] (0, 0) _ (.int .i64 14) rfl rfl Hr11.out Tryz.underlying32 rfl zw) rfl ?_
      exact yV (f' := f) (HW9.out.trans (Hb10.out.mono HW9.out.size)) (H0.out.below (HW9.out.trans (Hb10.out.mono HW9.out.size))) (by have := Hsz.out; omega) ⟨_, (BX9.out.below Hb10.out).r⟩ Ht11.out rfl
     exact zb.nil
    refine zb.cons rfl (fun K hK => ?_) ?_
    ·(try simp only [iq4, iq5, iq6])
     obtain ⟨X9, hst9, hr9, ht9⟩ := zk G3.out rfl f2.p f2.v f2.k f2.nx
     have BX9 := ihq (BX3.out.turned ht9 (by have := Hsz.out; have := HG.out; omega) (by have := Hsz.out; have := HG.out; omega) (by have := Hsz.out; have := HG.out; omega))
     have OK9 := ihq (OK3.out.turnedSt ⟨_, G3.out⟩ ht9)
     have HW9 := ihq (HW3.out.trans (ht9.below (B := w.heap.size) (fun b e => by have := HG.out; have := Hbw.out.size; omega) HW3.out.size))
     have Hr9 := ihq hr9
     clear hr9 ht9
     go_simp
     refine hK.out _ _ (fun h => (by cases h)) ?_
     clear hHeld hK K hst9
     try simp only [Act.put, iq1, iq2, iq3, iq4, iq5, iq6]
     refine zf (rs := [6]) (by kernel_rfl) (by simp) ?_
     refine zb.cons rfl (fun K hK => ?_) ?_
     ·(try simp only [iq4, iq5, iq6])
      go_simp
      refine hK.out _ _ (fun h => (by cases h)) ?_
      clear hK K
      try simp only [Act.put, iq1, iq2, iq3, iq4, iq5, iq6]
      refine zf (rs := [9]) (by kernel_rfl) (by simp) ?_
      refine zb.cons rfl (fun K hK => ?_) zb.nil
      (try simp only [iq4, iq5, iq6])
      go_simp
      refine hK.out _ _ (fun h => (by cases h)) ?_
      clear hK K
      try simp only [Act.put, iq1, iq2, iq3, iq4, iq5, iq6]
      refine zu (by kernel_rfl) ?_ _
      have l3 := zR (f := f2) Hr9.out
      have hdd := HD.out
      have KA := xw f2 X9 OK9.out
      rw [hdd, Hadm.out] at KA
      unfold Rf.val at KA
      clear hdd
      go_wp2_with (go_at_call 19; refine KA.mono ?_; rintro e X10 ⟨rfl, hb10⟩; have Hb10 := ihq hb10; obtain ⟨l4, l5⟩ := (BX9.out.below hb10).sees; obtain ⟨X11, hst11, hr11, ht11⟩ := zk (BX9.out.below hb10).r rfl f.p f.v f.k f.nx; have Hr11 := ihq hr11; have Ht11 := ihq ht11; clear hr11 ht11 hb10)
      refine bodyPost_ret (v := .tuple #[.agg #[.slice f.p.A f.p.n f.p.c, .slice f.v.A f.v.n f.v.c, .slice f.k.A f.k.n f.k.c, .int .i64 f.nx], .int .i64 14]) (zj rfl _ _ w2.heap.size 32 #[.slice f.p.A f.p.n f.p.c, .slice f.v.A f.v.n f.v.c, .slice f.k.A f.k.n f.k.c, .int .i64 f.nx] (0, 0) _ (.int .i64 14) rfl rfl Hr11.out Tryz.underlying32 rfl zw) rfl ?_
      exact yV (f' := f) (HW9.out.trans (Hb10.out.mono HW9.out.size)) (H0.out.below (HW9.out.trans (Hb10.out.mono HW9.out.size))) (by have := Hsz.out; omega) ⟨_, (BX9.out.below Hb10.out).r⟩ Ht11.out rfl
     exact zb.nil
    exact zb.nil
   exact zb.nil
  exact zb.nil
 refine zb.cons rfl (fun K hK => ?_) ?_
 ·(try simp only [iq4, iq5, iq6])
  obtain ⟨U1, hU1⟩ : ∃ W, World.alloc w3.drew (.cells #[.slice none 0 0, .slice none 0 0, .slice none 0 0, .int .i64 0] 32) = W := ⟨_, rfl⟩
  have hbn : Below (World.heap w3.drew).size w3.drew U1 := by rw [<- hU1]; exact zg _ _
  have G1 := ihq (show U1.heap[w3.heap.size]? = some (.cells #[.slice none 0 0, .slice none 0 0, .slice none 0 0, .int .i64 0] 32 (0, 0)) from (by rw [<- hU1]; exact heap_alloc_new _ _))
  have BX1 := ihq (BX0.out.below hbn)
  have HG := ihq (show w3.heap.size <= w3.heap.size from HB0.out.size)
  have HB1 := ihq (HB0.out.trans (hbn.mono HB0.out.size))
  go_simp
  try rw [hU1]
  clear hbn
  refine hK.out _ _ (fun _ => BX1.out.sees) ?_
  clear hHeld
  have hHeld := BX1.out.sees
  clear hK K
  try simp only [Act.put, iq1, iq2, iq3, iq4, iq5, iq6]
  refine zf (rs := [1]) (by kernel_rfl) (by simp) ?_
  refine zb.cons rfl (fun K hK => ?_) ?_
  ·(try simp only [iq4, iq5, iq6])
   go_simp
   refine (KCl.out U1 HB1.out).mono ?_
   rintro e U2 ⟨P, Vs, Kc, rfl, own⟩
   have OW2 := ihq own
   have BX2 := ihq (BX1.out.below own.bel)
   have HB2 := ihq (HB1.out.trans (own.bel.mono HB1.out.size))
   have HZ := ihq (show w3.heap.size <= (World.heap U1).size from HB1.out.size)
   have G2 := ihq (za G1.out own.bel)
   clear own
   try unfold Rf.val
   refine hK.out _ _ (fun _ => BX2.out.sees) ?_
   clear hHeld
   have hHeld := BX2.out.sees
   clear hK K
   try simp only [Act.put, iq1, iq2, iq3, iq4, iq5, iq6]
   refine zf (rs := [3]) (by kernel_rfl) (by simp) ?_
   refine zb.cons rfl (fun K hK => ?_) ?_
   ·(try simp only [iq4, iq5, iq6])
    go_simp
    refine (KD.out _ _ _ P Vs Kc HZ.out OW2.out).mono ?_
    rintro e U3 ⟨f2, rfl, hd, hok, ht⟩
    have HD := ihq hd
    have OK3 := ihq hok
    have BX3 := ihq (BX2.out.do_ OW2.out ht (by have := Hsz.out; have := HZ.out; omega) (by have := Hsz.out; have := HZ.out; omega) (by have := Hsz.out; have := HZ.out; omega))
    have HQ3 := ihq (Nat.le_trans HB2.out.size ht.size)
    have HW3 := ihq ((Hbw.out.trans (HB2.out.mono Hbw.out.size)).trans (ht.below (B := w.heap.size) (fun b e => by have := (RowB.lt OW2.out e).1; have := HZ.out; have := Hbw.out.size; omega) (by have := HB2.out.size; have := Hbw.out.size; omega)))
    have G3 := ihq (ht.heap G2.out (ZL OW2.out G2.out))
    clear hd hok ht
    try unfold Rf.val
    refine hK.out _ _ (fun _ => BX3.out.sees) ?_
    clear hHeld
    have hHeld := BX3.out.sees
    clear hK K
    try simp only [Act.put, iq1, iq2, iq3, iq4, iq5, iq6]
    refine zi (i := 4) (v := ?v7) rfl (by kernel_rfl) (fun _ _ _ h => h) (Or.inl ⟨by rfl, ?hy7⟩) hHeld ?rest7
    case hy7 => (intro w' hS; obtain ⟨t1, t2⟩ := hS; (try simp only [iq4, iq5, iq6]); go_simp; try with_reducible rfl)
    try simp only [Act.put, iq1, iq2, iq3, iq4, iq5, iq6]
    refine zi (i := 5) (v := ?v8) rfl (by kernel_rfl) (fun _ _ _ h => h) (Or.inl ⟨by rfl, ?hy8⟩) hHeld ?rest8
    case hy8 => (intro w' hS; obtain ⟨t1, t2⟩ := hS; (try simp only [iq4, iq5, iq6]); go_simp; try with_reducible rfl)
    try simp only [Act.put, iq1, iq2, iq3, iq4, iq5, iq6]
    refine zf (rs := [6, 8]) (by kernel_rfl) (by simp) ?_
    refine zb.cons rfl (fun K hK => ?_) ?_
    ·(try simp only [iq4, iq5, iq6])
     go_simp
     refine hK.out _ _ (fun _ => hHeld) ?_
     clear hK K
     try simp only [Act.put, iq1, iq2, iq3, iq4, iq5, iq6]
     refine zf (rs := [8]) (by kernel_rfl) (by simp) ?_
     refine zb.cons rfl (fun K hK => ?_) ?_
     ·(try simp only [iq4, iq5, iq6])
      obtain ⟨X9, hst9, hr9, ht9⟩ := zk G3.out rfl f2.p f2.v f2.k f2.nx
      have BX9 := ihq (BX3.out.turned ht9 (by have := Hsz.out; have := HG.out; omega) (by have := Hsz.out; have := HG.out; omega) (by have := Hsz.out; have := HG.out; omega))
      have OK9 := ihq (OK3.out.turnedSt ⟨_, G3.out⟩ ht9)
      have HW9 := ihq (HW3.out.trans (ht9.below (B := w.heap.size) (fun b e => by have := HG.out; have := Hbw.out.size; omega) HW3.out.size))
      have Hr9 := ihq hr9
      clear hr9 ht9
      go_simp
      refine hK.out _ _ (fun h => (by cases h)) ?_
      clear hHeld hK K hst9
      try simp only [Act.put, iq1, iq2, iq3, iq4, iq5, iq6]
      refine zf (rs := [9]) (by kernel_rfl) (by simp) ?_
      refine zb.cons rfl (fun K hK => ?_) zb.nil
      (try simp only [iq4, iq5, iq6])
      go_simp
      refine hK.out _ _ (fun h => (by cases h)) ?_
      clear hK K
      try simp only [Act.put, iq1, iq2, iq3, iq4, iq5, iq6]
      refine zu (by kernel_rfl) ?_ _
      have l3 := zR (f := f2) Hr9.out
      have hdd := HD.out
      have KA := xw f2 X9 OK9.out
      rw [hdd, Hadm.out] at KA
      unfold Rf.val at KA
      clear hdd
      go_wp2_with (go_at_call 19; refine KA.mono ?_; rintro e X10 ⟨rfl, hb10⟩; have Hb10 := ihq hb10; obtain ⟨l4, l5⟩ := (BX9.out.below hb10).sees; obtain ⟨X11, hst11, hr11, ht11⟩ := zk (BX9.out.below hb10).r rfl f.p f.v f.k f.nx; have Hr11 := ihq hr11; have Ht11 := ihq ht11; clear hr11 ht11 hb10)
      refine bodyPost_ret (v := .tuple #[.agg #[.slice f.p.A f.p.n f.p.c, .slice f.v.A f.v.n f.v.c, .slice f.k.A f.k.n f.k.c, .int .i64 f.nx], .int .i64 14]) (zj rfl _ _ w2.heap.size 32 #[.slice f.p.A f.p.n f.p.c, .slice f.v.A f.v.n f.v.c, .slice f.k.A f.k.n f.k.c, .int .i64 f.nx] (0, 0) _ (.int .i64 14) rfl rfl Hr11.out Tryz.underlying32 rfl zw) rfl ?_
      exact yV (f' := f) (HW9.out.trans (Hb10.out.mono HW9.out.size)) (H0.out.below (HW9.out.trans (Hb10.out.mono HW9.out.size))) (by have := Hsz.out; omega) ⟨_, (BX9.out.below Hb10.out).r⟩ Ht11.out rfl
     exact zb.nil
    refine zb.cons rfl (fun K hK => ?_) ?_
    ·(try simp only [iq4, iq5, iq6])
     obtain ⟨X9, hst9, hr9, ht9⟩ := zk G3.out rfl f2.p f2.v f2.k f2.nx
     have BX9 := ihq (BX3.out.turned ht9 (by have := Hsz.out; have := HG.out; omega) (by have := Hsz.out; have := HG.out; omega) (by have := Hsz.out; have := HG.out; omega))
     have OK9 := ihq (OK3.out.turnedSt ⟨_, G3.out⟩ ht9)
     have HW9 := ihq (HW3.out.trans (ht9.below (B := w.heap.size) (fun b e => by have := HG.out; have := Hbw.out.size; omega) HW3.out.size))
     have Hr9 := ihq hr9
     clear hr9 ht9
     go_simp
     refine hK.out _ _ (fun h => (by cases h)) ?_
     clear hHeld hK K hst9
     try simp only [Act.put, iq1, iq2, iq3, iq4, iq5, iq6]
     refine zf (rs := [6]) (by kernel_rfl) (by simp) ?_
     refine zb.cons rfl (fun K hK => ?_) ?_
     ·(try simp only [iq4, iq5, iq6])
      go_simp
      refine hK.out _ _ (fun h => (by cases h)) ?_
      clear hK K
      try simp only [Act.put, iq1, iq2, iq3, iq4, iq5, iq6]
      refine zf (rs := [9]) (by kernel_rfl) (by simp) ?_
      refine zb.cons rfl (fun K hK => ?_) zb.nil
      (try simp only [iq4, iq5, iq6])
      go_simp
      refine hK.out _ _ (fun h => (by cases h)) ?_
      clear hK K
      try simp only [Act.put, iq1, iq2, iq3, iq4, iq5, iq6]
      refine zu (by kernel_rfl) ?_ _
      have l3 := zR (f := f2) Hr9.out
      have hdd := HD.out
      have KA := xw f2 X9 OK9.out
      rw [hdd, Hadm.out] at KA
      unfold Rf.val at KA
      clear hdd
      go_wp2_with (go_at_call 19; refine KA.mono ?_; rintro e X10 ⟨rfl, hb10⟩; have Hb10 := ihq hb10; obtain ⟨l4, l5⟩ := (BX9.out.below hb10).sees; obtain ⟨X11, hst11, hr11, ht11⟩ := zk (BX9.out.below hb10).r rfl f.p f.v f.k f.nx; have Hr11 := ihq hr11; have Ht11 := ihq ht11; clear hr11 ht11 hb10)
      refine bodyPost_ret (v := .tuple #[.agg #[.slice f.p.A f.p.n f.p.c, .slice f.v.A f.v.n f.v.c, .slice f.k.A f.k.n f.k.c, .int .i64 f.nx], .int .i64 14]) (zj rfl _ _ w2.heap.size 32 #[.slice f.p.A f.p.n f.p.c, .slice f.v.A f.v.n f.v.c, .slice f.k.A f.k.n f.k.c, .int .i64 f.nx] (0, 0) _ (.int .i64 14) rfl rfl Hr11.out Tryz.underlying32 rfl zw) rfl ?_
      exact yV (f' := f) (HW9.out.trans (Hb10.out.mono HW9.out.size)) (H0.out.below (HW9.out.trans (Hb10.out.mono HW9.out.size))) (by have := Hsz.out; omega) ⟨_, (BX9.out.below Hb10.out).r⟩ Ht11.out rfl
     exact zb.nil
    exact zb.nil
   exact zb.nil
  exact zb.nil
 exact zb.nil
set_option maxRecDepth 100000 in
set_option maxHeartbeats 2000000 in
theorem RApply_lo (f : Rf) (c : Cmd) (w : World) (h : RfOk w f) (hk : c.k < 1) :
  Calls Tryz.prog 9 #[f.val, cmdA c] w (YL f.dat 22 w) := by
 unfold Rf.val cmdA
 obtain ⟨w1, hw1, hb1, hr1⟩ := yb w f
 obtain ⟨w2, hw2, hb2, hr2⟩ := zN w1 c
 obtain ⟨w3, hw3⟩ : ∃ w3, w2.alloc (.cells #[.slice none 0 0, .slice none 0 0, .slice none 0 0, .int .i64 0] 32) = w3 := ⟨_, rfl⟩
 have hb3 : Below w2.heap.size w2 w3 := by rw [<- hw3]; exact zg _ _
 have hr3 : w3.heap[w2.heap.size]? = some (.cells #[.slice none 0 0, .slice none 0 0, .slice none 0 0, .int .i64 0] 32 (0, 0)) := by rw [<- hw3]; exact heap_alloc_new _ _
 have hb12 : Below w.heap.size w w2 := hb1.trans (hb2.mono hb1.size)
 have hbw : Below w.heap.size w w3 := hb12.trans (hb3.mono hb12.size)
 have h1 := za (za hr1 hb2) hb3
 have h2 := za hr2 hb3
 have Hr3 := ihq hr3; have Hbw := ihq hbw; have HW := ihq h
 have Hsz := ihq (show w.heap.size < w1.heap.size /\ w1.heap.size < w2.heap.size /\ w2.heap.size < w3.heap.size from ⟨(Array.getElem?_eq_some_iff.1 hr1).1, (Array.getElem?_eq_some_iff.1 hr2).1, (Array.getElem?_eq_some_iff.1 hr3).1⟩)
 have F := ihq (fun V (hv : Below w3.heap.size w3 V) => (zK.of (za h1 hv) (za h2 hv) : zK w w1 f c V))
 have H3 := ihq (h.below hbw)
 obtain ⟨s0, s1, s2, s3, sl, c0, c1, c2, c3⟩ := F.out w3 (Below.refl _ _)
 obtain ⟨X10, hst10, hr10, ht10⟩ := zk hr3 rfl f.p f.v f.k f.nx
 have Hr10 := ihq hr10; have Ht10 := ihq ht10
 clear hr10 ht10
 clear h hb1 hb2 hb3 hb12 hbw hr1 hr2 hr3 h1 h2
 go_enter Tryz.func9, Tryz.ntmps9
 go_wp2
 refine bodyPost_ret (v := .tuple #[.agg #[.slice f.p.A f.p.n f.p.c, .slice f.v.A f.v.n f.v.c, .slice f.k.A f.k.n f.k.c, .int .i64 f.nx], .int .i64 22]) (zj rfl _ _ w2.heap.size 32 #[.slice f.p.A f.p.n f.p.c, .slice f.v.A f.v.n f.v.c, .slice f.k.A f.k.n f.k.c, .int .i64 f.nx] (0, 0) _ (.int .i64 22) rfl rfl Hr10.out Tryz.underlying32 rfl zw) rfl ?_
 exact yV (f' := f) Hbw.out H3.out (by have := Hsz.out; omega) ⟨_, Hr3.out⟩ Ht10.out rfl
set_option maxRecDepth 100000 in
set_option maxHeartbeats 2000000 in
theorem RApply_hi (f : Rf) (c : Cmd) (w : World) (h : RfOk w f) (hk : 8 < c.k) :
  Calls Tryz.prog 9 #[f.val, cmdA c] w (YL f.dat 22 w) := by
 unfold Rf.val cmdA
 obtain ⟨w1, hw1, hb1, hr1⟩ := yb w f
 obtain ⟨w2, hw2, hb2, hr2⟩ := zN w1 c
 obtain ⟨w3, hw3⟩ : ∃ w3, w2.alloc (.cells #[.slice none 0 0, .slice none 0 0, .slice none 0 0, .int .i64 0] 32) = w3 := ⟨_, rfl⟩
 have hb3 : Below w2.heap.size w2 w3 := by rw [<- hw3]; exact zg _ _
 have hr3 : w3.heap[w2.heap.size]? = some (.cells #[.slice none 0 0, .slice none 0 0, .slice none 0 0, .int .i64 0] 32 (0, 0)) := by rw [<- hw3]; exact heap_alloc_new _ _
 have hb12 : Below w.heap.size w w2 := hb1.trans (hb2.mono hb1.size)
 have hbw : Below w.heap.size w w3 := hb12.trans (hb3.mono hb12.size)
 have h1 := za (za hr1 hb2) hb3
 have h2 := za hr2 hb3
 have Hr3 := ihq hr3; have Hbw := ihq hbw; have HW := ihq h
 have Hsz := ihq (show w.heap.size < w1.heap.size /\ w1.heap.size < w2.heap.size /\ w2.heap.size < w3.heap.size from ⟨(Array.getElem?_eq_some_iff.1 hr1).1, (Array.getElem?_eq_some_iff.1 hr2).1, (Array.getElem?_eq_some_iff.1 hr3).1⟩)
 have F := ihq (fun V (hv : Below w3.heap.size w3 V) => (zK.of (za h1 hv) (za h2 hv) : zK w w1 f c V))
 have H3 := ihq (h.below hbw)
 obtain ⟨s0, s1, s2, s3, sl, c0, c1, c2, c3⟩ := F.out w3 (Below.refl _ _)
 obtain ⟨X10, hst10, hr10, ht10⟩ := zk hr3 rfl f.p f.v f.k f.nx
 have Hr10 := ihq hr10; have Ht10 := ihq ht10
 have hk2 : ¬ c.k < 1 := by omega
 clear hr10 ht10
 clear h hb1 hb2 hb3 hb12 hbw hr1 hr2 hr3 h1 h2
 go_enter Tryz.func9, Tryz.ntmps9
 go_wp2
 refine bodyPost_ret (v := .tuple #[.agg #[.slice f.p.A f.p.n f.p.c, .slice f.v.A f.v.n f.v.c, .slice f.k.A f.k.n f.k.c, .int .i64 f.nx], .int .i64 22]) (zj rfl _ _ w2.heap.size 32 #[.slice f.p.A f.p.n f.p.c, .slice f.v.A f.v.n f.v.c, .slice f.k.A f.k.n f.k.c, .int .i64 f.nx] (0, 0) _ (.int .i64 22) rfl rfl Hr10.out Tryz.underlying32 rfl zw) rfl ?_
 exact yV (f' := f) Hbw.out H3.out (by have := Hsz.out; omega) ⟨_, Hr3.out⟩ Ht10.out rfl
theorem Qq (f : Rf) (c : Cmd) (w : World) (h : RfOk w f) (hf : Yj f.dat) (hc : yj c) :
  Calls Tryz.prog 9 #[f.val, cmdA c] w (YL (ZY f.dat c).1 (ZY f.dat c).2 w) := by
 unfold ZY
 by_cases hk : 1 <= c.k /\ c.k <= 8
 ·rw [if_pos hk]
  by_cases hE : (doR f.dat c).2 = 0
  ·rw [if_neg (fun e => e hE)]
   cases ha : admR (doR f.dat c).1 with
   | true => exact RApply_yes f c w h hf hc hk.1 hk.2 hE ha
   | false => exact RApply_rate f c w h hf hc hk.1 hk.2 hE ha
  ·rw [if_pos hE]
   exact RApply_err f c w h hf hc hk.1 hk.2 hE
 ·rw [if_neg hk]
  by_cases h1 : c.k < 1
  ·exact RApply_lo f c w h h1
  ·exact RApply_hi f c w h (by omega)
end Go.Proofs.YteebkolccbcehaaGreat
