/-
  Contract of volume's drop. Conditions: a state in memory, as find asks; a command of numbers that an int holds.
-/
import Derived.Test.YteebkolccbcehaaGreatJF
import Derived.Test.YteebkolccbcehaaGreatHeldT
set_option linter.all false
namespace Go.Proofs.YteebkolccbcehaaGreat
open Go.ChangeShapes Go.WideShapes Go.ChangeAt Go.RowKit
def cmdA (c : Cmd) : Value := .agg #[.int .i64 c.k, .int .i64 c.a, .int .i64 c.b, .int .i64 c.c, .int .i64 c.p.re, .int .i64 c.p.we, .int .i64 c.p.li, .int .i64 c.p.bu]
structure yj (c : Cmd) : Prop where
 hk : In64 c.k
 ha : In64 c.a
 hb : In64 c.b
 hc : In64 c.c
 hp : InP c.p
theorem zN (w : World) (c : Cmd) : ∃ W, w.alloc (.cells #[.int .i64 c.k, .int .i64 c.a, .int .i64 c.b, .int .i64 c.c, .int .i64 c.p.re, .int .i64 c.p.we, .int .i64 c.p.li, .int .i64 c.p.bu] 39) = W /\ Below w.heap.size w W /\
  W.heap[w.heap.size]? = some (.cells #[.int .i64 c.k, .int .i64 c.a, .int .i64 c.b, .int .i64 c.c, .int .i64 c.p.re, .int .i64 c.p.we, .int .i64 c.p.li, .int .i64 c.p.bu] 39 (0, 0)) :=
 ⟨_, rfl, zg _ _, heap_alloc_new _ _⟩
theorem Zw {w : World} {B n c g b : Nat} {A : Option Addr} {us : List Int} {cs : Array Value} {fr : Nat × Nat} (h : w.heap[g]? = some (.cells cs 82 fr)) (ho : w.ownsRow B 3 1 (.slice A n c) n (zo us)) (hb : (Value.slice A n c).ownBlock = some b) (e : b = g) : False := by
 subst e
 obtain ⟨cs', e'⟩ := zD ho hb
 rw [h] at e'
 injection e' with e'
 injection e' with _ e'
 exact absurd e' (by decide)
theorem two_lists {B b9 : Nat} {w6 w7 w8 : World} {r : Ck} {s1 s2 : Sl} {us vs : List Int} (hr8 : w8.heap[b9]? = some (.cells #[.int .i64 r.id, .int .i64 r.vo, .int .i64 r.ep, .slice r.m.A r.m.n r.m.c, .slice r.j.A r.j.n r.j.c] 82 (0, 0)))
  (ho : Zm w6 B r) (h7 : w7.ownsRow B 3 1 (.slice s1.A s1.n s1.c) s1.n (zo us)) (k7 : ∀ b, (Value.slice s1.A s1.n s1.c).ownBlock = some b -> (Value.slice r.m.A r.m.n r.m.c).ownBlock = some b) (t7 : Turned (fun k => (Value.slice r.m.A r.m.n r.m.c).ownBlock = some k) w6.drew w7)
  (h8 : w8.ownsRow B 3 1 (.slice s2.A s2.n s2.c) s2.n (zo vs)) (t8 : Turned (fun k => (Value.slice r.j.A r.j.n r.j.c).ownBlock = some k) w7 w8) (hB : B <= b9) :
  ∃ q : Ck, q.dat = ⟨r.id, r.vo, r.ep, us, vs⟩ /\ ((w8.setCell ⟨b9, 3, none⟩ (.slice s1.A s1.n s1.c)).setCell ⟨b9, 4, none⟩ (.slice s2.A s2.n s2.c)).heap[b9]? = some (.cells #[.int .i64 q.id, .int .i64 q.vo, .int .i64 q.ep, .slice q.m.A q.m.n q.m.c, .slice q.j.A q.j.n q.j.c] 82 (0, 0)) /\
   CkOk ((w8.setCell ⟨b9, 3, none⟩ (.slice s1.A s1.n s1.c)).setCell ⟨b9, 4, none⟩ (.slice s2.A s2.n s2.c)) q /\ Turned (fun k => B <= k) w6 ((w8.setCell ⟨b9, 3, none⟩ (.slice s1.A s1.n s1.c)).setCell ⟨b9, 4, none⟩ (.slice s2.A s2.n s2.c)) := by
 obtain ⟨h1, t9⟩ := ck_set2 hr8 s1 s2
 have e7 := t8.own h7 (fun k hk e => ho.ne k (k7 k hk) e)
 refine ⟨⟨r.id, r.vo, r.ep, s1, s2, us, vs⟩, rfl, h1, ⟨zQ.own (t9.own e7 fun b hb e => Zw hr8 e7 hb e), zQ.own (t9.own h8 fun b hb e => Zw hr8 h8 hb e)⟩, ?_⟩
 have t68 : Turned (fun k => B <= k) w6 w7 := (Turned.of_below (p := fun _ => False) (Below.refl _ _).drew).trans t7 (fun _ e => e.elim) (fun k _ e => (ho.m.lt k e).1)
 exact (t68.trans t8 (fun _ e => e) (fun k _ e => (ho.j.lt k e).1)).trans t9 (fun _ e => e) (fun k _ e => by subst e; exact hB)
def yC (g : Nat) (o : St × Int) (w : World) (e : Ending) (w' : World) : Prop :=
 e = .returned (.int .i64 o.2) /\ (o.2 = 0 -> StAt w' g o.1) /\ Turned (fun k => k = g) w w'
theorem yC.err {g : Nat} {s : St} {x : Int} {w w' : World} (h : Below w.heap.size w w') (hx : x ≠ 0) : yC g (s, x) w (.returned (.int .i64 x)) w' := ⟨rfl, fun e => absurd e hx, .of_below h⟩
attribute [local go_sem ↓] yd
attribute [local go_sem ↓] yv
set_option maxRecDepth 100000 in
set_option maxHeartbeats 4000000 in
theorem VDrop (g : Nat) (s : St) (c : Cmd) (w : World) (h : StAt w g s) (hf : yF s) (ho : OrdS s) (hk : c.k = 6) :
  Calls Tryz.prog 45 #[.pointer (some ⟨g, 0, none⟩), cmdA c] w (yC g (xK s c) w) := by
 unfold cmdA
 obtain ⟨w1, hw1, hb1, hr1⟩ := zN w c
 have c1 : w1.cell? ⟨w.heap.size, 1, none⟩ = some (.int .i64 c.a) := zc hr1 1
 have c2 : w1.cell? ⟨w.heap.size, 2, none⟩ = some (.int .i64 c.b) := zc hr1 2
 have H := ihq (h.below hb1); have Hb1 := ihq hb1; have Hr1 := ihq hr1
 have hgl := h.lt
 have h7 : ¬ (c.k = 7 /\ xr s c.c = false) := fun e => by omega
 unfold xK
 rw [if_neg h7]
 have Hk := ihq hk
 clear h hb1 hr1 h7 hk
 cases hfs : xL s c.a with
 | none =>
  have KE := ihq (ZK g s c.a c.b w1 H.out hf ho hfs)
  have Hb1 := Hb1
  clear hfs
  go_enter Tryz.func45, Tryz.ntmps45
  go_wp2_with fail
  refine KE.out.mono ?_
  rintro e w2 ⟨rfl, hb2⟩
  obtain ⟨wz, w3, hwz, hst9, hb3, hr3⟩ := yq w2 ck0
  simp only [ck0, Sl.nil] at hst9 hr3
  have Hb3 := ihq (Hb1.out.trans ((hb2.trans (hb3.mono hb2.size)).mono Hb1.out.size))
  clear hb2 hb3 hr3 hw1 c1 c2
  go_wp2
  go_ret
  exact yC.err Hb3.out (by decide)
 | some x =>
  obtain ⟨i, j, k⟩ := x
  simp only
  by_cases hep : k.ep ≠ c.b
  ·rw [if_pos hep]
   have KE := ihq (Z1 g s c.a c.b i j k w1 H.out hf ho hfs hep)
   clear hfs hep
   go_enter Tryz.func45, Tryz.ntmps45
   go_wp2_with fail
   refine KE.out.mono ?_
   rintro e w2 ⟨rfl, hb2⟩
   obtain ⟨wz, w3, hwz, hst9, hb3, hr3⟩ := yq w2 ck0
   simp only [ck0, Sl.nil] at hst9 hr3
   have Hb3 := ihq (Hb1.out.trans ((hb2.trans (hb3.mono hb2.size)).mono Hb1.out.size))
   clear hb2 hb3 hr3 hw1 c1 c2
   go_wp2
   go_ret
   exact yC.err Hb3.out (by decide)
  ·rw [if_neg hep]
   have hep : k.ep = c.b := Decidable.of_not_not hep
   have KE := Z0 g s c.a i j k w1 H.out hf ho hfs
   rw [hep] at KE
   replace KE := ihq KE
   have hfa := xp hfs
   have hkf := (hf.vs i hfa.1).ks k (List.mem_of_getElem? hfa.2.1)
   have Hfa := ihq hfa; have Hkf := ihq hkf; have Hf := ihq hf; have Ho := ihq ho
   have e0 : xF c k = if hasK c.c k = false then .inr 1 else if k.ms = [c.c] then .inr 9 else .inl { k with ms := zl k.ms c.c, js := zl k.js c.c } := by unfold xF; rw [if_pos Hk.out]
   rw [e0]
   clear hfs hfa hkf hf ho hep e0
   by_cases hb : hasK c.c k = false
   ·rw [if_pos hb]
    have Hb := ihq hb
    clear hb
    go_enter Tryz.func45, Tryz.ntmps45
    go_wp2_with fail
    refine KE.out.mono ?_
    rintro e w2 ⟨r, rfl, rfl, hown, hb2⟩
    unfold ckA
    obtain ⟨wz, w3, hwz, hst9, hb3, hr3⟩ := yq w2 r
    have hld := zC (CkAt.of_row hr3)
    have hown3 := hown.below hb3
    have hml : r.ms.length <= 16 := Hkf.out.ml
    have hjl : r.js.length <= 16 := Hkf.out.jl
    have KH := Vhas r c.c w3 hown3.ok (by omega) (by omega)
    have hb13 := hb2.trans (hb3.mono hb2.size)
    have hr13 := za Hr1.out hb13
    have x3 : w3.cell? ⟨w.heap.size, 3, none⟩ = some (.int .i64 c.c) := zc hr13 3
    have H3 := ihq (H.out.below hb13); have Hb13 := ihq (Hb1.out.trans (hb13.mono Hb1.out.size)); have Hr13 := ihq hr13; have Hw13 := ihq hb13; have Hr3 := ihq hr3; have Hown3 := ihq hown3
    have hs1 : w1.heap.size <= w2.heap.size := hb2.size
    have hsw : w.heap.size < w1.heap.size := (Array.getElem?_eq_some_iff.1 Hr1.out).1
    rw [Hb.out] at KH
    unfold ckA at KH
    replace KH := ihq KH
    clear hown hb2 hb3 hr3 hown3 hb13 hr13 c1 c2 hw1
    go_wp2_with (go_at_call 72; refine KH.out.mono ?_; rintro e w4 ⟨rfl, hb4⟩; have Hb4 := ihq (Hb13.out.trans (hb4.mono Hb13.out.size)); clear hb4)
    go_ret
    exact yC.err Hb4.out (by decide)
   ·rw [if_neg hb]
    have Hb := ihq (show hasK c.c k = true by simpa using hb)
    clear hb
    by_cases hm : k.ms = [c.c]
    ·rw [if_pos hm]
     have Hm := ihq hm
     clear hm
     go_enter Tryz.func45, Tryz.ntmps45
     go_wp2_with fail
     refine KE.out.mono ?_
     rintro e w2 ⟨r, rfl, rfl, hown, hb2⟩
     unfold ckA
     obtain ⟨wz, w3, hwz, hst9, hb3, hr3⟩ := yq w2 r
     have hld := zC (CkAt.of_row hr3)
     have hown3 := hown.below hb3
     have hml : r.ms.length <= 16 := Hkf.out.ml
     have hjl : r.js.length <= 16 := Hkf.out.jl
     have KH := Vhas r c.c w3 hown3.ok (by omega) (by omega)
     have hb13 := hb2.trans (hb3.mono hb2.size)
     have hr13 := za Hr1.out hb13
     have x3 : w3.cell? ⟨w.heap.size, 3, none⟩ = some (.int .i64 c.c) := zc hr13 3
     have H3 := ihq (H.out.below hb13); have Hb13 := ihq (Hb1.out.trans (hb13.mono Hb1.out.size)); have Hr13 := ihq hr13; have Hw13 := ihq hb13; have Hr3 := ihq hr3; have Hown3 := ihq hown3
     have hs1 : w1.heap.size <= w2.heap.size := hb2.size
     have hsw : w.heap.size < w1.heap.size := (Array.getElem?_eq_some_iff.1 Hr1.out).1
     rw [Hb.out] at KH
     unfold ckA at KH
     replace KH := ihq KH
     clear hown hb2 hb3 hr3 hown3 hb13 hr13 c1 c2 hw1
     go_wp2_with fail
     refine KH.out.mono ?_
     rintro e w4 ⟨rfl, hb4⟩
     have hr4 := za Hr3.out hb4
     have y3 : w4.cell? ⟨w2.heap.size, 3, none⟩ = some (.slice r.m.A r.m.n r.m.c) := zc hr4 3
     have y3c : w4.cell? ⟨w.heap.size, 3, none⟩ = some (.int .i64 c.c) := zc (za Hr13.out hb4) 3
     obtain ⟨w5, hw5⟩ : ∃ w5, w4.alloc (.cells #[.int .i64 c.c] 3) = w5 := ⟨_, rfl⟩
     have hb5 : Below w4.heap.size w4 w5 := by rw [<- hw5]; exact zg _ _
     have hr5 : w5.heap[w4.heap.size]? = some (.cells #[.int .i64 c.c] 3 (0, 0)) := by rw [<- hw5]; exact heap_alloc_new _ _
     have hone : zQ w5 ⟨some ⟨w4.heap.size, 0, none⟩, 1, 1⟩ [c.c] := ⟨rfl, Nat.le_refl _, by show 1 <= maxLen; unfold maxLen; omega, Seen.of_cells hr5, .inr ⟨_, _, _, _, rfl, hr5⟩⟩
     have hown5 := (Hown3.out.below hb4).below hb5
     have KQ := VEqual r.m _ r.ms [c.c] w5 hown5.ok.m hone (by omega)
     have Hb45 := ihq (Hb13.out.trans ((hb4.trans (hb5.mono hb4.size)).mono Hb13.out.size))
     have hd : decide (r.ms = [c.c]) = true := decide_eq_true Hm.out
     rw [hd] at KQ
     simp only at KQ
     have KQ' := ihq KQ
     clear hb4 hr4 hb5 hr5 hone hown5 KQ hd
     go_wp2_with (go_at_call 81; refine KQ'.out.mono ?_; rintro e w6 ⟨rfl, hb6⟩; have Hb6 := ihq (Hb45.out.trans (hb6.mono Hb45.out.size)); clear hb6)
     go_ret
     exact yC.err Hb6.out (by decide)
    ·rw [if_neg hm]
     have Hm := ihq hm
     clear hm
     go_enter Tryz.func45, Tryz.ntmps45
     go_wp2_with fail
     refine KE.out.mono ?_
     rintro e w2 ⟨r, rfl, rfl, hown, hb2⟩
     unfold ckA
     obtain ⟨wz, w3, hwz, hst9, hb3, hr3⟩ := yq w2 r
     have hld := zC (CkAt.of_row hr3)
     have hown3 := hown.below hb3
     have hml : r.ms.length <= 16 := Hkf.out.ml
     have hjl : r.js.length <= 16 := Hkf.out.jl
     have KH := Vhas r c.c w3 hown3.ok (by omega) (by omega)
     have hb13 := hb2.trans (hb3.mono hb2.size)
     have hr13 := za Hr1.out hb13
     have x3 : w3.cell? ⟨w.heap.size, 3, none⟩ = some (.int .i64 c.c) := zc hr13 3
     have H3 := ihq (H.out.below hb13); have Hb13 := ihq (Hb1.out.trans (hb13.mono Hb1.out.size)); have Hr13 := ihq hr13; have Hw13 := ihq hb13; have Hr3 := ihq hr3; have Hown3 := ihq hown3
     have hs1 : w1.heap.size <= w2.heap.size := hb2.size
     have hsw : w.heap.size < w1.heap.size := (Array.getElem?_eq_some_iff.1 Hr1.out).1
     rw [Hb.out] at KH
     unfold ckA at KH
     replace KH := ihq KH
     clear hown hb2 hb3 hr3 hown3 hb13 hr13 c1 c2 hw1
     go_wp2_with fail
     refine KH.out.mono ?_
     rintro e w4 ⟨rfl, hb4⟩
     have hr4 := za Hr3.out hb4
     have y3 : w4.cell? ⟨w2.heap.size, 3, none⟩ = some (.slice r.m.A r.m.n r.m.c) := zc hr4 3
     have y3c : w4.cell? ⟨w.heap.size, 3, none⟩ = some (.int .i64 c.c) := zc (za Hr13.out hb4) 3
     obtain ⟨w5, hw5⟩ : ∃ w5, w4.alloc (.cells #[.int .i64 c.c] 3) = w5 := ⟨_, rfl⟩
     have hb5 : Below w4.heap.size w4 w5 := by rw [<- hw5]; exact zg _ _
     have hr5 : w5.heap[w4.heap.size]? = some (.cells #[.int .i64 c.c] 3 (0, 0)) := by rw [<- hw5]; exact heap_alloc_new _ _
     have hone : zQ w5 ⟨some ⟨w4.heap.size, 0, none⟩, 1, 1⟩ [c.c] := ⟨rfl, Nat.le_refl _, by show 1 <= maxLen; unfold maxLen; omega, Seen.of_cells hr5, .inr ⟨_, _, _, _, rfl, hr5⟩⟩
     have hown5 := (Hown3.out.below hb4).below hb5
     have KQ := VEqual r.m _ r.ms [c.c] w5 hown5.ok.m hone (by omega)
     have hb35 := hb4.trans (hb5.mono hb4.size)
     have hd : decide (r.ms = [c.c]) = false := decide_eq_false Hm.out
     rw [hd] at KQ
     simp only at KQ
     have KQ' := ihq KQ
     have Hb35 := ihq hb35; have Hown5 := ihq hown5
     clear hb4 hr4 hb5 hr5 hone hown5 KQ hd hb35
     go_upto_region 8 with (go_at_call 81; refine KQ'.out.mono ?_; rintro e w6 ⟨rfl, hb6⟩; have Hb36 := ihq (Hb35.out.trans (hb6.mono Hb35.out.size)); have Hown6 := ihq (Hown5.out.below hb6); clear hb6)
     clear y3 y3c x3 hld hst9 hwz
     have hr6 := za Hr3.out Hb36.out
     have Hr6 := ihq hr6; have Hr16 := ihq (za Hr13.out Hb36.out)
     have d3 : w6.drew.cell? ⟨w2.heap.size, 3, none⟩ = some (.slice r.m.A r.m.n r.m.c) := zc (w := w6.drew) hr6 3
     have d4 : w6.drew.cell? ⟨w2.heap.size, 4, none⟩ = some (.slice r.j.A r.j.n r.j.c) := zc (w := w6.drew) hr6 4
     have d5 : w6.drew.cell? ⟨w.heap.size, 3, none⟩ = some (.int .i64 c.c) := zc (w := w6.drew) Hr16.out 3
     have hl6 := (Array.getElem?_eq_some_iff.1 hr6).1
     have hs6 : w3.heap.size <= w6.heap.size := Hb36.out.size
     have hs13 := Hb13.out.size
     have hs23 : w2.heap.size < w3.heap.size := (Array.getElem?_eq_some_iff.1 Hr3.out).1
     have KW1 := ihq (Qk w1.heap.size r.m r.ms c.c w6.drew (Hown6.out.below (Below.refl _ _).drew).m (by show w1.heap.size <= w6.heap.size; omega))
     clear hr6
     go_cut [6] (fun _ wx => ∃ q : Ck, q.dat = { r.dat with ms := zl r.ms c.c, js := zl r.js c.c } /\ wx.heap[w2.heap.size]? = some (.cells #[.int .i64 q.id, .int .i64 q.vo, .int .i64 q.ep, .slice q.m.A q.m.n q.m.c, .slice q.j.A q.j.n q.j.c] 82 (0, 0)) /\ CkOk wx q /\ Turned (fun k => w1.heap.size <= k) w6 wx)
     case first =>
      refine zU (S := (fun W => W.cell? ⟨w2.heap.size, 3, none⟩ = some (.slice r.m.A r.m.n r.m.c) /\ W.cell? ⟨w2.heap.size, 4, none⟩ = some (.slice r.j.A r.j.n r.j.c) /\ W.cell? ⟨w.heap.size, 3, none⟩ = some (.int .i64 c.c))) 11 (by kernel_rfl) ?_
      have hHeld := (And.intro d3 (And.intro d4 d5))
      refine zi (i := 0) (v := ?vr1) rfl (by kernel_rfl) (fun _ _ _ h => h) (Or.inl ⟨by rfl, ?hyr1⟩) hHeld ?restr1
      case hyr1 => (intro w' hS; obtain ⟨s1, s2, s3⟩ := hS; (try simp only [iq4, iq5, iq6]); go_simp; try with_reducible rfl)
      try simp only [Act.put, iq1, iq2, iq3, iq4, iq5, iq6]
      refine zi (i := 1) (v := ?vr2) rfl (by kernel_rfl) (fun _ _ _ h => h) (Or.inl ⟨by rfl, ?hyr2⟩) hHeld ?restr2
      case hyr2 => (intro w' hS; obtain ⟨s1, s2, s3⟩ := hS; (try simp only [iq4, iq5, iq6]); go_simp; try with_reducible rfl)
      try simp only [Act.put, iq1, iq2, iq3, iq4, iq5, iq6]
      refine zi (i := 2) (v := ?vr3) rfl (by kernel_rfl) (fun _ _ _ h => h) (Or.inl ⟨by rfl, ?hyr3⟩) hHeld ?restr3
      case hyr3 => (intro w' hS; obtain ⟨s1, s2, s3⟩ := hS; (try simp only [iq4, iq5, iq6]); go_simp; try with_reducible rfl)
      try simp only [Act.put, iq1, iq2, iq3, iq4, iq5, iq6]
      refine zi (i := 3) (v := ?vr4) rfl (by kernel_rfl) (fun _ _ _ h => h) (Or.inl ⟨by rfl, ?hyr4⟩) hHeld ?restr4
      case hyr4 => (intro w' hS; obtain ⟨s1, s2, s3⟩ := hS; (try simp only [iq4, iq5, iq6]); go_simp; try with_reducible rfl)
      try simp only [Act.put, iq1, iq2, iq3, iq4, iq5, iq6]
      refine zi (i := 5) (v := ?vr5) rfl (by kernel_rfl) (fun _ _ _ h => h) (Or.inl ⟨by rfl, ?hyr5⟩) hHeld ?restr5
      case hyr5 => (intro w' hS; obtain ⟨s1, s2, s3⟩ := hS; (try simp only [iq4, iq5, iq6]); go_simp; try with_reducible rfl)
      try simp only [Act.put, iq1, iq2, iq3, iq4, iq5, iq6]
      refine zi (i := 6) (v := ?vr6) rfl (by kernel_rfl) (fun _ _ _ h => h) (Or.inl ⟨by rfl, ?hyr6⟩) hHeld ?restr6
      case hyr6 => (intro w' hS; obtain ⟨s1, s2, s3⟩ := hS; (try simp only [iq4, iq5, iq6]); go_simp; try with_reducible rfl)
      try simp only [Act.put, iq1, iq2, iq3, iq4, iq5, iq6]
      refine zi (i := 7) (v := ?vr7) rfl (by kernel_rfl) (fun _ _ _ h => h) (Or.inl ⟨by rfl, ?hyr7⟩) hHeld ?restr7
      case hyr7 => (intro w' hS; obtain ⟨s1, s2, s3⟩ := hS; (try simp only [iq4, iq5, iq6]); go_simp; try with_reducible rfl)
      try simp only [Act.put, iq1, iq2, iq3, iq4, iq5, iq6]
      refine zi (i := 8) (v := ?vr8) rfl (by kernel_rfl) (fun _ _ _ h => h) (Or.inl ⟨by rfl, ?hyr8⟩) hHeld ?restr8
      case hyr8 => (intro w' hS; obtain ⟨s1, s2, s3⟩ := hS; (try simp only [iq4, iq5, iq6]); go_simp; try with_reducible rfl)
      try simp only [Act.put, iq1, iq2, iq3, iq4, iq5, iq6]
      refine zn (i := 4) (by kernel_rfl) rfl (fun K hK => ?_)
      (try simp only [iq4, iq5, iq6])
      go_simp
      refine KW1.out.mono ?_
      rintro e w7 ⟨s1, rfl, hown7, hbk7, ht7⟩
      have Hown7 := ihq hown7
      have Ht7 := ihq ht7
      have Hbk7 := ihq hbk7
      have NM := ihq (fun b (hb : (Value.slice r.m.A r.m.n r.m.c).ownBlock = some b) (e : b = w2.heap.size) => Zw Hr6.out Hown6.out.m hb e)
      have NJ := ihq (fun b (hb : (Value.slice r.j.A r.j.n r.j.c).ownBlock = some b) (e : b = w2.heap.size) => Zw Hr6.out Hown6.out.j hb e)
      have Hr7 := ihq (ht7.heap (w := w6.drew) Hr6.out (fun e => NM.out _ e rfl))
      have g3 : w7.cell? ⟨w2.heap.size, 3, none⟩ = some (.slice r.m.A r.m.n r.m.c) := zc Hr7.out 3
      have g4 : w7.cell? ⟨w2.heap.size, 4, none⟩ = some (.slice r.j.A r.j.n r.j.c) := zc Hr7.out 4
      have g5 : w7.cell? ⟨w.heap.size, 3, none⟩ = some (.int .i64 c.c) := zc (ht7.heap (w := w6.drew) Hr16.out (fun e => by have := (Hown6.out.m.lt _ e).1; omega)) 3
      have Hoj7 := ihq (ht7.own (w := w6.drew) Hown6.out.j (fun b hb e => Hown6.out.ne b e hb))
      have KW2 := ihq (Qk w1.heap.size r.j r.js c.c w7 Hoj7.out (by have := ht7.size; show w1.heap.size <= w7.heap.size; have e6 : w6.drew.heap.size = w6.heap.size := rfl; omega))
      clear hown7 ht7 hbk7
      refine hK.out _ _ (fun _ => (And.intro g3 (And.intro g4 g5))) ?_
      clear hHeld
      have hHeld := (And.intro g3 (And.intro g4 g5))
      clear hK K
      try simp only [Act.put, iq1, iq2, iq3, iq4, iq5, iq6]
      refine zi (i := 10) (v := ?vr9) rfl (by kernel_rfl) (fun _ _ _ h => h) (Or.inl ⟨by rfl, ?hyr9⟩) hHeld ?restr9
      case hyr9 => (intro w' hS; obtain ⟨s1, s2, s3⟩ := hS; (try simp only [iq4, iq5, iq6]); go_simp; try with_reducible rfl)
      try simp only [Act.put, iq1, iq2, iq3, iq4, iq5, iq6]
      refine zn (i := 9) (by kernel_rfl) rfl (fun K hK => ?_)
      (try simp only [iq4, iq5, iq6])
      go_simp
      refine KW2.out.mono ?_
      rintro e w8 ⟨s2, rfl, hown8, hbk8, ht8⟩
      have Hown8 := ihq hown8
      have Ht8 := ihq ht8
      have hr8 := ht8.heap Hr7.out (fun e => NJ.out _ e rfl)
      have f3 : w8.cell? ⟨w2.heap.size, 3, none⟩ = some (.slice r.m.A r.m.n r.m.c) := zc hr8 3
      have f4 : w8.cell? ⟨w2.heap.size, 4, none⟩ = some (.slice r.j.A r.j.n r.j.c) := zc hr8 4
      have f5 : w8.cell? ⟨w.heap.size, 3, none⟩ = some (.int .i64 c.c) := by
       rw [<- g5]; exact World.cell?_of_block (w := w7) (ht8.block w.heap.size (block_lt_of_cell g5) (fun e => by have := (Hown6.out.j.lt _ e).1; omega))
      have z3 := zt hr8 3
      have z4 := zt hr8 4
      have Hr8 := ihq hr8
      clear hown8 ht8 hr8 hbk8
      refine hK.out _ _ (fun _ => (And.intro f3 (And.intro f4 f5))) ?_
      clear hHeld
      have hHeld := (And.intro f3 (And.intro f4 f5))
      clear hK K
      try simp only [Act.put, iq1, iq2, iq3, iq4, iq5, iq6]
      refine zn (i := 11) (by kernel_rfl) rfl (fun K hK => ?_)
      (try simp only [iq4, iq5, iq6])
      go_simp
      refine hK.out _ _ (fun h => (by cases h)) ?_
      clear hK K
      try simp only [Act.put, iq1, iq2, iq3, iq4, iq5, iq6]
      refine zn (i := 12) (by kernel_rfl) rfl (fun K hK => ?_)
      (try simp only [iq4, iq5, iq6])
      go_simp
      refine hK.out _ _ (fun h => (by cases h)) ?_
      clear hK K
      try simp only [Act.put, iq1, iq2, iq3, iq4, iq5, iq6]
      refine zn (i := 13) (by kernel_rfl) rfl (fun K hK => ?_)
      (try simp only [iq4, iq5, iq6])
      go_simp
      refine hK.out _ _ (fun h => (by cases h)) ?_
      clear hK K
      try simp only [Act.put, iq1, iq2, iq3, iq4, iq5, iq6]
      refine zu (by kernel_rfl) ?_ _
      go_wp2
      go_meet
      exact two_lists Hr8.out Hown6.out Hown7.out Hbk7.out Ht7.out Hown8.out Ht8.out (by omega)
     case rest =>
      obtain ⟨q, hq, hrq, hokq, htq⟩ := hcut
      have hldq := zC (CkAt.of_row hrq)
      have hbc : Below w1.heap.size w1 wc := (Hw13.out.trans (Hb36.out.mono Hw13.out.size)).trans (htq.below (fun _ e => e) (by have := Hw13.out.size; omega))
      have hid : q.id = r.dat.id := congrArg Chk.id hq
      have hep2 : q.ep = r.dat.ep := congrArg Chk.ep hq
      have hfe := Hkf.out.ep
      have hfid : r.dat.id = c.a := Hfa.out.2.2
      have KR := Vrenew g s i j r.dat q wc (H.out.below hbc) Hf.out Ho.out ⟨Hfa.out.1, Hfa.out.2.1, hid.symm⟩ hokq (by rw [hep2]; exact hfe.1) (by rw [hep2]; exact hfe.2)
      unfold ckA at KR
      have KR' := ihq KR; have Hq := ihq hq; have Hbc := ihq hbc
      clear hq hrq hokq htq hid hep2 hfe hfid KR hbc KW1 d3 d4 d5 hw5
      go_wp2_with (go_at_call 83; refine KR'.out.mono ?_; rintro e w10 ⟨rfl, hst10, ht10⟩; have Hst := ihq hst10; have Ht := ihq ht10; clear hst10 ht10)
      go_ret
      refine ⟨rfl, fun _ => ?_, (Turned.of_below (p := fun k => k = g) (Hb1.out.trans (Hbc.out.mono Hb1.out.size))).trans Ht.out (fun _ e => e) (fun _ _ e => e)⟩
      have := Hst.out
      rw [Hq.out] at this
      exact this
end Go.Proofs.YteebkolccbcehaaGreat
