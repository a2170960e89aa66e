/-
  Joined: VolRgt, Byt13. Conditions: each theorem's own.
-/
import Derived.Test.YteebkolccbcehaaGreatKA
import Derived.Test.YteebkolccbcehaaGreatJF
import Derived.Test.YteebkolccbcehaaGreatJW
import Derived.Test.YteebkolccbcehaaGreatJE
import Derived.Test.YteebkolccbcehaaGreatJY
import Derived.Deep.DeepCutAuto
import Derived.Test.YteebkolccbcehaaGreatJZ

section
set_option linter.all false
namespace Go.Proofs.YteebkolccbcehaaGreat
open Go.ChangeShapes Go.WideShapes Go.ChangeAt Go.RowKit Go.Shelf Go.Sort
def badI (md : Int) (ids : List Int) : Bool := repS ids || (decide (0 < ids.length) && (decide (ids.getD 0 0 < 1) || decide (md < ids.getD (ids.length - 1) 0)))
def volR (s : St) (i : Nat) : Bool := decide (1 <= (s.vs i).ver) && (s.vs i).ks.all (okK s)
def xY (s : St) : Bool := !badI s.md (yZ (idsK (zX s 64))) && ((yp s 64).all (volR s) && admS s)
attribute [local irreducible] wpQuiet
set_option maxRecDepth 100000 in
set_option maxHeartbeats 4000000 in
theorem Vright (g : Nat) (s : St) (w : World) (h : StAt w g s) (hl : LdS s) :
  Calls Tryz.prog 24 #[.pointer (some ⟨g, 0, none⟩)] w fun e w' => e = .returned (.bool (xY s)) /\ Below w.heap.size w w' := by
 have hf := hl.fit
 have K1 := ihq (VChunks g s w h hf)
 obtain ⟨ids, hids⟩ : ∃ l, yZ (idsK (zX s 64)) = l := ⟨_, rfl⟩
 have hlen : ids.length <= 4096 := by
  rw [<- hids, xN]
  unfold idsK
  rw [List.length_map]
  exact Yu hf 64 (Nat.le_refl _)
 rw [hids] at K1
 have hdef : xY s = (!badI s.md ids && ((yp s 64).all (volR s) && admS s)) := by unfold xY; rw [hids]
 have H := ihq h; have Hl := ihq hl; have Hdef := ihq hdef; have Hf := ihq hf
 obtain ⟨n, hn⟩ : ∃ n, ids.length = n := ⟨_, rfl⟩
 rw [hn] at hlen
 have Hn := ihq hn
 clear h hl hids hdef hf hn
 go_enter Tryz.func24, Tryz.ntmps24
 go_wp2_with fail
 refine K1.out.mono ?_
 rintro e w1 ⟨A, c, rfl, hown, hb1⟩
 have el : (zo ids).length = n := by rw [zz, Hn.out]
 rw [el] at hown
 rw [el]
 have Hb1 := ihq hb1; have Hs1 := ihq (Seen.of_own hown); have H1 := ihq (H.out.below hb1)
 clear hown hb1 el K1
 go_upto_region 2 with fail
 go_cut [34] (fun bv wx => bv = .bool (badI s.md ids) /\ Below w1.heap.size w1 wx)
 case first =>
  have KR := ihq (fun (p : zO w1) => VRepeats A n c ids p.v Hn.out (by omega) (Hs1.out.below p.h))
  obtain ⟨B1, hB1⟩ : ∃ b, repS ids = b := ⟨_, rfl⟩
  have hdb : badI s.md ids = (B1 || (decide (0 < n) && (decide (ids.getD 0 0 < 1) || decide (s.md < ids.getD (n - 1) 0)))) := by unfold badI; rw [hB1, Hn.out]
  have Hdb := ihq hdb
  rw [hB1] at KR
  clear hdb hB1
  cases B1 with
  | true =>
   refine zB (by kernel_rfl) (by kernel_rfl) ?_
   repeat (quiet_step (exact Calls.below_of (KR.out _)))
   refine wpQuiet_nil ?_
   rintro _ ⟨⟨w2, hb2⟩, hw2⟩
   subst hw2
   go_wp2
   go_meet
   exact ⟨by rw [Hdb.out]; rfl, hb2⟩
  | false =>
   by_cases h0 : n = 0
   ·subst h0
    refine zB (by kernel_rfl) (by kernel_rfl) ?_
    repeat (quiet_step (exact Calls.below_of (KR.out _)))
    refine wpQuiet_nil ?_
    rintro _ ⟨⟨w2, hb2⟩, hw2⟩
    subst hw2
    go_wp2
    go_meet
    exact ⟨by rw [Hdb.out]; rfl, hb2⟩
   ·obtain ⟨m, hm⟩ : ∃ m, n = m + 1 := ⟨n - 1, by omega⟩
    have hm1 : n - 1 = m := by omega
    obtain ⟨gi, oi, x0, rfl, hx0, hc0⟩ := Hs1.out.num (j := 0) (by rw [Hn.out]; omega)
    obtain ⟨gj, oj, x1, e1, hx1, hc1⟩ := Hs1.out.num (j := m) (by rw [Hn.out]; omega)
    injection e1 with e1
    injection e1 with e1 e2
    subst e1
    subst e2
    obtain ⟨cs, K, X, hC⟩ := H1.out
    have hcm : w1.cell? ⟨g, 464, none⟩ = some (.int .i64 s.md) := by rw [hC.cell]; exact hC.md
    have f0 : ∀ p : zO w1, p.v.cell? ⟨gi, oi, none⟩ = some (.int .i64 x0) := fun p => (p.h.cell (p := ⟨gi, oi, none⟩) (by have := block_lt_of_cell hc0; exact this)).trans hc0
    have f1 : ∀ p : zO w1, p.v.cell? ⟨gi, oi + m, none⟩ = some (.int .i64 x1) := fun p => (p.h.cell (p := ⟨gi, oi + m, none⟩) (by have := block_lt_of_cell hc1; exact this)).trans hc1
    have f2 : ∀ p : zO w1, p.v.cell? ⟨g, 464, none⟩ = some (.int .i64 s.md) := fun p => (p.h.cell (p := ⟨g, 464, none⟩) (by have := block_lt_of_cell hcm; exact this)).trans hcm
    have hd0 : ids.getD 0 0 = x0 := by rw [List.getD_eq_getElem?_getD, hx0]; rfl
    have hd1 : ids.getD m 0 = x1 := by rw [List.getD_eq_getElem?_getD, hx1]; rfl
    rw [hm1, hd0, hd1, decide_eq_true (show 0 < n by omega)] at Hdb
    have Hdb2 : Hid (badI s.md ids = (decide (x0 < 1) || decide (s.md < x1))) := ihq (by rw [Hdb.out]; simp)
    have m0 : (0 : Int) <= (m : Int) := by omega
    have m1 : (0 : Int) < (n : Int) := by omega
    have m3 : (n : Int) - 1 = (m : Int) := by omega
    have m4 : (m : Int) < (n : Int) := by omega
    have m5 : 0 < n := by omega
    have m6 : m < n := by omega
    have m2 : (m : Int) <= 9223372036854775807 := by omega
    have mw : IntKind.i64.wrap (m : Int) = (m : Int) := by rw [IntKind.wrap_i64]; omega
    clear hx0 hx1 hc0 hc1 hC hcm hd0 hd1 Hdb h0 hm hm1
    by_cases h1 : x0 < 1
    ·refine zB (by kernel_rfl) (by kernel_rfl) ?_
     repeat (quiet_step (exact Calls.below_of (KR.out _)))
     refine wpQuiet_nil ?_
     rintro _ ⟨⟨w2, hb2⟩, hw2⟩
     subst hw2
     go_wp2
     go_meet
     exact ⟨by rw [Hdb2.out, decide_eq_true (by omega : x0 < 1)]; rfl, hb2⟩
    ·by_cases h2 : s.md < x1
     ·have h2' : x1 > s.md := h2
      refine zB (by kernel_rfl) (by kernel_rfl) ?_
      repeat (quiet_step (exact Calls.below_of (KR.out _)))
      refine wpQuiet_nil ?_
      rintro _ ⟨⟨w2, hb2⟩, hw2⟩
      subst hw2
      go_wp2
      go_meet
      exact ⟨by rw [Hdb2.out, decide_eq_false (by omega : ¬ x0 < 1), decide_eq_true (by omega : s.md < x1)]; rfl, hb2⟩
     ·have h2' : ¬ x1 > s.md := h2
      refine zB (by kernel_rfl) (by kernel_rfl) ?_
      repeat (quiet_step (exact Calls.below_of (KR.out _)))
      refine wpQuiet_nil ?_
      rintro _ ⟨⟨w2, hb2⟩, hw2⟩
      subst hw2
      go_wp2
      go_meet
      exact ⟨by rw [Hdb2.out, decide_eq_false (by omega : ¬ x0 < 1), decide_eq_false (by omega : ¬ s.md < x1)]; rfl, hb2⟩
 case rest =>
  obtain ⟨rfl, hb2⟩ := hcut
  have Hb2 := ihq (Hb1.out.trans (hb2.mono Hb1.out.size)); have H2 := ihq (H1.out.below hb2)
  clear hb2
  obtain ⟨bad, hbad⟩ : ∃ b, badI s.md ids = b := ⟨_, rfl⟩
  rw [hbad] at Hdef
  rw [hbad]
  clear hbad
  cases bad with
  | true =>
   go_wp2
   go_ret
   exact ⟨by rw [Hdef.out]; rfl, Hb2.out⟩
  | false =>
   have KV := ihq (Ql g s wc H2.out)
   obtain ⟨L, hL⟩ : ∃ L, yp s 64 = L := ⟨_, rfl⟩
   have hLm : ∀ x ∈ L, x < 64 := fun x hx => by rw [<- hL] at hx; exact (xW hx).1
   have hLl : L.length <= 64 := by rw [<- hL]; exact Zq s 64
   rw [hL] at KV Hdef
   obtain ⟨N, hN⟩ : ∃ N, L.length = N := ⟨_, rfl⟩
   rw [hN] at KV hLl
   have HLm := ihq hLm; have HN := ihq hN
   clear hL hLm hN
   go_wp2_with fail
   refine KV.out.mono ?_
   rintro e w3 ⟨A3, c3, rfl, hown3, hb3⟩
   have Hs3 := ihq (ye hown3); have Hb3 := ihq (Hb2.out.trans (hb3.mono Hb2.out.size)); have H3 := ihq (H2.out.below hb3)
   clear hown3 hb3 KV
   go_wp2_with fail
   go_loopw [38] (fun iv wr => ∃ t : Nat, t <= N /\ iv = .int .i64 (t : Int) /\ (L.take t).all (volR s) = true /\ Below w3.heap.size w3 wr) (fun iv _ => N - (intOf iv).toNat)
   case atStart => exact ⟨0, by omega, rfl, rfl, Below.refl _ _⟩
   case round =>
    obtain ⟨t, ht, rfl, hok, hb⟩ := hrel
    by_cases hlt : t < N
    ·obtain ⟨x, hx⟩ : ∃ x, L[t]? = some x := ⟨_, List.getElem?_eq_getElem (by have := HN.out; omega)⟩
     have hxL : x ∈ L := List.mem_of_getElem? hx
     have hx64 : x < 64 := HLm.out x hxL
     obtain ⟨ga, oa, hA, hcx⟩ : ∃ ga oa, A3 = some ⟨ga, oa, none⟩ /\ wr.cell? ⟨ga, oa + t, none⟩ = some (.int .i64 (x : Int)) := by
      have hs := Hs3.out.below hb
      obtain ⟨ga, oa, y, hA, hy, hc⟩ := hs.num (j := t) (by unfold toI; rw [List.length_map, HN.out]; exact hlt)
      unfold toI at hy
      rw [List.getElem?_map, hx] at hy
      simp only [Option.map_some, Option.some.injEq] at hy
      subst hy
      exact ⟨ga, oa, hA, hc⟩
     subst hA
     have htk : L.take (t + 1) = L.take t ++ [x] := by
      obtain ⟨e1, e2⟩ := List.getElem?_eq_some_iff.1 hx
      rw [List.take_succ_eq_append_getElem e1, e2]
     obtain ⟨cs, K, X, hC⟩ := H3.out.below hb
     have d5 : wr.cell? ⟨g, 16 + x * 7 + 5, none⟩ = some (.int .i64 (s.vs x).ver) := by rw [hC.cell]; exact hC.c5 x hx64
     have d6 : wr.cell? ⟨g, 16 + x * 7 + 6, none⟩ = some (.slice (K x).A (K x).n (K x).c) := by rw [hC.cell]; exact hC.c6 x hx64
     have hXl : (X x).length <= 64 := by
      have := (Hf.out.vs x hx64).kl
      rw [<- hC.dat x hx64, List.length_map] at this
      exact this
     have hX4 : ∀ k ∈ X x, k.ms.length <= 4 /\ k.js.length <= 4 := fun k hk => Hl.out.four x hx64 k.dat (by rw [<- hC.dat x hx64]; exact List.mem_map_of_mem hk)
     have KA := ihq (VallRight g s (K x) (X x) wr ⟨cs, K, X, hC⟩ (hC.ks x hx64) hXl hX4)
     rw [hC.dat x hx64] at KA
     obtain ⟨ar, har⟩ : ∃ b, (s.vs x).ks.all (okK s) = b := ⟨_, rfl⟩
     have hvr : volR s x = (decide (1 <= (s.vs x).ver) && ar) := by unfold volR; rw [har]
     rw [har] at KA
     obtain ⟨SK, hSK⟩ : ∃ S, K x = S := ⟨_, rfl⟩
     rw [hSK] at d6 KA
     obtain ⟨kA, kn, kc⟩ := SK
     simp only at d6
     clear hSK
     obtain ⟨ver, hver⟩ : ∃ z, (s.vs x).ver = z := ⟨_, rfl⟩
     rw [hver] at d5 hvr
     have x0 : (0 : Int) <= (x : Int) := by omega
     have x64 : (x : Int) < 64 := by omega
     have t0 : (0 : Int) <= (t : Int) := by omega
     have tN : (t : Int) < (N : Int) := by omega
     have Htk := ihq htk; have Hvr := ihq hvr; have Hok := ihq hok; have Hb := ihq hb; have HxL := ihq hxL
     have hbad : ∀ V, Below w3.heap.size w3 V -> volR s x = false -> Below w.heap.size w V /\ xY s = false := fun V hV hv => ⟨Hb3.out.trans (hV.mono Hb3.out.size), by
      rw [Hdef.out]
      have : L.all (volR s) = false := by rw [List.all_eq_false]; exact ⟨x, HxL.out, by rw [hv]; simp⟩
      rw [this]; rfl⟩
     have Hbad := ihq hbad
     clear hbad hxL hx htk hC hXl hX4 har hvr hok hb hver
     by_cases hv1 : ver < 1
     ·go_wp2
      go_ret
      obtain ⟨r1, r2⟩ := Hbad.out _ Hb.out (by rw [Hvr.out, decide_eq_false (by omega : ¬ 1 <= ver)]; rfl)
      exact ⟨by rw [r2]; rfl, r1⟩
     ·go_wp2_with fail
      refine KA.out.mono ?_
      rintro e w4 ⟨rfl, hb4⟩
      have Hb4 := ihq (Hb.out.trans (hb4.mono Hb.out.size))
      clear hb4
      cases ar with
      | false =>
       go_wp2
       go_ret
       obtain ⟨r1, r2⟩ := Hbad.out _ Hb4.out (by rw [Hvr.out]; simp)
       exact ⟨by rw [r2]; rfl, r1⟩
      | true =>
       have hg : volR s x = true := by rw [Hvr.out, decide_eq_true (by omega : 1 <= ver)]; rfl
       have Hg := ihq hg
       clear hg
       go_wp2
       go_roundw
       case rel => exact ⟨t + 1, by omega, by go_num, by rw [Htk.out, List.all_append, Hok.out]; simp [Hg.out], Hb4.out⟩
       case measure => simp [intOf]; omega
    ·obtain rfl : t = N := by omega
     rw [List.take_of_length_le (by rw [HN.out]; omega)] at hok
     have KD := ihq (Q2 g s wr (H3.out.below hb) Hf.out)
     obtain ⟨ad, had⟩ : ∃ b, admS s = b := ⟨_, rfl⟩
     rw [had] at KD
     have hend : xY s = ad := by rw [Hdef.out, hok, had]; rfl
     have Hend := ihq hend; have Hb := ihq hb
     clear hend hok had hb
     go_wp2_with fail
     refine KD.out.mono ?_
     rintro e w4 ⟨rfl, hb4⟩
     have Hb4 := ihq (Hb3.out.trans ((Hb.out.trans (hb4.mono Hb.out.size)).mono Hb3.out.size))
     clear hb4
     go_wp2
     go_ret
     exact ⟨by rw [Hend.out]; rfl, Hb4.out⟩
end Go.Proofs.YteebkolccbcehaaGreat
end

section
set_option linter.all false
namespace Go.Proofs.YteebkolccbcehaaGreat
open Go.Sort
theorem pkT_at (pk : Nat -> Int) : ∀ (l : List Nat) (f : Nat -> Int) (i : Nat), pkT pk f l i = if i ∈ l then pk i else f i
 | [], f, i => by simp [pkT]
 | x :: l, f, i => by
  have := pkT_at pk l (setPk f x (pk x)) i
  rw [show pkT pk f (x :: l) = pkT pk (setPk f x (pk x)) l from rfl, this]
  by_cases hl : i ∈ l
  ·rw [if_pos hl, if_pos (List.mem_cons_of_mem _ hl)]
  ·rw [if_neg hl]
   unfold setPk
   by_cases e : i = x
   ·subst e; simp
   ·rw [if_neg (by omega), if_neg (by simp [e, hl])]
theorem vsT_at (s : St) : ∀ (l : List Nat) (s0 : St), (vsT s s0 l).pk = s0.pk /\ (vsT s s0 l).md = s0.md /\ ∀ i, (vsT s s0 l).vs i = if i ∈ l then s.vs i else s0.vs i
 | [], s0 => ⟨rfl, rfl, fun i => by simp [vsT]⟩
 | x :: l, s0 => by
  obtain ⟨h1, h2, h3⟩ := vsT_at s l (setV s0 x (s.vs x))
  rw [show vsT s s0 (x :: l) = vsT s (setV s0 x (s.vs x)) l from rfl]
  refine ⟨h1, h2, fun i => ?_⟩
  rw [h3]
  by_cases hl : i ∈ l
  ·rw [if_pos hl, if_pos (List.mem_cons_of_mem _ hl)]
  ·rw [if_neg hl]
   by_cases e : i = x
   ·subst e; rw [zE]; simp
   ·rw [zA e, if_neg (by simp [e, hl])]
theorem lastK_take {l : List Chk} {j : Nat} {k : Chk} (h : l[j]? = some k) : ∃ x, l.take (j + 1) = l.take j ++ [k] /\ x = yT 0 (l.take (j + 1)) /\ x = k.id := by
 obtain ⟨h1, h2⟩ := List.getElem?_eq_some_iff.1 h
 have e : l.take (j + 1) = l.take j ++ [k] := by rw [List.take_succ_eq_append_getElem h1, h2]
 exact ⟨_, e, rfl, by rw [e, ZW]⟩
theorem Yk.volB {pk : Nat -> Int} {md n : Int} {i : Nat} {v : Vol} (h : Yk pk md n i v) (hr : Zl v.ks) (hi : i < 64) (hn : n <= 1000) (hmd : md <= 64000) : VolB (i : Int) v := by
 have hf := h.fit hi (by omega) (by omega)
 refine ⟨h.bl, hf.p, ?_, ?_, h.kl, fun j k hj => ?_⟩
 ·by_cases hb : v.bl = 0
  ·rw [h.zero hb]; simp [vol0, pol0]
  ·obtain ⟨h1, h2, h3, h4, _⟩ := (YD v.p).1 (h.p hb)
   omega
 ·unfold zH
  by_cases hb : v.bl = 0
  ·rw [h.zero hb]; simp [vol0]
  ·have := h.ver hb; omega
 ·have hg := h.ks k (List.mem_of_getElem? hj)
  have hk := hf.ks k (List.mem_of_getElem? hj)
  have hlast : 0 <= yT 0 (v.ks.take j) /\ yT 0 (v.ks.take j) <= k.id := by
   cases j with
   | zero => simp [yT]; exact hk.id.1
   | succ j =>
    obtain ⟨k0, hk0⟩ : ∃ k0, v.ks[j]? = some k0 := ⟨_, List.getElem?_eq_getElem (by have := (List.getElem?_eq_some_iff.1 hj).1; omega)⟩
    obtain ⟨x, _, e1, e2⟩ := lastK_take hk0
    rw [<- e1, e2]
    obtain ⟨a1, a2⟩ := List.getElem?_eq_some_iff.1 hk0
    obtain ⟨b1, b2⟩ := List.getElem?_eq_some_iff.1 hj
    have := List.pairwise_iff_getElem.1 hr j (j + 1) a1 b1 (by omega)
    rw [a2, b2] at this
    have h0 := (h.ks k0 (List.mem_of_getElem? hk0)).id.1
    omega
  have := hg.id
  have := hg.ep
  have := hg.len
  exact ⟨by unfold zH; omega, hg.vo, by unfold zH; omega, hk.ms, hk.js, by omega, by omega⟩
theorem yy.stB {n : Int} {s : St} (h : yy n s) (hn0 : 0 <= n) (hn : n <= 1000) : StB s :=
 ⟨by unfold zH; have := h.md; omega, fun i hi => by have := h.pk i hi; omega, fun i hi => (h.vs i hi).volB (h.ord.rise i hi) hi hn (by have := h.md; omega)⟩
theorem XW {n : Int} {s : St} (h : yy n s) (ht : Tid s) (hn0 : 0 <= n) (hn : n <= 1000) : Zt (y6 s) = ⟨s, [], 0⟩ := by
 rw [loadS_put (h.stB hn0 hn)]
 obtain ⟨h1, h2, h3⟩ := vsT_at s (yp s 64) { st0 with md := s.md, pk := pkT s.pk (fun _ => 0) (zm s.pk) }
 obtain ⟨t, hte⟩ : ∃ t, vsT s { st0 with md := s.md, pk := pkT s.pk (fun _ => 0) (zm s.pk) } (yp s 64) = t := ⟨_, rfl⟩
 rw [hte] at h1 h2 h3 ⊢
 have e1 : t.pk = s.pk := by
  rw [h1]
  funext i
  show pkT s.pk (fun _ => 0) (zm s.pk) i = s.pk i
  rw [pkT_at]
  split
  ·rfl
  ·rename_i hi
   by_cases h16 : i < 16
   ·have hp := h.pk i h16
    have : ¬ 0 < s.pk i := fun e => hi (by unfold zm; rw [List.mem_filter, List.mem_range]; exact ⟨h16, by simpa using e⟩)
    omega
   ·rw [ht.pk i (by omega)]
 have e2 : t.vs = s.vs := by
  funext i
  rw [h3]
  split
  ·rfl
  ·rename_i hi
   show vol0 = s.vs i
   by_cases h64 : i < 64
   ·have : (s.vs i).bl = 0 := by
     by_cases e : (s.vs i).bl = 0
     ·exact e
     ·exact absurd (by unfold yp; rw [List.mem_filter, List.mem_range]; exact ⟨h64, by simpa using e⟩) hi
    rw [(h.vs i h64).zero this]
   ·rw [ht.vs i (by omega)]
 obtain ⟨tp, tv, tm⟩ := t
 obtain ⟨sp, sv, sm⟩ := s
 simp only at e1 e2 h2
 subst e1; subst e2
 rw [h2]
theorem OrdS.nodup {s : St} (h : OrdS s) : ∀ n, n <= 64 -> (idsK (zX s n)).Nodup
 | 0, _ => by simp [zX, idsK]
 | n + 1, hn => by
  rw [Yh, List.nodup_append]
  refine ⟨h.nodup n (by omega), ?_, ?_⟩
  ·unfold idsK List.Nodup
   rw [List.pairwise_map]
   exact (h.rise n (by omega)).imp fun hab e => by omega
  ·intro a ha b hb e
   subst e
   obtain ⟨k, hk, e1⟩ := List.mem_map.1 ha
   obtain ⟨k', hk', e2⟩ := List.mem_map.1 hb
   unfold zX at hk
   obtain ⟨i, hi, hki⟩ := List.mem_flatMap.1 hk
   rw [List.mem_range] at hi
   have := h.one i n (by omega) (by omega) k hki k' hk' (by rw [e1, e2])
   omega
theorem mem_ids {s : St} {x : Int} (h : x ∈ yZ (idsK (zX s 64))) : ∃ i, i < 64 /\ ∃ k ∈ (s.vs i).ks, k.id = x := by
 unfold yZ at h
 rw [List.mem_mergeSort] at h
 unfold idsK at h
 obtain ⟨k, hk, rfl⟩ := List.mem_map.1 h
 unfold zX at hk
 obtain ⟨i, hi, hki⟩ := List.mem_flatMap.1 hk
 exact ⟨i, List.mem_range.1 hi, k, hki, rfl⟩
theorem sort_nodup {l : List Int} (h : l.Nodup) : (yZ l).Nodup := (List.mergeSort_perm l _).nodup_iff.2 h
theorem rightS_good {n : Int} {s : St} (h : xS n s) (ht : Tid s) : xY s = true := by
 have hd := h.d
 have hbad : badI s.md (yZ (idsK (zX s 64))) = false := by
  unfold badI
  rw [XS (sort_nodup (hd.ord.nodup 64 (Nat.le_refl _)))]
  obtain ⟨ids, hids⟩ : ∃ l, yZ (idsK (zX s 64)) = l := ⟨_, rfl⟩
  have hg : ∀ x ∈ ids, 1 <= x /\ x <= s.md := fun x hx => by
   rw [<- hids] at hx
   obtain ⟨i, hi, k, hk, rfl⟩ := mem_ids hx
   exact ((hd.vs i hi).ks k hk).id
  rw [hids]
  by_cases h0 : ids.length = 0
  ·simp [h0]
  ·have g0 := hg (ids.getD 0 0) (by rw [List.getD_eq_getElem?_getD, List.getElem?_eq_getElem (by omega)]; exact List.getElem_mem _)
   have g1 := hg (ids.getD (ids.length - 1) 0) (by rw [List.getD_eq_getElem?_getD, List.getElem?_eq_getElem (by omega)]; exact List.getElem_mem _)
   rw [decide_eq_false (by omega : ¬ ids.getD 0 0 < 1), decide_eq_false (by omega : ¬ s.md < ids.getD (ids.length - 1) 0)]
   simp
 have hvol : (yp s 64).all (volR s) = true := by
  rw [List.all_eq_true]
  intro i hi
  obtain ⟨h64, hb⟩ := xW hi
  have hv := hd.vs i h64
  have hver := hv.ver hb
  unfold volR
  rw [decide_eq_true hver.1, Bool.true_and, List.all_eq_true]
  intro k hk
  have hg := hv.ks k hk
  have hep := ht.ep i k hk
  have hlen := hg.len
  have hne : 1 <= k.ms.length := by
   cases hm : k.ms with
   | nil => exact absurd hm hg.ne
   | cons _ _ => simp
  unfold okK
  rw [XS hg.nd, decide_eq_true hne, decide_eq_true hlen, decide_eq_true hep]
  have : ((k.ms ++ k.js).any fun x => !xr s x) = false := by
   rw [List.any_eq_false]
   intro x hx
   have hs := hg.srv x hx
   unfold srvP at hs
   unfold xr
   rw [decide_eq_true (⟨hs.1, hs.2.1⟩ : 0 <= x /\ x <= 15), decide_eq_true hs.2.2]
   simp
  rw [this]
  rfl
 unfold xY
 rw [hbad, hvol, h.adm]
 rfl
end Go.Proofs.YteebkolccbcehaaGreat
end
