/-
  Contract of dotterelref18's chunk where a server joins. Conditions: a state whose rows are its own, a command of numbers that an int holds.
-/
import Derived.Test.YtmdmpliiiecmlaaGreatRfCh8
namespace Go.Proofs.YtmdmpliiiecmlaaGreat
open Go.ChangeShapes Go.WideShapes Go.ChangeAt Go.RowKit
set_option linter.unusedVariables false
set_option linter.unusedSimpArgs false
theorem NoT.chunk {w : World} {gk : Nat} {cs : Array Value} {fr : Nat × Nat} {T : TypeId} (hg : w.heap[gk]? = some (.cells cs 47 fr)) (hT : T ≠ 47) : NoT w T (fun b => b = gk ∨ w.heap.size ≤ b) := fun b cs' fr' hb e => by
  rcases hb with rfl | hb
  · rw [hg] at e; injection e with e; injection e with _ e; exact hT e.symm
  · rw [Array.getElem?_eq_none hb] at e; cases e
attribute [local go_sem ↓] ldRf_eq stRf_eq ldCk_eq stCk_eq ldCmd_eq
set_option maxRecDepth 100000 in
set_option maxHeartbeats 8000000 in
theorem Rchunk_7yes (f : Rf) (c : Cmd) (q : Nat) (k : Ck) (B : Nat) (w0 w : World) (ho : RfOwn B w0 w f) (hc : CmdIn c) (hx : chIx f.dat.cs c.a = some q) (hk : f.K[q]? = some k) (n : Nat) (h7 : c.k = 7) (hn : n < 16) (hcn : c.c = (n : Int)) (hpk : f.pk n ≠ 0) (he : k.ep = c.b) (hh : hasK c.c k.dat = false) (hep : 0 ≤ k.ep ∧ k.ep ≤ 35184372088832) (hfull : k.ms.length + k.js.length < 4) :
    Calls Tryz.prog 49 #[f.val, cmdA c] w (DoRetR f { f.dat with cs := f.dat.cs.set q ⟨k.id, k.vo, k.ep + 1, k.ms, k.js ++ [c.c]⟩ } 0 w) := by
  obtain ⟨ck, ca, cb, cc, cp⟩ := c
  simp only at h7 hcn hx he hh ⊢
  subst h7; subst hcn
  have h := ho.ok
  unfold Rf.val cmdA
  obtain ⟨w1, hw1, hb1, hr1⟩ := rf_box w f
  obtain ⟨w2, hw2, hb2, hr2⟩ := cmd_box w1 ⟨7, ca, cb, (n : Int), cp⟩
  obtain ⟨w3, hw3⟩ : ∃ w3, w2.alloc (.cells #[.slice none 0 0, .slice none 0 0, .slice none 0 0, .int .i64 0] 31) = w3 := ⟨_, rfl⟩
  have hb3 : Below w2.heap.size w2 w3 := by rw [← hw3]; exact below_box _ _
  have hr3 : w3.heap[w2.heap.size]? = some (.cells #[.slice none 0 0, .slice none 0 0, .slice none 0 0, .int .i64 0] 31 (0, 0)) := by rw [← hw3]; exact heap_alloc_new _ _
  have hb12 : Below w.heap.size w w2 := hb1.trans (hb2.mono hb1.size)
  have hbw : Below w.heap.size w w3 := hb12.trans (hb3.mono hb12.size)
  have h1 := row_below (row_below hr1 hb2) hb3
  have h2 := row_below hr2 hb3
  have Hr3 := Lib.hid hr3; have Hbw := Lib.hid hbw; have HW := Lib.hid h
  have Hsz := Lib.hid (show w.heap.size < w1.heap.size ∧ w1.heap.size < w2.heap.size ∧ w2.heap.size < w3.heap.size from ⟨(Array.getElem?_eq_some_iff.1 hr1).1, (Array.getElem?_eq_some_iff.1 hr2).1, (Array.getElem?_eq_some_iff.1 hr3).1⟩)
  have F := Lib.hid (fun V (hv : Below w3.heap.size w3 V) => (Boxes.of (row_below h1 hv) (row_below h2 hv) : Boxes w w1 f ⟨7, ca, cb, (n : Int), cp⟩ V))
  have H3 := Lib.hid (h.below hbw)
  have K1 := Lib.hid (RChunk f ca w3 (h.below hbw))
  unfold Rf.val at K1
  obtain ⟨s0, s1, s2, s3, sl, c0, c1, c2, c3⟩ := F.out w3 (Below.refl _ _)
  simp only at s0 s1 s2 s3 sl c0 c1 c2 c3 F hw2
  rw [hx] at K1
  simp only [ixV] at K1
  have hq0 : ¬ (q : Int) < 0 := by omega
  have Hk := Lib.hid hk
  have hq1 : (q : Int) < (f.k.n : Int) := by have := (List.getElem?_eq_some_iff.1 hk).1; have := h.k.len; omega
  have hq2 : (0 : Int) ≤ (q : Int) := by omega
  have HKok := Lib.hid (fun V (hv : Below w3.heap.size w3 V) => (H3.out.below hv).k.ok k (List.mem_of_getElem? hk))
  obtain ⟨gk, hAk⟩ : ∃ g, f.k.A = some ⟨g, 0, none⟩ := by
    rcases ho.k.2 with ⟨e, e2⟩ | ⟨g, cap, cur, e, _⟩
    · have := (List.getElem?_eq_some_iff.1 hk).1; have := h.k.len; omega
    · injection e with e _ _; exact ⟨g, e⟩
  have hok := ho.k
  rw [hAk] at hok
  have HO := Lib.hid hok; have HAk := Lib.hid hAk
  have Hgk := Lib.hid (row_blockM hok (k := gk) rfl)
  have Hgl := Lib.hid (show B ≤ gk ∧ gk < w.heap.size from ⟨(hok.lt gk rfl).1, (hok.lt gk rfl).2⟩)
  have HCk := Lib.hid (fun V (hv : Below w3.heap.size w3 V) => show CkAt V gk (q * 5) k from by
    obtain ⟨g', o', e1, e2⟩ := (H3.out.below hv).k.get hk
    rw [hAk] at e1
    injection e1 with e1
    injection e1 with e3 e4 _
    subst e3; subst e4
    simpa using e2)
  have i0 : (0 : Int) ≤ (n : Int) := by omega
  have i1 : (n : Int) < (f.p.n : Int) := by have := h.pn; omega
  have i2 : ¬ (n : Int) < 0 := by omega
  have i3 : ¬ (15 : Int) < (n : Int) := by omega
  obtain ⟨gp, op, hA, _⟩ := H3.out.pick hn
  have HP := Lib.hid (fun V (hv : Below w3.heap.size w3 V) => show V.cell? ⟨gp, op + n, none⟩ = some (.int .i64 (f.pk n)) from by
    obtain ⟨g', o', hA', e⟩ := (H3.out.below hv).pick hn
    rw [hA] at hA'
    injection hA' with hA'
    injection hA' with e1 e2 _
    subst e1; subst e2
    exact e)
  have hpz : (f.pk n == 0) = false := by simpa using hpk
  obtain ⟨pv, hpv0⟩ : ∃ pv, f.pk n = pv := ⟨_, rfl⟩
  rw [hpv0] at HP hpz
  have HA := Lib.hid hA
  clear hA hpk hpv0
  have heb : (k.ep == cb) = true := by simpa using he
  clear he
  have KH := Lib.hid (fun V (hv : Below w3.heap.size w3 V) => RHas k (n : Int) V (HKok.out V hv))
  unfold ckA at KH
  rw [hh] at KH
  have BXF := Lib.hid (fun V V' (hv : Below w3.heap.size w3 V) (ht : Turned (fun b => b = gk) V V') => (⟨Boxes.of (ht.heap (row_below h1 hv) (by have := Hgl.out; omega)) (ht.heap (row_below h2 hv) (by have := Hgl.out; have := Hsz.out; omega)), ht.heap (row_below Hr3.out hv) (by have := Hgl.out; have := Hsz.out; omega)⟩ : Boxes w w1 f ⟨7, ca, cb, (n : Int), cp⟩ V' ∧ V'.heap[w2.heap.size]? = some (.cells #[.slice none 0 0, .slice none 0 0, .slice none 0 0, .int .i64 0] 31 (0, 0))))
  have Hqk := Lib.hid (List.getElem?_eq_some_iff.1 hk).1
  have hf1 : ¬ (4 : Int) ≤ (k.m.n : Int) + (k.j.n : Int) := by have h1 := (HKok.out w3 (Below.refl _ _)).m.len; have h2 := (HKok.out w3 (Below.refl _ _)).j.len; omega
  have hf2 : (k.m.n : Int) ≤ 1000000 := by have h1 := (HKok.out w3 (Below.refl _ _)).m.len; omega
  have hf3 : (k.j.n : Int) ≤ 1000000 := by have h2 := (HKok.out w3 (Below.refl _ _)).j.len; omega
  have hj6 : k.js.length ≤ 1000000 := by omega
  have HLn := Lib.hid (show (numsV k.js).length = k.j.n * 1 by rw [numsV_length, (HKok.out w3 (Below.refl _ _)).j.len, Nat.mul_one])
  have HMn := Lib.hid (show k.j.n ≤ 1000000 by have := (HKok.out w3 (Below.refl _ _)).j.len; omega)
  clear hx hk hh hok hAk hj6 hfull ho
  clear h hb1 hb2 hb3 hb12 hbw hr1 hr2 hr3 h1 h2
  go_enter Tryz.func49, Tryz.ntmps49
  go_wp2_with (first
    | (go_at_call 65; refine (KH.out w5 Hb5.out).mono ?_; rintro e w6 ⟨rfl, hb6⟩; have Hb6 := Lib.hid (Hb5.out.trans (hb6.mono Hb5.out.size)); have Hr6 := Lib.hid (row_below Hr5.out hb6); have r3 := row_cell Hr6.out 3; have r4 := row_cell Hr6.out 4; simp at r3 r4; clear hb6)
    | (go_at_call 48; refine K1.out.mono ?_; rintro e w4 ⟨rfl, hb4⟩; have Hb4 := Lib.hid hb4; obtain ⟨ds0, ds1, ds2, ds3, dsl, dc0, dc1, dc2, dc3⟩ := F.out w4 hb4; rw [HAk.out] at ds2; rw [HA.out] at ds0; have hpv := HP.out w4 hb4; have hldk := ldCk_run (HCk.out w4 hb4); obtain ⟨wz, w5, hwz, hstk, hb5, hr5⟩ := ck_new w4 k; have Hb5 := Lib.hid (hb4.trans (hb5.mono hb4.size)); obtain ⟨xs0, xs1, xs2, xs3, xsl, xc0, xc1, xc2, xc3⟩ := F.out w5 Hb5.out; obtain ⟨k0, k1, k2, k3, k4⟩ := CkAt.of_row hr5; have hldx := ldCk_run (CkAt.of_row hr5); have Hr5 := Lib.hid hr5; have H45 := Lib.hid (Nat.le_trans hb4.size (Nat.le_refl _)); clear hb4 hb5 hr5))
  have HS5 := Lib.hid (fun V (hv : Below w6.heap.size w6 V) => (⟨row_cell (row_below Hr6.out hv) 4, (F.out V (Hb6.out.trans (hv.mono Hb6.out.size))).c3⟩ : V.cell? ⟨w4.heap.size, 4, none⟩ = some (.slice k.j.A k.j.n k.j.c) ∧ V.cell? ⟨w1.heap.size, 3, none⟩ = some (.int .i64 (n : Int))))
  have HSrc := Lib.hid (fun V (hv : Below w6.heap.size w6 V) => (HKok.out V (Hb6.out.trans (hv.mono Hb6.out.size))).j.see.1)
  have HB0 := Lib.hid ((Below.refl w6.heap.size w6).drew)
  refine wp_region_T (S := fun V => Below w6.heap.size w6 V) 9 (by kernel_rfl) ?_
  have hHeld := HB0.out
  refine wpAnyT_take (i := 1) (v := ?v1) rfl (by kernel_rfl) (by kernel_rfl) (by kernel_rfl) (by kernel_rfl) (by kernel_rfl) (by rfl) (by rfl) (fun _ _ _ h => h) (Or.inl ⟨by rfl, ?hy1⟩) hHeld ?rest1
  case hy1 => (intro w' hS; obtain ⟨t1, t2⟩ := HS5.out w' hS; (try simp only [List.getElem_toArray, List.getElem_cons_succ, List.getElem_cons_zero]); go_simp; try with_reducible rfl)
  try simp only [Act.put, List.setIfInBounds_toArray, List.set_cons_zero, List.set_cons_succ, List.getElem_toArray, List.getElem_cons_succ, List.getElem_cons_zero]
  refine wpAnyT_take (i := 2) (v := ?v2) rfl (by kernel_rfl) (by kernel_rfl) (by kernel_rfl) (by kernel_rfl) (by kernel_rfl) (by rfl) (by rfl) (fun _ _ _ h => h) (Or.inl ⟨by rfl, ?hy2⟩) hHeld ?rest2
  case hy2 => (intro w' hS; obtain ⟨t1, t2⟩ := HS5.out w' hS; (try simp only [List.getElem_toArray, List.getElem_cons_succ, List.getElem_cons_zero]); go_simp; try with_reducible rfl)
  try simp only [Act.put, List.setIfInBounds_toArray, List.set_cons_zero, List.set_cons_succ, List.getElem_toArray, List.getElem_cons_succ, List.getElem_cons_zero]
  refine wpAnyT_take (i := 4) (v := ?v3) rfl (by kernel_rfl) (by kernel_rfl) (by kernel_rfl) (by kernel_rfl) (by kernel_rfl) (by rfl) (by rfl) (fun _ _ _ h => h) (Or.inl ⟨by rfl, ?hy3⟩) hHeld ?rest3
  case hy3 => (intro w' hS; obtain ⟨t1, t2⟩ := HS5.out w' hS; (try simp only [List.getElem_toArray, List.getElem_cons_succ, List.getElem_cons_zero]); go_simp; try with_reducible rfl)
  try simp only [Act.put, List.setIfInBounds_toArray, List.set_cons_zero, List.set_cons_succ, List.getElem_toArray, List.getElem_cons_succ, List.getElem_cons_zero]
  refine wpAnyT_take (i := 5) (v := ?v4) rfl (by kernel_rfl) (by kernel_rfl) (by kernel_rfl) (by kernel_rfl) (by kernel_rfl) (by rfl) (by rfl) (fun _ _ _ h => h) (Or.inl ⟨by rfl, ?hy4⟩) hHeld ?rest4
  case hy4 => (intro w' hS; obtain ⟨t1, t2⟩ := HS5.out w' hS; (try simp only [List.getElem_toArray, List.getElem_cons_succ, List.getElem_cons_zero]); go_simp; try with_reducible rfl)
  try simp only [Act.put, List.setIfInBounds_toArray, List.set_cons_zero, List.set_cons_succ, List.getElem_toArray, List.getElem_cons_succ, List.getElem_cons_zero]
  refine wpAnyT_ready (rs := [0, 6]) (by kernel_rfl) (by simp) ?_
  refine AllReadyT.cons rfl (fun K hK => ?_) ?_
  · clear hHeld
    (try simp only [List.getElem_toArray, List.getElem_cons_succ, List.getElem_cons_zero])
    obtain ⟨U1, hU1⟩ : ∃ W, World.alloc w6.drew (.cells #[] 3) = W := ⟨_, rfl⟩
    have OA1 := Lib.hid (show World.ownsRow U1 w6.heap.size 3 1 (.slice (some ⟨(World.heap w6.drew).size, 0, none⟩) 0 0) 0 [] from (by rw [← hU1]; exact bs_own _ _ HB0.out.size))
    have hbn : Below (World.heap w6.drew).size w6.drew U1 := by rw [← hU1]; exact below_box _ _
    have HB1 := Lib.hid (HB0.out.trans (hbn.mono HB0.out.size))
    go_simp
    try rw [hU1]
    refine hK.out _ _ (fun _ => HB1.out) ?_
    have hHeld := HB1.out
    clear hK K hbn hU1
    try simp only [Act.put, List.setIfInBounds_toArray, List.set_cons_zero, List.set_cons_succ, List.getElem_toArray, List.getElem_cons_succ, List.getElem_cons_zero]
    refine wpAnyT_ready (rs := [3, 6]) (by kernel_rfl) (by simp) ?_
    refine AllReadyT.cons rfl (fun K hK => ?_) ?_
    · clear hHeld
      (try simp only [List.getElem_toArray, List.getElem_cons_succ, List.getElem_cons_zero])
      refine if_wanted (by rfl) ?_
      refine wp_appL (.tmp 102) (.tmp 104) _ (by rfl) 3 _ 1 8 Tryz.underlying27 int_info (by rfl) (by omega) w6.heap.size (some ⟨(World.heap w6.drew).size, 0, none⟩) 0 0 [] (by rfl) OA1.out k.j.A k.j.n k.j.c (numsV k.js) (by rfl) HLn.out (HSrc.out _ HB1.out) (numsV_one _) (by have := HMn.out; unfold maxLen; omega) (by have := HMn.out; omega) HB1.out.size ?_
      intro MA0 mc0 U2 hown hg hbk
      simp only [Nat.zero_add, List.nil_append] at hown hbk ⊢
      have t : Turned (fun b => (Value.slice (some ⟨(World.heap w6.drew).size, 0, none⟩) 0 0).ownBlock = some b) U1 U2 := Turned.of_grown hg (fun k e => e)
      have OA2 := Lib.hid hown
      have HB2 := Lib.hid (HB1.out.trans (t.below (fun k e => (OA1.out.lt k e).1) HB1.out.size))
      refine hK.out _ _ (fun _ => HB2.out) ?_
      have hHeld := HB2.out
      clear hK K hown hg hbk t
      try simp only [Act.put, List.setIfInBounds_toArray, List.set_cons_zero, List.set_cons_succ, List.getElem_toArray, List.getElem_cons_succ, List.getElem_cons_zero]
      refine wpAnyT_ready (rs := [6]) (by kernel_rfl) (by simp) ?_
      refine AllReadyT.cons rfl (fun K hK => ?_) ?_
      · clear hHeld
        (try simp only [List.getElem_toArray, List.getElem_cons_succ, List.getElem_cons_zero])
        obtain ⟨U3, hU3⟩ : ∃ W, World.alloc U2 (.cells #[.int .i64 (n : Int)] 3) = W := ⟨_, rfl⟩
        have OB3 := Lib.hid (show World.ownsRow U3 w6.heap.size 3 1 (.slice (some ⟨(World.heap U2).size, 0, none⟩) 1 1) 1 [.int .i64 (n : Int)] from (by rw [← hU3]; exact ⟨rfl, .inr ⟨_, 1, _, rfl, HB2.out.size, heap_alloc_new _ _, Nat.le_refl _, by unfold maxLen; omega, rfl, rfl⟩⟩))
        have hbn : Below (World.heap U2).size U2 U3 := by rw [← hU3]; exact below_box _ _
        have HB3 := Lib.hid (HB2.out.trans (hbn.mono HB2.out.size))
        have OA3 := Lib.hid (own_belowM OA2.out hbn)
        go_simp
        try rw [hU3]
        refine hK.out _ _ (fun _ => HB3.out) ?_
        have hHeld := HB3.out
        clear hK K hbn hU3
        try simp only [Act.put, List.setIfInBounds_toArray, List.set_cons_zero, List.set_cons_succ, List.getElem_toArray, List.getElem_cons_succ, List.getElem_cons_zero]
        refine wpAnyT_one (i := 7) (by kernel_rfl) rfl (fun K hK => ?_)
        clear hHeld
        (try simp only [List.getElem_toArray, List.getElem_cons_succ, List.getElem_cons_zero])
        refine if_wanted (by rfl) ?_
        refine wp_appL (.tmp 105) (.tmp 108) _ (by rfl) 3 _ 1 8 Tryz.underlying27 int_info (by rfl) (by omega) w6.heap.size MA0 k.j.n mc0 (numsV k.js) (by rfl) OA3.out (some ⟨(World.heap U2).size, 0, none⟩) 1 1 [.int .i64 (n : Int)] (by rfl) (by rfl) (own_seenM OB3.out) (by intro u hu; simp at hu; subst hu; rfl) (by have := HMn.out; unfold maxLen; omega) (by have := HMn.out; omega) HB3.out.size ?_
        intro MA mc w8 hown hg hbk
        have t : Turned (fun b => (Value.slice MA0 k.j.n mc0).ownBlock = some b) U3 w8 := Turned.of_grown hg (fun k e => e)
        have HB8 := Lib.hid (HB3.out.trans (t.below (fun k e => (OA3.out.lt k e).1) HB3.out.size))
        have Hm8 := Lib.hid hown
        refine hK.out _ _ (fun _ => HB8.out) ?_
        have hHeld := HB8.out
        clear hK K hown hg hbk t
        try simp only [Act.put, List.setIfInBounds_toArray, List.set_cons_zero, List.set_cons_succ, List.getElem_toArray, List.getElem_cons_succ, List.getElem_cons_zero]
        refine wpAnyT_take (i := 8) (v := ?v5) rfl (by kernel_rfl) (by kernel_rfl) (by kernel_rfl) (by kernel_rfl) (by kernel_rfl) (by rfl) (by rfl) (fun _ _ _ h => h) (Or.inl ⟨by rfl, ?hy5⟩) hHeld ?rest5
        case hy5 => (intro w' hS; obtain ⟨t1, t2⟩ := HS5.out w' hS; (try simp only [List.getElem_toArray, List.getElem_cons_succ, List.getElem_cons_zero]); go_simp; try with_reducible rfl)
        try simp only [Act.put, List.setIfInBounds_toArray, List.set_cons_zero, List.set_cons_succ, List.getElem_toArray, List.getElem_cons_succ, List.getElem_cons_zero]
        clear hHeld
        obtain ⟨V1, hV1⟩ : ∃ V, w8.setCell ⟨w4.heap.size, 4, none⟩ (.slice MA (k.j.n + 1) mc) = V := ⟨_, rfl⟩
        have hr8 := row_below Hr6.out HB8.out
        have p0 := row_cell hr8 4
        have p1 := row_frozen hr8 4
        have hrV1 := row_set hr8 4 (.slice MA (k.j.n + 1) mc)
        rw [hV1] at hrV1
        have p5 := row_cell hrV1 2
        have p6 := row_frozen hrV1 2
        obtain ⟨V2, hV2⟩ : ∃ V, V1.setCell ⟨w4.heap.size, 2, none⟩ (.int .i64 (k.ep + 1)) = V := ⟨_, rfl⟩
        have hrV2 := row_set hrV1 2 (.int .i64 (k.ep + 1))
        rw [hV2] at hrV2
        have tV2 : Turned (fun b => b = w4.heap.size) w8 V2 := by (rw [← hV2, ← hV1]; exact ((Turned.refl (fun b => b = w4.heap.size) w8).setCell (b := ⟨w4.heap.size, 4, none⟩) (fun _ => rfl) _).setCell (b := ⟨w4.heap.size, 2, none⟩) (fun _ => rfl) _)
        have Hb8 := Lib.hid (Hb6.out.trans (HB8.out.mono Hb6.out.size))
        have HbV2 := Lib.hid (Hb8.out.trans (tV2.below (fun b e => by have := H45.out; omega) Hb8.out.size))
        obtain ⟨vs0, vs1, vs2, vs3, vsl, vc0, vc1, vc2, vc3⟩ := F.out V2 HbV2.out
        rw [HAk.out] at vs2
        have hldV := ldCk_run (k := ⟨k.id, k.vo, k.ep + 1, k.m, ⟨MA, k.j.n + 1, mc⟩, k.ms, k.js ++ [(n : Int)]⟩) (CkAt.of_row hrV2)
        simp only at hldV
        obtain ⟨V3, hst3, hown3, ht3⟩ := ks_set (own_belowM (own_belowM HO.out Hbw.out) HbV2.out) (Hqk.out) ⟨k.id, k.vo, k.ep + 1, k.m, ⟨MA, k.j.n + 1, mc⟩, k.ms, k.js ++ [(n : Int)]⟩
        simp only at hst3
        obtain ⟨⟨es0, es1, es2, es3, esl, ec0, ec1, ec2, ec3⟩, hbx⟩ := BXF.out V2 V3 HbV2.out ht3
        obtain ⟨w10, hst, hr10, ht10⟩ := stRf_run hbx rfl f.p f.v f.k f.nx
        have Hr10 := Lib.hid hr10; have Ht10 := Lib.hid ht10; have Hown3 := Lib.hid hown3; have Ht3 := Lib.hid ht3; have TV2 := Lib.hid tV2
        simp at p0 p5
        clear hr8 hrV1 hrV2 tV2 hown3 ht3 hr10 ht10 hbx
        refine wpAnyT_one (i := 9) (by kernel_rfl) rfl (fun K hK => ?_)
        (try simp only [List.getElem_toArray, List.getElem_cons_succ, List.getElem_cons_zero])
        go_simp
        try rw [hV1]
        refine hK.out _ _ (fun h => (by cases h)) ?_
        clear hK K
        try simp only [Act.put, List.setIfInBounds_toArray, List.set_cons_zero, List.set_cons_succ, List.getElem_toArray, List.getElem_cons_succ, List.getElem_cons_zero]
        refine wpAnyT_done (by kernel_rfl) ?_ _
        go_wp2
        refine bodyPost_ret (v := .tuple #[.agg #[.slice f.p.A f.p.n f.p.c, .slice f.v.A f.v.n f.v.c, .slice f.k.A f.k.n f.k.c, .int .i64 f.nx], .int .i64 0]) (results_cell_2 rfl _ _ w2.heap.size 31 #[.slice f.p.A f.p.n f.p.c, .slice f.v.A f.v.n f.v.c, .slice f.k.A f.k.n f.k.c, .int .i64 f.nx] (0, 0) _ (.int .i64 0) rfl rfl Hr10.out Tryz.underlying31 rfl rf_size) rfl ?_
        have g5 : w4.heap.size < w6.heap.size := (Array.getElem?_eq_some_iff.1 Hr6.out).1
        have s3 := Hsz.out; have s4 := H45.out; have sg := Hgl.out; have sb := Hbw.out.size; have sv := HbV2.out.size; have s5 := Hb6.out.size
        have hbV : Below w.heap.size w V2 := Hbw.out.trans (HbV2.out.mono Hbw.out.size)
        have oj : w10.ownsRow w.heap.size 3 1 (.slice MA (k.j.n + 1) mc) (k.j.n + 1) (numsV (k.js ++ [(n : Int)])) := by
          have o0 := Hm8.out
          rw [← numsV_one1 (n : Int), ← numsV_append] at o0
          have o3 := own_turnedM TV2.out o0 (fun b e hb => by have := (o0.lt b e).1; omega)
          have o4 := own_turnedM Ht3.out o3 (fun b e hb => by have := (o3.lt b e).1; omega)
          exact own_baseM (own_turnedM Ht10.out o4 (fun b e hb => by have := (o4.lt b e).1; omega)) (by omega)
        have ht : Turned (fun b => b = gk ∨ w.heap.size ≤ b) w w10 :=
          ((Turned.of_below (p := fun b => b = gk ∨ w.heap.size ≤ b) hbV).trans Ht3.out (fun _ e => e) (fun b _ e => .inl e)).trans Ht10.out (fun _ e => e) (fun b _ e => .inr (by omega))
        have hrow := own_turnedM Ht10.out Hown3.out (fun b e hb => by have e1 : gk = b := Option.some.inj e; omega)
        obtain ⟨cs, hcs⟩ := Hgk.out
        exact ⟨{ f with K := f.K.set q ⟨k.id, k.vo, k.ep + 1, k.m, ⟨MA, k.j.n + 1, mc⟩, k.ms, k.js ++ [(n : Int)]⟩ }, rfl, by simp only [Rf.dat, List.map_set]; rfl,
          chunk_ok HW.out HAk.out ⟨cs, (0, 0), hcs⟩ ht hrow ⟨(HW.out.k.ok k (List.mem_of_getElem? Hk.out)).m.turned ht (NoT.chunk hcs (by decide)), IntsT.own oj⟩, ht.mono (fun b hl e => e.elim (fun e => .inr (.inr (by rw [HAk.out, e]; rfl))) (fun e => absurd e (by omega)))⟩
      exact AllReadyT.nil
    refine AllReadyT.cons rfl (fun K hK => ?_) ?_
    · clear hHeld
      (try simp only [List.getElem_toArray, List.getElem_cons_succ, List.getElem_cons_zero])
      obtain ⟨U2, hU2⟩ : ∃ W, World.alloc U1 (.cells #[.int .i64 (n : Int)] 3) = W := ⟨_, rfl⟩
      have OB2 := Lib.hid (show World.ownsRow U2 w6.heap.size 3 1 (.slice (some ⟨(World.heap U1).size, 0, none⟩) 1 1) 1 [.int .i64 (n : Int)] from (by rw [← hU2]; exact ⟨rfl, .inr ⟨_, 1, _, rfl, HB1.out.size, heap_alloc_new _ _, Nat.le_refl _, by unfold maxLen; omega, rfl, rfl⟩⟩))
      have hbn : Below (World.heap U1).size U1 U2 := by rw [← hU2]; exact below_box _ _
      have HB2 := Lib.hid (HB1.out.trans (hbn.mono HB1.out.size))
      have OA2 := Lib.hid (own_belowM OA1.out hbn)
      have NE2 := Lib.hid (show (World.heap w6.drew).size ≠ (World.heap U1).size from (by have := (Array.getElem?_eq_some_iff.1 (row_blockM OA1.out (k := (World.heap w6.drew).size) rfl).choose_spec).1; omega))
      go_simp
      try rw [hU2]
      refine hK.out _ _ (fun _ => HB2.out) ?_
      have hHeld := HB2.out
      clear hK K hbn hU2
      try simp only [Act.put, List.setIfInBounds_toArray, List.set_cons_zero, List.set_cons_succ, List.getElem_toArray, List.getElem_cons_succ, List.getElem_cons_zero]
      refine wpAnyT_ready (rs := [3]) (by kernel_rfl) (by simp) ?_
      refine AllReadyT.cons rfl (fun K hK => ?_) ?_
      · clear hHeld
        (try simp only [List.getElem_toArray, List.getElem_cons_succ, List.getElem_cons_zero])
        refine if_wanted (by rfl) ?_
        refine wp_appL (.tmp 102) (.tmp 104) _ (by rfl) 3 _ 1 8 Tryz.underlying27 int_info (by rfl) (by omega) w6.heap.size (some ⟨(World.heap w6.drew).size, 0, none⟩) 0 0 [] (by rfl) OA2.out k.j.A k.j.n k.j.c (numsV k.js) (by rfl) HLn.out (HSrc.out _ HB2.out) (numsV_one _) (by have := HMn.out; unfold maxLen; omega) (by have := HMn.out; omega) HB2.out.size ?_
        intro MA0 mc0 U3 hown hg hbk
        simp only [Nat.zero_add, List.nil_append] at hown hbk ⊢
        have t : Turned (fun b => (Value.slice (some ⟨(World.heap w6.drew).size, 0, none⟩) 0 0).ownBlock = some b) U2 U3 := Turned.of_grown hg (fun k e => e)
        have OA3 := Lib.hid hown
        have HB3 := Lib.hid (HB2.out.trans (t.below (fun k e => (OA2.out.lt k e).1) HB2.out.size))
        have OB3 := Lib.hid (own_turnedM t OB2.out (fun k e e' => NE2.out (Option.some.inj (e'.trans e.symm))))
        have NF3 := Lib.hid (show ∀ b, (Value.slice MA0 k.j.n mc0).ownBlock = some b → b ≠ (World.heap U1).size from fun b hk e => by rcases hbk b hk with h | h; (exact NE2.out ((Option.some.inj h).trans e)); (have := (Array.getElem?_eq_some_iff.1 (row_blockM OB2.out (k := (World.heap U1).size) rfl).choose_spec).1; omega))
        refine hK.out _ _ (fun _ => HB3.out) ?_
        have hHeld := HB3.out
        clear hK K hown hg hbk t
        try simp only [Act.put, List.setIfInBounds_toArray, List.set_cons_zero, List.set_cons_succ, List.getElem_toArray, List.getElem_cons_succ, List.getElem_cons_zero]
        refine wpAnyT_one (i := 7) (by kernel_rfl) rfl (fun K hK => ?_)
        clear hHeld
        (try simp only [List.getElem_toArray, List.getElem_cons_succ, List.getElem_cons_zero])
        refine if_wanted (by rfl) ?_
        refine wp_appL (.tmp 105) (.tmp 108) _ (by rfl) 3 _ 1 8 Tryz.underlying27 int_info (by rfl) (by omega) w6.heap.size MA0 k.j.n mc0 (numsV k.js) (by rfl) OA3.out (some ⟨(World.heap U1).size, 0, none⟩) 1 1 [.int .i64 (n : Int)] (by rfl) (by rfl) (own_seenM OB3.out) (by intro u hu; simp at hu; subst hu; rfl) (by have := HMn.out; unfold maxLen; omega) (by have := HMn.out; omega) HB3.out.size ?_
        intro MA mc w8 hown hg hbk
        have t : Turned (fun b => (Value.slice MA0 k.j.n mc0).ownBlock = some b) U3 w8 := Turned.of_grown hg (fun k e => e)
        have HB8 := Lib.hid (HB3.out.trans (t.below (fun k e => (OA3.out.lt k e).1) HB3.out.size))
        have Hm8 := Lib.hid hown
        refine hK.out _ _ (fun _ => HB8.out) ?_
        have hHeld := HB8.out
        clear hK K hown hg hbk t
        try simp only [Act.put, List.setIfInBounds_toArray, List.set_cons_zero, List.set_cons_succ, List.getElem_toArray, List.getElem_cons_succ, List.getElem_cons_zero]
        refine wpAnyT_take (i := 8) (v := ?v6) rfl (by kernel_rfl) (by kernel_rfl) (by kernel_rfl) (by kernel_rfl) (by kernel_rfl) (by rfl) (by rfl) (fun _ _ _ h => h) (Or.inl ⟨by rfl, ?hy6⟩) hHeld ?rest6
        case hy6 => (intro w' hS; obtain ⟨t1, t2⟩ := HS5.out w' hS; (try simp only [List.getElem_toArray, List.getElem_cons_succ, List.getElem_cons_zero]); go_simp; try with_reducible rfl)
        try simp only [Act.put, List.setIfInBounds_toArray, List.set_cons_zero, List.set_cons_succ, List.getElem_toArray, List.getElem_cons_succ, List.getElem_cons_zero]
        clear hHeld
        obtain ⟨V1, hV1⟩ : ∃ V, w8.setCell ⟨w4.heap.size, 4, none⟩ (.slice MA (k.j.n + 1) mc) = V := ⟨_, rfl⟩
        have hr8 := row_below Hr6.out HB8.out
        have p0 := row_cell hr8 4
        have p1 := row_frozen hr8 4
        have hrV1 := row_set hr8 4 (.slice MA (k.j.n + 1) mc)
        rw [hV1] at hrV1
        have p5 := row_cell hrV1 2
        have p6 := row_frozen hrV1 2
        obtain ⟨V2, hV2⟩ : ∃ V, V1.setCell ⟨w4.heap.size, 2, none⟩ (.int .i64 (k.ep + 1)) = V := ⟨_, rfl⟩
        have hrV2 := row_set hrV1 2 (.int .i64 (k.ep + 1))
        rw [hV2] at hrV2
        have tV2 : Turned (fun b => b = w4.heap.size) w8 V2 := by (rw [← hV2, ← hV1]; exact ((Turned.refl (fun b => b = w4.heap.size) w8).setCell (b := ⟨w4.heap.size, 4, none⟩) (fun _ => rfl) _).setCell (b := ⟨w4.heap.size, 2, none⟩) (fun _ => rfl) _)
        have Hb8 := Lib.hid (Hb6.out.trans (HB8.out.mono Hb6.out.size))
        have HbV2 := Lib.hid (Hb8.out.trans (tV2.below (fun b e => by have := H45.out; omega) Hb8.out.size))
        obtain ⟨vs0, vs1, vs2, vs3, vsl, vc0, vc1, vc2, vc3⟩ := F.out V2 HbV2.out
        rw [HAk.out] at vs2
        have hldV := ldCk_run (k := ⟨k.id, k.vo, k.ep + 1, k.m, ⟨MA, k.j.n + 1, mc⟩, k.ms, k.js ++ [(n : Int)]⟩) (CkAt.of_row hrV2)
        simp only at hldV
        obtain ⟨V3, hst3, hown3, ht3⟩ := ks_set (own_belowM (own_belowM HO.out Hbw.out) HbV2.out) (Hqk.out) ⟨k.id, k.vo, k.ep + 1, k.m, ⟨MA, k.j.n + 1, mc⟩, k.ms, k.js ++ [(n : Int)]⟩
        simp only at hst3
        obtain ⟨⟨es0, es1, es2, es3, esl, ec0, ec1, ec2, ec3⟩, hbx⟩ := BXF.out V2 V3 HbV2.out ht3
        obtain ⟨w10, hst, hr10, ht10⟩ := stRf_run hbx rfl f.p f.v f.k f.nx
        have Hr10 := Lib.hid hr10; have Ht10 := Lib.hid ht10; have Hown3 := Lib.hid hown3; have Ht3 := Lib.hid ht3; have TV2 := Lib.hid tV2
        simp at p0 p5
        clear hr8 hrV1 hrV2 tV2 hown3 ht3 hr10 ht10 hbx
        refine wpAnyT_one (i := 9) (by kernel_rfl) rfl (fun K hK => ?_)
        (try simp only [List.getElem_toArray, List.getElem_cons_succ, List.getElem_cons_zero])
        go_simp
        try rw [hV1]
        refine hK.out _ _ (fun h => (by cases h)) ?_
        clear hK K
        try simp only [Act.put, List.setIfInBounds_toArray, List.set_cons_zero, List.set_cons_succ, List.getElem_toArray, List.getElem_cons_succ, List.getElem_cons_zero]
        refine wpAnyT_done (by kernel_rfl) ?_ _
        go_wp2
        refine bodyPost_ret (v := .tuple #[.agg #[.slice f.p.A f.p.n f.p.c, .slice f.v.A f.v.n f.v.c, .slice f.k.A f.k.n f.k.c, .int .i64 f.nx], .int .i64 0]) (results_cell_2 rfl _ _ w2.heap.size 31 #[.slice f.p.A f.p.n f.p.c, .slice f.v.A f.v.n f.v.c, .slice f.k.A f.k.n f.k.c, .int .i64 f.nx] (0, 0) _ (.int .i64 0) rfl rfl Hr10.out Tryz.underlying31 rfl rf_size) rfl ?_
        have g5 : w4.heap.size < w6.heap.size := (Array.getElem?_eq_some_iff.1 Hr6.out).1
        have s3 := Hsz.out; have s4 := H45.out; have sg := Hgl.out; have sb := Hbw.out.size; have sv := HbV2.out.size; have s5 := Hb6.out.size
        have hbV : Below w.heap.size w V2 := Hbw.out.trans (HbV2.out.mono Hbw.out.size)
        have oj : w10.ownsRow w.heap.size 3 1 (.slice MA (k.j.n + 1) mc) (k.j.n + 1) (numsV (k.js ++ [(n : Int)])) := by
          have o0 := Hm8.out
          rw [← numsV_one1 (n : Int), ← numsV_append] at o0
          have o3 := own_turnedM TV2.out o0 (fun b e hb => by have := (o0.lt b e).1; omega)
          have o4 := own_turnedM Ht3.out o3 (fun b e hb => by have := (o3.lt b e).1; omega)
          exact own_baseM (own_turnedM Ht10.out o4 (fun b e hb => by have := (o4.lt b e).1; omega)) (by omega)
        have ht : Turned (fun b => b = gk ∨ w.heap.size ≤ b) w w10 :=
          ((Turned.of_below (p := fun b => b = gk ∨ w.heap.size ≤ b) hbV).trans Ht3.out (fun _ e => e) (fun b _ e => .inl e)).trans Ht10.out (fun _ e => e) (fun b _ e => .inr (by omega))
        have hrow := own_turnedM Ht10.out Hown3.out (fun b e hb => by have e1 : gk = b := Option.some.inj e; omega)
        obtain ⟨cs, hcs⟩ := Hgk.out
        exact ⟨{ f with K := f.K.set q ⟨k.id, k.vo, k.ep + 1, k.m, ⟨MA, k.j.n + 1, mc⟩, k.ms, k.js ++ [(n : Int)]⟩ }, rfl, by simp only [Rf.dat, List.map_set]; rfl,
          chunk_ok HW.out HAk.out ⟨cs, (0, 0), hcs⟩ ht hrow ⟨(HW.out.k.ok k (List.mem_of_getElem? Hk.out)).m.turned ht (NoT.chunk hcs (by decide)), IntsT.own oj⟩, ht.mono (fun b hl e => e.elim (fun e => .inr (.inr (by rw [HAk.out, e]; rfl))) (fun e => absurd e (by omega)))⟩
      exact AllReadyT.nil
    exact AllReadyT.nil
  refine AllReadyT.cons rfl (fun K hK => ?_) ?_
  · clear hHeld
    (try simp only [List.getElem_toArray, List.getElem_cons_succ, List.getElem_cons_zero])
    obtain ⟨U1, hU1⟩ : ∃ W, World.alloc w6.drew (.cells #[.int .i64 (n : Int)] 3) = W := ⟨_, rfl⟩
    have OB1 := Lib.hid (show World.ownsRow U1 w6.heap.size 3 1 (.slice (some ⟨(World.heap w6.drew).size, 0, none⟩) 1 1) 1 [.int .i64 (n : Int)] from (by rw [← hU1]; exact ⟨rfl, .inr ⟨_, 1, _, rfl, HB0.out.size, heap_alloc_new _ _, Nat.le_refl _, by unfold maxLen; omega, rfl, rfl⟩⟩))
    have hbn : Below (World.heap w6.drew).size w6.drew U1 := by rw [← hU1]; exact below_box _ _
    have HB1 := Lib.hid (HB0.out.trans (hbn.mono HB0.out.size))
    go_simp
    try rw [hU1]
    refine hK.out _ _ (fun _ => HB1.out) ?_
    have hHeld := HB1.out
    clear hK K hbn hU1
    try simp only [Act.put, List.setIfInBounds_toArray, List.set_cons_zero, List.set_cons_succ, List.getElem_toArray, List.getElem_cons_succ, List.getElem_cons_zero]
    refine wpAnyT_ready (rs := [0]) (by kernel_rfl) (by simp) ?_
    refine AllReadyT.cons rfl (fun K hK => ?_) ?_
    · clear hHeld
      (try simp only [List.getElem_toArray, List.getElem_cons_succ, List.getElem_cons_zero])
      obtain ⟨U2, hU2⟩ : ∃ W, World.alloc U1 (.cells #[] 3) = W := ⟨_, rfl⟩
      have OA2 := Lib.hid (show World.ownsRow U2 w6.heap.size 3 1 (.slice (some ⟨(World.heap U1).size, 0, none⟩) 0 0) 0 [] from (by rw [← hU2]; exact bs_own _ _ HB1.out.size))
      have hbn : Below (World.heap U1).size U1 U2 := by rw [← hU2]; exact below_box _ _
      have HB2 := Lib.hid (HB1.out.trans (hbn.mono HB1.out.size))
      have OB2 := Lib.hid (own_belowM OB1.out hbn)
      have NE2 := Lib.hid (show (World.heap U1).size ≠ (World.heap w6.drew).size from (by have := (Array.getElem?_eq_some_iff.1 (row_blockM OB1.out (k := (World.heap w6.drew).size) rfl).choose_spec).1; omega))
      go_simp
      try rw [hU2]
      refine hK.out _ _ (fun _ => HB2.out) ?_
      have hHeld := HB2.out
      clear hK K hbn hU2
      try simp only [Act.put, List.setIfInBounds_toArray, List.set_cons_zero, List.set_cons_succ, List.getElem_toArray, List.getElem_cons_succ, List.getElem_cons_zero]
      refine wpAnyT_ready (rs := [3]) (by kernel_rfl) (by simp) ?_
      refine AllReadyT.cons rfl (fun K hK => ?_) ?_
      · clear hHeld
        (try simp only [List.getElem_toArray, List.getElem_cons_succ, List.getElem_cons_zero])
        refine if_wanted (by rfl) ?_
        refine wp_appL (.tmp 102) (.tmp 104) _ (by rfl) 3 _ 1 8 Tryz.underlying27 int_info (by rfl) (by omega) w6.heap.size (some ⟨(World.heap U1).size, 0, none⟩) 0 0 [] (by rfl) OA2.out k.j.A k.j.n k.j.c (numsV k.js) (by rfl) HLn.out (HSrc.out _ HB2.out) (numsV_one _) (by have := HMn.out; unfold maxLen; omega) (by have := HMn.out; omega) HB2.out.size ?_
        intro MA0 mc0 U3 hown hg hbk
        simp only [Nat.zero_add, List.nil_append] at hown hbk ⊢
        have t : Turned (fun b => (Value.slice (some ⟨(World.heap U1).size, 0, none⟩) 0 0).ownBlock = some b) U2 U3 := Turned.of_grown hg (fun k e => e)
        have OA3 := Lib.hid hown
        have HB3 := Lib.hid (HB2.out.trans (t.below (fun k e => (OA2.out.lt k e).1) HB2.out.size))
        have OB3 := Lib.hid (own_turnedM t OB2.out (fun k e e' => NE2.out (Option.some.inj (e'.trans e.symm))))
        have NF3 := Lib.hid (show ∀ b, (Value.slice MA0 k.j.n mc0).ownBlock = some b → b ≠ (World.heap w6.drew).size from fun b hk e => by rcases hbk b hk with h | h; (exact NE2.out ((Option.some.inj h).trans e)); (have := (Array.getElem?_eq_some_iff.1 (row_blockM OB2.out (k := (World.heap w6.drew).size) rfl).choose_spec).1; omega))
        refine hK.out _ _ (fun _ => HB3.out) ?_
        have hHeld := HB3.out
        clear hK K hown hg hbk t
        try simp only [Act.put, List.setIfInBounds_toArray, List.set_cons_zero, List.set_cons_succ, List.getElem_toArray, List.getElem_cons_succ, List.getElem_cons_zero]
        refine wpAnyT_one (i := 7) (by kernel_rfl) rfl (fun K hK => ?_)
        clear hHeld
        (try simp only [List.getElem_toArray, List.getElem_cons_succ, List.getElem_cons_zero])
        refine if_wanted (by rfl) ?_
        refine wp_appL (.tmp 105) (.tmp 108) _ (by rfl) 3 _ 1 8 Tryz.underlying27 int_info (by rfl) (by omega) w6.heap.size MA0 k.j.n mc0 (numsV k.js) (by rfl) OA3.out (some ⟨(World.heap w6.drew).size, 0, none⟩) 1 1 [.int .i64 (n : Int)] (by rfl) (by rfl) (own_seenM OB3.out) (by intro u hu; simp at hu; subst hu; rfl) (by have := HMn.out; unfold maxLen; omega) (by have := HMn.out; omega) HB3.out.size ?_
        intro MA mc w8 hown hg hbk
        have t : Turned (fun b => (Value.slice MA0 k.j.n mc0).ownBlock = some b) U3 w8 := Turned.of_grown hg (fun k e => e)
        have HB8 := Lib.hid (HB3.out.trans (t.below (fun k e => (OA3.out.lt k e).1) HB3.out.size))
        have Hm8 := Lib.hid hown
        refine hK.out _ _ (fun _ => HB8.out) ?_
        have hHeld := HB8.out
        clear hK K hown hg hbk t
        try simp only [Act.put, List.setIfInBounds_toArray, List.set_cons_zero, List.set_cons_succ, List.getElem_toArray, List.getElem_cons_succ, List.getElem_cons_zero]
        refine wpAnyT_take (i := 8) (v := ?v7) rfl (by kernel_rfl) (by kernel_rfl) (by kernel_rfl) (by kernel_rfl) (by kernel_rfl) (by rfl) (by rfl) (fun _ _ _ h => h) (Or.inl ⟨by rfl, ?hy7⟩) hHeld ?rest7
        case hy7 => (intro w' hS; obtain ⟨t1, t2⟩ := HS5.out w' hS; (try simp only [List.getElem_toArray, List.getElem_cons_succ, List.getElem_cons_zero]); go_simp; try with_reducible rfl)
        try simp only [Act.put, List.setIfInBounds_toArray, List.set_cons_zero, List.set_cons_succ, List.getElem_toArray, List.getElem_cons_succ, List.getElem_cons_zero]
        clear hHeld
        obtain ⟨V1, hV1⟩ : ∃ V, w8.setCell ⟨w4.heap.size, 4, none⟩ (.slice MA (k.j.n + 1) mc) = V := ⟨_, rfl⟩
        have hr8 := row_below Hr6.out HB8.out
        have p0 := row_cell hr8 4
        have p1 := row_frozen hr8 4
        have hrV1 := row_set hr8 4 (.slice MA (k.j.n + 1) mc)
        rw [hV1] at hrV1
        have p5 := row_cell hrV1 2
        have p6 := row_frozen hrV1 2
        obtain ⟨V2, hV2⟩ : ∃ V, V1.setCell ⟨w4.heap.size, 2, none⟩ (.int .i64 (k.ep + 1)) = V := ⟨_, rfl⟩
        have hrV2 := row_set hrV1 2 (.int .i64 (k.ep + 1))
        rw [hV2] at hrV2
        have tV2 : Turned (fun b => b = w4.heap.size) w8 V2 := by (rw [← hV2, ← hV1]; exact ((Turned.refl (fun b => b = w4.heap.size) w8).setCell (b := ⟨w4.heap.size, 4, none⟩) (fun _ => rfl) _).setCell (b := ⟨w4.heap.size, 2, none⟩) (fun _ => rfl) _)
        have Hb8 := Lib.hid (Hb6.out.trans (HB8.out.mono Hb6.out.size))
        have HbV2 := Lib.hid (Hb8.out.trans (tV2.below (fun b e => by have := H45.out; omega) Hb8.out.size))
        obtain ⟨vs0, vs1, vs2, vs3, vsl, vc0, vc1, vc2, vc3⟩ := F.out V2 HbV2.out
        rw [HAk.out] at vs2
        have hldV := ldCk_run (k := ⟨k.id, k.vo, k.ep + 1, k.m, ⟨MA, k.j.n + 1, mc⟩, k.ms, k.js ++ [(n : Int)]⟩) (CkAt.of_row hrV2)
        simp only at hldV
        obtain ⟨V3, hst3, hown3, ht3⟩ := ks_set (own_belowM (own_belowM HO.out Hbw.out) HbV2.out) (Hqk.out) ⟨k.id, k.vo, k.ep + 1, k.m, ⟨MA, k.j.n + 1, mc⟩, k.ms, k.js ++ [(n : Int)]⟩
        simp only at hst3
        obtain ⟨⟨es0, es1, es2, es3, esl, ec0, ec1, ec2, ec3⟩, hbx⟩ := BXF.out V2 V3 HbV2.out ht3
        obtain ⟨w10, hst, hr10, ht10⟩ := stRf_run hbx rfl f.p f.v f.k f.nx
        have Hr10 := Lib.hid hr10; have Ht10 := Lib.hid ht10; have Hown3 := Lib.hid hown3; have Ht3 := Lib.hid ht3; have TV2 := Lib.hid tV2
        simp at p0 p5
        clear hr8 hrV1 hrV2 tV2 hown3 ht3 hr10 ht10 hbx
        refine wpAnyT_one (i := 9) (by kernel_rfl) rfl (fun K hK => ?_)
        (try simp only [List.getElem_toArray, List.getElem_cons_succ, List.getElem_cons_zero])
        go_simp
        try rw [hV1]
        refine hK.out _ _ (fun h => (by cases h)) ?_
        clear hK K
        try simp only [Act.put, List.setIfInBounds_toArray, List.set_cons_zero, List.set_cons_succ, List.getElem_toArray, List.getElem_cons_succ, List.getElem_cons_zero]
        refine wpAnyT_done (by kernel_rfl) ?_ _
        go_wp2
        refine bodyPost_ret (v := .tuple #[.agg #[.slice f.p.A f.p.n f.p.c, .slice f.v.A f.v.n f.v.c, .slice f.k.A f.k.n f.k.c, .int .i64 f.nx], .int .i64 0]) (results_cell_2 rfl _ _ w2.heap.size 31 #[.slice f.p.A f.p.n f.p.c, .slice f.v.A f.v.n f.v.c, .slice f.k.A f.k.n f.k.c, .int .i64 f.nx] (0, 0) _ (.int .i64 0) rfl rfl Hr10.out Tryz.underlying31 rfl rf_size) rfl ?_
        have g5 : w4.heap.size < w6.heap.size := (Array.getElem?_eq_some_iff.1 Hr6.out).1
        have s3 := Hsz.out; have s4 := H45.out; have sg := Hgl.out; have sb := Hbw.out.size; have sv := HbV2.out.size; have s5 := Hb6.out.size
        have hbV : Below w.heap.size w V2 := Hbw.out.trans (HbV2.out.mono Hbw.out.size)
        have oj : w10.ownsRow w.heap.size 3 1 (.slice MA (k.j.n + 1) mc) (k.j.n + 1) (numsV (k.js ++ [(n : Int)])) := by
          have o0 := Hm8.out
          rw [← numsV_one1 (n : Int), ← numsV_append] at o0
          have o3 := own_turnedM TV2.out o0 (fun b e hb => by have := (o0.lt b e).1; omega)
          have o4 := own_turnedM Ht3.out o3 (fun b e hb => by have := (o3.lt b e).1; omega)
          exact own_baseM (own_turnedM Ht10.out o4 (fun b e hb => by have := (o4.lt b e).1; omega)) (by omega)
        have ht : Turned (fun b => b = gk ∨ w.heap.size ≤ b) w w10 :=
          ((Turned.of_below (p := fun b => b = gk ∨ w.heap.size ≤ b) hbV).trans Ht3.out (fun _ e => e) (fun b _ e => .inl e)).trans Ht10.out (fun _ e => e) (fun b _ e => .inr (by omega))
        have hrow := own_turnedM Ht10.out Hown3.out (fun b e hb => by have e1 : gk = b := Option.some.inj e; omega)
        obtain ⟨cs, hcs⟩ := Hgk.out
        exact ⟨{ f with K := f.K.set q ⟨k.id, k.vo, k.ep + 1, k.m, ⟨MA, k.j.n + 1, mc⟩, k.ms, k.js ++ [(n : Int)]⟩ }, rfl, by simp only [Rf.dat, List.map_set]; rfl,
          chunk_ok HW.out HAk.out ⟨cs, (0, 0), hcs⟩ ht hrow ⟨(HW.out.k.ok k (List.mem_of_getElem? Hk.out)).m.turned ht (NoT.chunk hcs (by decide)), IntsT.own oj⟩, ht.mono (fun b hl e => e.elim (fun e => .inr (.inr (by rw [HAk.out, e]; rfl))) (fun e => absurd e (by omega)))⟩
      exact AllReadyT.nil
    exact AllReadyT.nil
  exact AllReadyT.nil
end Go.Proofs.YtmdmpliiiecmlaaGreat
