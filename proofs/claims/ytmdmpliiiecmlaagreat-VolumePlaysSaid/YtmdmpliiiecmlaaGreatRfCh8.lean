/-
  Contract of dotterelref18's chunk where it promotes, and where a server joins. Conditions: a state whose rows are its own, a command of numbers that an int holds.
-/
import Derived.Test.YtmdmpliiiecmlaaGreatRfCh6
import Derived.Test.YtmdmpliiiecmlaaGreatHeldU
import Derived.Test.YtmdmpliiiecmlaaGreatJF
namespace Go.Proofs.YtmdmpliiiecmlaaGreat
open Go.ChangeShapes Go.WideShapes Go.ChangeAt Go.RowKit
set_option linter.unusedVariables false
set_option linter.unusedSimpArgs false
attribute [local go_sem ↓] ldRf_eq stRf_eq ldCk_eq stCk_eq ldCmd_eq
theorem numsV_one1 (x : Int) : numsV [x] = [.int .i64 x] := rfl
set_option maxRecDepth 100000 in
set_option maxHeartbeats 8000000 in
theorem Rchunk_8yes (f : Rf) (c : Cmd) (q : Nat) (k : Ck) (B : Nat) (w0 w : World) (ho : RfOwn B w0 w f) (hc : CmdIn c) (hx : chIx f.dat.cs c.a = some q) (hk : f.K[q]? = some k) (h8 : c.k = 8) (he : k.ep = c.b) (hh : decide (c.c ∈ k.js) = true) (hep : 0 ≤ k.ep ∧ k.ep ≤ 35184372088832) (hm6 : k.ms.length ≤ 1000000) (hj6 : k.js.length ≤ 1000000) :
    Calls Tryz.prog 49 #[f.val, cmdA c] w (DoRetR f { f.dat with cs := f.dat.cs.set q ⟨k.id, k.vo, k.ep + 1, k.ms ++ [c.c], withoutL k.js c.c⟩ } 0 w) := by
  have h := ho.ok
  unfold Rf.val cmdA
  obtain ⟨w1, hw1, hb1, hr1⟩ := rf_box w f
  obtain ⟨w2, hw2, hb2, hr2⟩ := cmd_box w1 c
  obtain ⟨w3, hw3⟩ : ∃ w3, w2.alloc (.cells #[.slice none 0 0, .slice none 0 0, .slice none 0 0, .int .i64 0] 31) = w3 := ⟨_, rfl⟩
  have hb3 : Below w2.heap.size w2 w3 := by rw [← hw3]; exact below_box _ _
  have hr3 : w3.heap[w2.heap.size]? = some (.cells #[.slice none 0 0, .slice none 0 0, .slice none 0 0, .int .i64 0] 31 (0, 0)) := by rw [← hw3]; exact heap_alloc_new _ _
  have hb12 : Below w.heap.size w w2 := hb1.trans (hb2.mono hb1.size)
  have hbw : Below w.heap.size w w3 := hb12.trans (hb3.mono hb12.size)
  have h1 := row_below (row_below hr1 hb2) hb3
  have h2 := row_below hr2 hb3
  have Hr3 := Lib.hid hr3; have Hbw := Lib.hid hbw; have HW := Lib.hid h
  have Hsz := Lib.hid (show w.heap.size < w1.heap.size ∧ w1.heap.size < w2.heap.size ∧ w2.heap.size < w3.heap.size from ⟨(Array.getElem?_eq_some_iff.1 hr1).1, (Array.getElem?_eq_some_iff.1 hr2).1, (Array.getElem?_eq_some_iff.1 hr3).1⟩)
  have F := Lib.hid (fun V (hv : Below w3.heap.size w3 V) => (Boxes.of (row_below h1 hv) (row_below h2 hv) : Boxes w w1 f c V))
  have H3 := Lib.hid (h.below hbw)
  have K1 := Lib.hid (RChunk f c.a w3 (h.below hbw))
  unfold Rf.val at K1
  obtain ⟨s0, s1, s2, s3, sl, c0, c1, c2, c3⟩ := F.out w3 (Below.refl _ _)
  rw [hx] at K1
  simp only [ixV] at K1
  have hq0 : ¬ (q : Int) < 0 := by omega
  have Hk := Lib.hid hk
  have hq1 : (q : Int) < (f.k.n : Int) := by have := (List.getElem?_eq_some_iff.1 hk).1; have := h.k.len; omega
  have hq2 : (0 : Int) ≤ (q : Int) := by omega
  have HKok := Lib.hid (fun V (hv : Below w3.heap.size w3 V) => (H3.out.below hv).k.ok k (List.mem_of_getElem? hk))
  obtain ⟨gk, hAk⟩ : ∃ g, f.k.A = some ⟨g, 0, none⟩ := by
    rcases ho.k.2 with ⟨e, e2⟩ | ⟨g, cap, cur, e, _⟩
    · have := (List.getElem?_eq_some_iff.1 hk).1; have := h.k.len; omega
    · injection e with e _ _; exact ⟨g, e⟩
  have hok := ho.k
  rw [hAk] at hok
  have HO := Lib.hid hok; have HAk := Lib.hid hAk
  have Hgk := Lib.hid (row_blockM hok (k := gk) rfl)
  have Hgl := Lib.hid (show B ≤ gk ∧ gk < w.heap.size from ⟨(hok.lt gk rfl).1, (hok.lt gk rfl).2⟩)
  have HCk := Lib.hid (fun V (hv : Below w3.heap.size w3 V) => show CkAt V gk (q * 5) k from by
    obtain ⟨g', o', e1, e2⟩ := (H3.out.below hv).k.get hk
    rw [hAk] at e1
    injection e1 with e1
    injection e1 with e3 e4 _
    subst e3; subst e4
    simpa using e2)
  have h7b : (c.k == 7) = false := by rw [h8]; rfl
  have h6b : (c.k == 6) = false := by rw [h8]; rfl
  have h8b : (c.k == 8) = true := by rw [h8]; rfl
  have heb : (k.ep == c.b) = true := by simpa using he
  clear he
  have KJ15 := Lib.hid (fun V (hv : Below w3.heap.size w3 V) => (HKok.out V hv).j.has c.c)
  rw [hh] at KJ15
  have BXF := Lib.hid (fun V V' (hv : Below w3.heap.size w3 V) (ht : Turned (fun b => b = gk) V V') => (⟨Boxes.of (ht.heap (row_below h1 hv) (by have := Hgl.out; omega)) (ht.heap (row_below h2 hv) (by have := Hgl.out; have := Hsz.out; omega)), ht.heap (row_below Hr3.out hv) (by have := Hgl.out; have := Hsz.out; omega)⟩ : Boxes w w1 f c V' ∧ V'.heap[w2.heap.size]? = some (.cells #[.slice none 0 0, .slice none 0 0, .slice none 0 0, .int .i64 0] 31 (0, 0))))
  have Hqk := Lib.hid (List.getElem?_eq_some_iff.1 hk).1
  have KM := Lib.hid (fun V (hv : Below w3.heap.size w3 V) => (HKok.out V hv).m)
  have KJ := Lib.hid (fun V (hv : Below w3.heap.size w3 V) => Rwithout k.j k.js c.c V (HKok.out V hv).j hj6)
  have HLn := Lib.hid (show (numsV k.ms).length = k.m.n * 1 by rw [numsV_length, (HKok.out w3 (Below.refl _ _)).m.len, Nat.mul_one])
  have HMn := Lib.hid (show k.m.n ≤ 1000000 by have := (HKok.out w3 (Below.refl _ _)).m.len; omega)
  clear hx hk h8 hh hok hAk hm6 hj6 ho
  clear h hb1 hb2 hb3 hb12 hbw hr1 hr2 hr3 h1 h2
  go_enter Tryz.func49, Tryz.ntmps49
  go_wp2_with (first
    | (go_at_call 80; refine (KJ15.out w5 Hb5.out).mono ?_; rintro e w6 ⟨rfl, e2⟩; have e3 := e2.symm; subst e3; clear e2)
    | (go_at_call 48; refine K1.out.mono ?_; rintro e w4 ⟨rfl, hb4⟩; have Hb4 := Lib.hid hb4; obtain ⟨ds0, ds1, ds2, ds3, dsl, dc0, dc1, dc2, dc3⟩ := F.out w4 hb4; rw [HAk.out] at ds2; have hldk := ldCk_run (HCk.out w4 hb4); obtain ⟨wz, w5, hwz, hstk, hb5, hr5⟩ := ck_new w4 k; have Hb5 := Lib.hid (hb4.trans (hb5.mono hb4.size)); obtain ⟨xs0, xs1, xs2, xs3, xsl, xc0, xc1, xc2, xc3⟩ := F.out w5 Hb5.out; obtain ⟨k0, k1, k2, k3, k4⟩ := CkAt.of_row hr5; have hldx := ldCk_run (CkAt.of_row hr5); have Hr5 := Lib.hid hr5; have H45 := Lib.hid (Nat.le_trans hb4.size (Nat.le_refl _)); clear hb4 hb5 hr5))
  have HS5 := Lib.hid (fun V (hv : Below w5.heap.size w5 V) => (⟨row_cell (row_below Hr5.out hv) 3, (F.out V (Hb5.out.trans (hv.mono Hb5.out.size))).c3⟩ : V.cell? ⟨w4.heap.size, 3, none⟩ = some (.slice k.m.A k.m.n k.m.c) ∧ V.cell? ⟨w1.heap.size, 3, none⟩ = some (.int .i64 c.c)))
  have HSrc := Lib.hid (fun V (hv : Below w5.heap.size w5 V) => (HKok.out V (Hb5.out.trans (hv.mono Hb5.out.size))).m.see.1)
  have HB0 := Lib.hid ((Below.refl w5.heap.size w5).drew)
  refine wp_region_T (S := fun V => Below w5.heap.size w5 V) 9 (by kernel_rfl) ?_
  have hHeld := HB0.out
  refine wpAnyT_take (i := 1) (v := ?v1) rfl (by kernel_rfl) (by kernel_rfl) (by kernel_rfl) (by kernel_rfl) (by kernel_rfl) (by rfl) (by rfl) (fun _ _ _ h => h) (Or.inl ⟨by rfl, ?hy1⟩) hHeld ?rest1
  case hy1 => (intro w' hS; obtain ⟨t1, t2⟩ := HS5.out w' hS; (try simp only [List.getElem_toArray, List.getElem_cons_succ, List.getElem_cons_zero]); go_simp; try with_reducible rfl)
  try simp only [Act.put, List.setIfInBounds_toArray, List.set_cons_zero, List.set_cons_succ, List.getElem_toArray, List.getElem_cons_succ, List.getElem_cons_zero]
  refine wpAnyT_take (i := 2) (v := ?v2) rfl (by kernel_rfl) (by kernel_rfl) (by kernel_rfl) (by kernel_rfl) (by kernel_rfl) (by rfl) (by rfl) (fun _ _ _ h => h) (Or.inl ⟨by rfl, ?hy2⟩) hHeld ?rest2
  case hy2 => (intro w' hS; obtain ⟨t1, t2⟩ := HS5.out w' hS; (try simp only [List.getElem_toArray, List.getElem_cons_succ, List.getElem_cons_zero]); go_simp; try with_reducible rfl)
  try simp only [Act.put, List.setIfInBounds_toArray, List.set_cons_zero, List.set_cons_succ, List.getElem_toArray, List.getElem_cons_succ, List.getElem_cons_zero]
  refine wpAnyT_take (i := 4) (v := ?v3) rfl (by kernel_rfl) (by kernel_rfl) (by kernel_rfl) (by kernel_rfl) (by kernel_rfl) (by rfl) (by rfl) (fun _ _ _ h => h) (Or.inl ⟨by rfl, ?hy3⟩) hHeld ?rest3
  case hy3 => (intro w' hS; obtain ⟨t1, t2⟩ := HS5.out w' hS; (try simp only [List.getElem_toArray, List.getElem_cons_succ, List.getElem_cons_zero]); go_simp; try with_reducible rfl)
  try simp only [Act.put, List.setIfInBounds_toArray, List.set_cons_zero, List.set_cons_succ, List.getElem_toArray, List.getElem_cons_succ, List.getElem_cons_zero]
  refine wpAnyT_take (i := 5) (v := ?v4) rfl (by kernel_rfl) (by kernel_rfl) (by kernel_rfl) (by kernel_rfl) (by kernel_rfl) (by rfl) (by rfl) (fun _ _ _ h => h) (Or.inl ⟨by rfl, ?hy4⟩) hHeld ?rest4
  case hy4 => (intro w' hS; obtain ⟨t1, t2⟩ := HS5.out w' hS; (try simp only [List.getElem_toArray, List.getElem_cons_succ, List.getElem_cons_zero]); go_simp; try with_reducible rfl)
  try simp only [Act.put, List.setIfInBounds_toArray, List.set_cons_zero, List.set_cons_succ, List.getElem_toArray, List.getElem_cons_succ, List.getElem_cons_zero]
  refine wpAnyT_ready (rs := [0, 6]) (by kernel_rfl) (by simp) ?_
  refine AllReadyT.cons rfl (fun K hK => ?_) ?_
  · clear hHeld
    (try simp only [List.getElem_toArray, List.getElem_cons_succ, List.getElem_cons_zero])
    obtain ⟨U1, hU1⟩ : ∃ W, World.alloc w5.drew (.cells #[] 3) = W := ⟨_, rfl⟩
    have OA1 := Lib.hid (show World.ownsRow U1 w5.heap.size 3 1 (.slice (some ⟨(World.heap w5.drew).size, 0, none⟩) 0 0) 0 [] from (by rw [← hU1]; exact bs_own _ _ HB0.out.size))
    have hbn : Below (World.heap w5.drew).size w5.drew U1 := by rw [← hU1]; exact below_box _ _
    have HB1 := Lib.hid (HB0.out.trans (hbn.mono HB0.out.size))
    go_simp
    try rw [hU1]
    refine hK.out _ _ (fun _ => HB1.out) ?_
    have hHeld := HB1.out
    clear hK K hbn hU1
    try simp only [Act.put, List.setIfInBounds_toArray, List.set_cons_zero, List.set_cons_succ, List.getElem_toArray, List.getElem_cons_succ, List.getElem_cons_zero]
    refine wpAnyT_ready (rs := [3, 6]) (by kernel_rfl) (by simp) ?_
    refine AllReadyT.cons rfl (fun K hK => ?_) ?_
    · clear hHeld
      (try simp only [List.getElem_toArray, List.getElem_cons_succ, List.getElem_cons_zero])
      refine if_wanted (by rfl) ?_
      refine wp_appL (.tmp 120) (.tmp 122) _ (by rfl) 3 _ 1 8 Tryz.underlying27 int_info (by rfl) (by omega) w5.heap.size (some ⟨(World.heap w5.drew).size, 0, none⟩) 0 0 [] (by rfl) OA1.out k.m.A k.m.n k.m.c (numsV k.ms) (by rfl) HLn.out (HSrc.out _ HB1.out) (numsV_one _) (by have := HMn.out; unfold maxLen; omega) (by have := HMn.out; omega) HB1.out.size ?_
      intro MA0 mc0 U2 hown hg hbk
      simp only [Nat.zero_add, List.nil_append] at hown hbk ⊢
      have t : Turned (fun b => (Value.slice (some ⟨(World.heap w5.drew).size, 0, none⟩) 0 0).ownBlock = some b) U1 U2 := Turned.of_grown hg (fun k e => e)
      have OA2 := Lib.hid hown
      have HB2 := Lib.hid (HB1.out.trans (t.below (fun k e => (OA1.out.lt k e).1) HB1.out.size))
      refine hK.out _ _ (fun _ => HB2.out) ?_
      have hHeld := HB2.out
      clear hK K hown hg hbk t
      try simp only [Act.put, List.setIfInBounds_toArray, List.set_cons_zero, List.set_cons_succ, List.getElem_toArray, List.getElem_cons_succ, List.getElem_cons_zero]
      refine wpAnyT_ready (rs := [6]) (by kernel_rfl) (by simp) ?_
      refine AllReadyT.cons rfl (fun K hK => ?_) ?_
      · clear hHeld
        (try simp only [List.getElem_toArray, List.getElem_cons_succ, List.getElem_cons_zero])
        obtain ⟨U3, hU3⟩ : ∃ W, World.alloc U2 (.cells #[.int .i64 c.c] 3) = W := ⟨_, rfl⟩
        have OB3 := Lib.hid (show World.ownsRow U3 w5.heap.size 3 1 (.slice (some ⟨(World.heap U2).size, 0, none⟩) 1 1) 1 [.int .i64 c.c] from (by rw [← hU3]; exact ⟨rfl, .inr ⟨_, 1, _, rfl, HB2.out.size, heap_alloc_new _ _, Nat.le_refl _, by unfold maxLen; omega, rfl, rfl⟩⟩))
        have hbn : Below (World.heap U2).size U2 U3 := by rw [← hU3]; exact below_box _ _
        have HB3 := Lib.hid (HB2.out.trans (hbn.mono HB2.out.size))
        have OA3 := Lib.hid (own_belowM OA2.out hbn)
        go_simp
        try rw [hU3]
        refine hK.out _ _ (fun _ => HB3.out) ?_
        have hHeld := HB3.out
        clear hK K hbn hU3
        try simp only [Act.put, List.setIfInBounds_toArray, List.set_cons_zero, List.set_cons_succ, List.getElem_toArray, List.getElem_cons_succ, List.getElem_cons_zero]
        refine wpAnyT_one (i := 7) (by kernel_rfl) rfl (fun K hK => ?_)
        clear hHeld
        (try simp only [List.getElem_toArray, List.getElem_cons_succ, List.getElem_cons_zero])
        refine if_wanted (by rfl) ?_
        refine wp_appL (.tmp 123) (.tmp 126) _ (by rfl) 3 _ 1 8 Tryz.underlying27 int_info (by rfl) (by omega) w5.heap.size MA0 k.m.n mc0 (numsV k.ms) (by rfl) OA3.out (some ⟨(World.heap U2).size, 0, none⟩) 1 1 [.int .i64 c.c] (by rfl) (by rfl) (own_seenM OB3.out) (by intro u hu; simp at hu; subst hu; rfl) (by have := HMn.out; unfold maxLen; omega) (by have := HMn.out; omega) HB3.out.size ?_
        intro MA mc w8 hown hg hbk
        have t : Turned (fun b => (Value.slice MA0 k.m.n mc0).ownBlock = some b) U3 w8 := Turned.of_grown hg (fun k e => e)
        have HB8 := Lib.hid (HB3.out.trans (t.below (fun k e => (OA3.out.lt k e).1) HB3.out.size))
        have Hm8 := Lib.hid hown
        refine hK.out _ _ (fun _ => HB8.out) ?_
        have hHeld := HB8.out
        clear hK K hown hg hbk t
        try simp only [Act.put, List.setIfInBounds_toArray, List.set_cons_zero, List.set_cons_succ, List.getElem_toArray, List.getElem_cons_succ, List.getElem_cons_zero]
        refine wpAnyT_take (i := 8) (v := ?v5) rfl (by kernel_rfl) (by kernel_rfl) (by kernel_rfl) (by kernel_rfl) (by kernel_rfl) (by rfl) (by rfl) (fun _ _ _ h => h) (Or.inl ⟨by rfl, ?hy5⟩) hHeld ?rest5
        case hy5 => (intro w' hS; obtain ⟨t1, t2⟩ := HS5.out w' hS; (try simp only [List.getElem_toArray, List.getElem_cons_succ, List.getElem_cons_zero]); go_simp; try with_reducible rfl)
        try simp only [Act.put, List.setIfInBounds_toArray, List.set_cons_zero, List.set_cons_succ, List.getElem_toArray, List.getElem_cons_succ, List.getElem_cons_zero]
        clear hHeld
        obtain ⟨V0, hV0⟩ : ∃ V, w8.setCell ⟨w4.heap.size, 3, none⟩ (.slice MA (k.m.n + 1) mc) = V := ⟨_, rfl⟩
        have hr8 := row_below Hr5.out HB8.out
        have hrV0 := row_set hr8 3 (.slice MA (k.m.n + 1) mc)
        rw [hV0] at hrV0
        have tV0 : Turned (fun b => b = w4.heap.size) w8 V0 := by (rw [← hV0]; exact (Turned.refl (fun b => b = w4.heap.size) w8).setCell (b := ⟨w4.heap.size, 3, none⟩) (fun _ => rfl) _)
        have Hb8 := Lib.hid (Hb5.out.trans (HB8.out.mono Hb5.out.size))
        have HbV0 := Lib.hid (Hb8.out.trans (tV0.below (fun b e => by have := H45.out; omega) Hb8.out.size))
        have p0 := row_cell hr8 3
        have p1 := row_frozen hr8 3
        have p2 := row_cell hrV0 4
        simp at p0 p2
        obtain ⟨us0, us1, us2, us3, usl, uc0, uc1, uc2, uc3⟩ := F.out V0 HbV0.out
        have HrV0 := Lib.hid hrV0
        have TV0 := Lib.hid tV0
        clear hr8 hrV0 tV0
        refine wpAnyT_one (i := 9) (by kernel_rfl) rfl (fun K hK => ?_)
        (try simp only [List.getElem_toArray, List.getElem_cons_succ, List.getElem_cons_zero])
        go_simp
        try rw [hV0]
        refine hK.out _ _ (fun h => (by cases h)) ?_
        clear hK K
        try simp only [Act.put, List.setIfInBounds_toArray, List.set_cons_zero, List.set_cons_succ, List.getElem_toArray, List.getElem_cons_succ, List.getElem_cons_zero]
        refine wpAnyT_done (by kernel_rfl) ?_ _
        go_wp2_with (go_at_call 81; (with_reducible refine (KJ.out V0 HbV0.out).mono ?_); rintro e w9 ⟨JA, jc, rfl, hown9, hb9⟩; have Hb9 := Lib.hid (HbV0.out.trans (hb9.mono HbV0.out.size)); have Hj9 := Lib.hid hown9; have Hb89 := Lib.hid hb9; have hr9 := row_below HrV0.out hb9; have p3 := row_cell hr9 4; have p4 := row_frozen hr9 4; obtain ⟨V1, hV1⟩ : ∃ V, w9.setCell ⟨w4.heap.size, 4, none⟩ (.slice JA (withoutL k.js c.c).length jc) = V := ⟨_, rfl⟩; have hrV1 := row_set hr9 4 (.slice JA (withoutL k.js c.c).length jc); rw [hV1] at hrV1; have p5 := row_cell hrV1 2; have p6 := row_frozen hrV1 2; obtain ⟨V2, hV2⟩ : ∃ V, V1.setCell ⟨w4.heap.size, 2, none⟩ (.int .i64 (k.ep + 1)) = V := ⟨_, rfl⟩; have hrV2 := row_set hrV1 2 (.int .i64 (k.ep + 1)); rw [hV2] at hrV2; have tV2 : Turned (fun b => b = w4.heap.size) w9 V2 := by { rw [← hV2, ← hV1]; exact ((Turned.refl (fun b => b = w4.heap.size) w9).setCell (b := ⟨w4.heap.size, 4, none⟩) (fun _ => rfl) _).setCell (b := ⟨w4.heap.size, 2, none⟩) (fun _ => rfl) _ }; have HbV2 := Lib.hid (Hb9.out.trans (tV2.below (fun b e => by have := H45.out; omega) Hb9.out.size)); obtain ⟨vs0, vs1, vs2, vs3, vsl, vc0, vc1, vc2, vc3⟩ := F.out V2 HbV2.out; rw [HAk.out] at vs2; have hldV := ldCk_run (k := ⟨k.id, k.vo, k.ep + 1, ⟨MA, (k.m.n + 1), mc⟩, ⟨JA, (withoutL k.js c.c).length, jc⟩, (k.ms ++ [c.c]), withoutL k.js c.c⟩) (CkAt.of_row hrV2); simp only at hldV; obtain ⟨V3, hst3, hown3, ht3⟩ := ks_set (own_belowM (own_belowM HO.out Hbw.out) HbV2.out) (Hqk.out) ⟨k.id, k.vo, k.ep + 1, ⟨MA, (k.m.n + 1), mc⟩, ⟨JA, (withoutL k.js c.c).length, jc⟩, (k.ms ++ [c.c]), withoutL k.js c.c⟩; simp only at hst3; have hbx := BXF.out V2 V3 HbV2.out ht3; obtain ⟨es0, es1, es2, es3, esl, ec0, ec1, ec2, ec3⟩ := hbx.1; obtain ⟨w10, hst, hr10, ht10⟩ := stRf_run hbx.2 rfl f.p f.v f.k f.nx; have Hr10 := Lib.hid hr10; have Ht10 := Lib.hid ht10; have Hown3 := Lib.hid hown3; have Ht3 := Lib.hid ht3; have TV2 := Lib.hid tV2; simp at p3 p5; clear hown9 hb9 hr9 hrV1 hrV2 tV2 hown3 ht3 hr10 ht10 hbx)
        refine bodyPost_ret (v := .tuple #[.agg #[.slice f.p.A f.p.n f.p.c, .slice f.v.A f.v.n f.v.c, .slice f.k.A f.k.n f.k.c, .int .i64 f.nx], .int .i64 0]) (results_cell_2 rfl _ _ w2.heap.size 31 #[.slice f.p.A f.p.n f.p.c, .slice f.v.A f.v.n f.v.c, .slice f.k.A f.k.n f.k.c, .int .i64 f.nx] (0, 0) _ (.int .i64 0) rfl rfl Hr10.out Tryz.underlying31 rfl rf_size) rfl ?_
        have g5 : w4.heap.size < w5.heap.size := (Array.getElem?_eq_some_iff.1 Hr5.out).1
        have g0 : w4.heap.size < V0.heap.size := (Array.getElem?_eq_some_iff.1 HrV0.out).1
        have s3 := Hsz.out; have s4 := H45.out; have sg := Hgl.out; have sb := Hbw.out.size; have sv := HbV2.out.size; have s5 := Hb5.out.size
        have hbV : Below w.heap.size w V2 := Hbw.out.trans (HbV2.out.mono Hbw.out.size)
        have om : w10.ownsRow w.heap.size 3 1 (.slice MA (k.m.n + 1) mc) (k.m.n + 1) (numsV (k.ms ++ [c.c])) := by
          have o0 := Hm8.out
          rw [← numsV_one1 c.c, ← numsV_append] at o0
          have o1 := own_turnedM TV0.out o0 (fun b e hb => by have := (o0.lt b e).1; omega)
          have o2 := own_belowM o1 Hb89.out
          have o3 := own_turnedM TV2.out o2 (fun b e hb => by have := (o2.lt b e).1; omega)
          have o4 := own_turnedM Ht3.out o3 (fun b e hb => by have := (o3.lt b e).1; omega)
          exact own_baseM (own_turnedM Ht10.out o4 (fun b e hb => by have := (o4.lt b e).1; omega)) (by omega)
        have oj : w10.ownsRow w.heap.size 3 1 (.slice JA (withoutL k.js c.c).length jc) (withoutL k.js c.c).length (numsV (withoutL k.js c.c)) := by
          have s0 := HbV0.out.size
          have o3 := own_turnedM TV2.out Hj9.out (fun b e hb => by have := (Hj9.out.lt b e).1; omega)
          have o4 := own_turnedM Ht3.out o3 (fun b e hb => by have := (o3.lt b e).1; omega)
          exact own_baseM (own_turnedM Ht10.out o4 (fun b e hb => by have := (o4.lt b e).1; omega)) (by omega)
        have ht : Turned (fun b => b = gk ∨ w.heap.size ≤ b) w w10 :=
          ((Turned.of_below (p := fun b => b = gk ∨ w.heap.size ≤ b) hbV).trans Ht3.out (fun _ e => e) (fun b _ e => .inl e)).trans Ht10.out (fun _ e => e) (fun b _ e => .inr (by omega))
        have hrow := own_turnedM Ht10.out Hown3.out (fun b e hb => by have e1 : gk = b := Option.some.inj e; omega)
        obtain ⟨cs, hcs⟩ := Hgk.out
        exact ⟨{ f with K := f.K.set q ⟨k.id, k.vo, k.ep + 1, ⟨MA, (k.m.n + 1), mc⟩, ⟨JA, (withoutL k.js c.c).length, jc⟩, (k.ms ++ [c.c]), withoutL k.js c.c⟩ }, rfl, by simp only [Rf.dat, List.map_set]; rfl,
          chunk_ok HW.out HAk.out ⟨cs, (0, 0), hcs⟩ ht hrow ⟨IntsT.own om, IntsT.own oj⟩, ht.mono (fun b hl e => e.elim (fun e => .inr (.inr (by rw [HAk.out, e]; rfl))) (fun e => absurd e (by omega)))⟩
      exact AllReadyT.nil
    refine AllReadyT.cons rfl (fun K hK => ?_) ?_
    · clear hHeld
      (try simp only [List.getElem_toArray, List.getElem_cons_succ, List.getElem_cons_zero])
      obtain ⟨U2, hU2⟩ : ∃ W, World.alloc U1 (.cells #[.int .i64 c.c] 3) = W := ⟨_, rfl⟩
      have OB2 := Lib.hid (show World.ownsRow U2 w5.heap.size 3 1 (.slice (some ⟨(World.heap U1).size, 0, none⟩) 1 1) 1 [.int .i64 c.c] from (by rw [← hU2]; exact ⟨rfl, .inr ⟨_, 1, _, rfl, HB1.out.size, heap_alloc_new _ _, Nat.le_refl _, by unfold maxLen; omega, rfl, rfl⟩⟩))
      have hbn : Below (World.heap U1).size U1 U2 := by rw [← hU2]; exact below_box _ _
      have HB2 := Lib.hid (HB1.out.trans (hbn.mono HB1.out.size))
      have OA2 := Lib.hid (own_belowM OA1.out hbn)
      have NE2 := Lib.hid (show (World.heap w5.drew).size ≠ (World.heap U1).size from (by have := (Array.getElem?_eq_some_iff.1 (row_blockM OA1.out (k := (World.heap w5.drew).size) rfl).choose_spec).1; omega))
      go_simp
      try rw [hU2]
      refine hK.out _ _ (fun _ => HB2.out) ?_
      have hHeld := HB2.out
      clear hK K hbn hU2
      try simp only [Act.put, List.setIfInBounds_toArray, List.set_cons_zero, List.set_cons_succ, List.getElem_toArray, List.getElem_cons_succ, List.getElem_cons_zero]
      refine wpAnyT_ready (rs := [3]) (by kernel_rfl) (by simp) ?_
      refine AllReadyT.cons rfl (fun K hK => ?_) ?_
      · clear hHeld
        (try simp only [List.getElem_toArray, List.getElem_cons_succ, List.getElem_cons_zero])
        refine if_wanted (by rfl) ?_
        refine wp_appL (.tmp 120) (.tmp 122) _ (by rfl) 3 _ 1 8 Tryz.underlying27 int_info (by rfl) (by omega) w5.heap.size (some ⟨(World.heap w5.drew).size, 0, none⟩) 0 0 [] (by rfl) OA2.out k.m.A k.m.n k.m.c (numsV k.ms) (by rfl) HLn.out (HSrc.out _ HB2.out) (numsV_one _) (by have := HMn.out; unfold maxLen; omega) (by have := HMn.out; omega) HB2.out.size ?_
        intro MA0 mc0 U3 hown hg hbk
        simp only [Nat.zero_add, List.nil_append] at hown hbk ⊢
        have t : Turned (fun b => (Value.slice (some ⟨(World.heap w5.drew).size, 0, none⟩) 0 0).ownBlock = some b) U2 U3 := Turned.of_grown hg (fun k e => e)
        have OA3 := Lib.hid hown
        have HB3 := Lib.hid (HB2.out.trans (t.below (fun k e => (OA2.out.lt k e).1) HB2.out.size))
        have OB3 := Lib.hid (own_turnedM t OB2.out (fun k e e' => NE2.out (Option.some.inj (e'.trans e.symm))))
        have NF3 := Lib.hid (show ∀ b, (Value.slice MA0 k.m.n mc0).ownBlock = some b → b ≠ (World.heap U1).size from fun b hk e => by rcases hbk b hk with h | h; (exact NE2.out ((Option.some.inj h).trans e)); (have := (Array.getElem?_eq_some_iff.1 (row_blockM OB2.out (k := (World.heap U1).size) rfl).choose_spec).1; omega))
        refine hK.out _ _ (fun _ => HB3.out) ?_
        have hHeld := HB3.out
        clear hK K hown hg hbk t
        try simp only [Act.put, List.setIfInBounds_toArray, List.set_cons_zero, List.set_cons_succ, List.getElem_toArray, List.getElem_cons_succ, List.getElem_cons_zero]
        refine wpAnyT_one (i := 7) (by kernel_rfl) rfl (fun K hK => ?_)
        clear hHeld
        (try simp only [List.getElem_toArray, List.getElem_cons_succ, List.getElem_cons_zero])
        refine if_wanted (by rfl) ?_
        refine wp_appL (.tmp 123) (.tmp 126) _ (by rfl) 3 _ 1 8 Tryz.underlying27 int_info (by rfl) (by omega) w5.heap.size MA0 k.m.n mc0 (numsV k.ms) (by rfl) OA3.out (some ⟨(World.heap U1).size, 0, none⟩) 1 1 [.int .i64 c.c] (by rfl) (by rfl) (own_seenM OB3.out) (by intro u hu; simp at hu; subst hu; rfl) (by have := HMn.out; unfold maxLen; omega) (by have := HMn.out; omega) HB3.out.size ?_
        intro MA mc w8 hown hg hbk
        have t : Turned (fun b => (Value.slice MA0 k.m.n mc0).ownBlock = some b) U3 w8 := Turned.of_grown hg (fun k e => e)
        have HB8 := Lib.hid (HB3.out.trans (t.below (fun k e => (OA3.out.lt k e).1) HB3.out.size))
        have Hm8 := Lib.hid hown
        refine hK.out _ _ (fun _ => HB8.out) ?_
        have hHeld := HB8.out
        clear hK K hown hg hbk t
        try simp only [Act.put, List.setIfInBounds_toArray, List.set_cons_zero, List.set_cons_succ, List.getElem_toArray, List.getElem_cons_succ, List.getElem_cons_zero]
        refine wpAnyT_take (i := 8) (v := ?v6) rfl (by kernel_rfl) (by kernel_rfl) (by kernel_rfl) (by kernel_rfl) (by kernel_rfl) (by rfl) (by rfl) (fun _ _ _ h => h) (Or.inl ⟨by rfl, ?hy6⟩) hHeld ?rest6
        case hy6 => (intro w' hS; obtain ⟨t1, t2⟩ := HS5.out w' hS; (try simp only [List.getElem_toArray, List.getElem_cons_succ, List.getElem_cons_zero]); go_simp; try with_reducible rfl)
        try simp only [Act.put, List.setIfInBounds_toArray, List.set_cons_zero, List.set_cons_succ, List.getElem_toArray, List.getElem_cons_succ, List.getElem_cons_zero]
        clear hHeld
        obtain ⟨V0, hV0⟩ : ∃ V, w8.setCell ⟨w4.heap.size, 3, none⟩ (.slice MA (k.m.n + 1) mc) = V := ⟨_, rfl⟩
        have hr8 := row_below Hr5.out HB8.out
        have hrV0 := row_set hr8 3 (.slice MA (k.m.n + 1) mc)
        rw [hV0] at hrV0
        have tV0 : Turned (fun b => b = w4.heap.size) w8 V0 := by (rw [← hV0]; exact (Turned.refl (fun b => b = w4.heap.size) w8).setCell (b := ⟨w4.heap.size, 3, none⟩) (fun _ => rfl) _)
        have Hb8 := Lib.hid (Hb5.out.trans (HB8.out.mono Hb5.out.size))
        have HbV0 := Lib.hid (Hb8.out.trans (tV0.below (fun b e => by have := H45.out; omega) Hb8.out.size))
        have p0 := row_cell hr8 3
        have p1 := row_frozen hr8 3
        have p2 := row_cell hrV0 4
        simp at p0 p2
        obtain ⟨us0, us1, us2, us3, usl, uc0, uc1, uc2, uc3⟩ := F.out V0 HbV0.out
        have HrV0 := Lib.hid hrV0
        have TV0 := Lib.hid tV0
        clear hr8 hrV0 tV0
        refine wpAnyT_one (i := 9) (by kernel_rfl) rfl (fun K hK => ?_)
        (try simp only [List.getElem_toArray, List.getElem_cons_succ, List.getElem_cons_zero])
        go_simp
        try rw [hV0]
        refine hK.out _ _ (fun h => (by cases h)) ?_
        clear hK K
        try simp only [Act.put, List.setIfInBounds_toArray, List.set_cons_zero, List.set_cons_succ, List.getElem_toArray, List.getElem_cons_succ, List.getElem_cons_zero]
        refine wpAnyT_done (by kernel_rfl) ?_ _
        go_wp2_with (go_at_call 81; (with_reducible refine (KJ.out V0 HbV0.out).mono ?_); rintro e w9 ⟨JA, jc, rfl, hown9, hb9⟩; have Hb9 := Lib.hid (HbV0.out.trans (hb9.mono HbV0.out.size)); have Hj9 := Lib.hid hown9; have Hb89 := Lib.hid hb9; have hr9 := row_below HrV0.out hb9; have p3 := row_cell hr9 4; have p4 := row_frozen hr9 4; obtain ⟨V1, hV1⟩ : ∃ V, w9.setCell ⟨w4.heap.size, 4, none⟩ (.slice JA (withoutL k.js c.c).length jc) = V := ⟨_, rfl⟩; have hrV1 := row_set hr9 4 (.slice JA (withoutL k.js c.c).length jc); rw [hV1] at hrV1; have p5 := row_cell hrV1 2; have p6 := row_frozen hrV1 2; obtain ⟨V2, hV2⟩ : ∃ V, V1.setCell ⟨w4.heap.size, 2, none⟩ (.int .i64 (k.ep + 1)) = V := ⟨_, rfl⟩; have hrV2 := row_set hrV1 2 (.int .i64 (k.ep + 1)); rw [hV2] at hrV2; have tV2 : Turned (fun b => b = w4.heap.size) w9 V2 := by { rw [← hV2, ← hV1]; exact ((Turned.refl (fun b => b = w4.heap.size) w9).setCell (b := ⟨w4.heap.size, 4, none⟩) (fun _ => rfl) _).setCell (b := ⟨w4.heap.size, 2, none⟩) (fun _ => rfl) _ }; have HbV2 := Lib.hid (Hb9.out.trans (tV2.below (fun b e => by have := H45.out; omega) Hb9.out.size)); obtain ⟨vs0, vs1, vs2, vs3, vsl, vc0, vc1, vc2, vc3⟩ := F.out V2 HbV2.out; rw [HAk.out] at vs2; have hldV := ldCk_run (k := ⟨k.id, k.vo, k.ep + 1, ⟨MA, (k.m.n + 1), mc⟩, ⟨JA, (withoutL k.js c.c).length, jc⟩, (k.ms ++ [c.c]), withoutL k.js c.c⟩) (CkAt.of_row hrV2); simp only at hldV; obtain ⟨V3, hst3, hown3, ht3⟩ := ks_set (own_belowM (own_belowM HO.out Hbw.out) HbV2.out) (Hqk.out) ⟨k.id, k.vo, k.ep + 1, ⟨MA, (k.m.n + 1), mc⟩, ⟨JA, (withoutL k.js c.c).length, jc⟩, (k.ms ++ [c.c]), withoutL k.js c.c⟩; simp only at hst3; have hbx := BXF.out V2 V3 HbV2.out ht3; obtain ⟨es0, es1, es2, es3, esl, ec0, ec1, ec2, ec3⟩ := hbx.1; obtain ⟨w10, hst, hr10, ht10⟩ := stRf_run hbx.2 rfl f.p f.v f.k f.nx; have Hr10 := Lib.hid hr10; have Ht10 := Lib.hid ht10; have Hown3 := Lib.hid hown3; have Ht3 := Lib.hid ht3; have TV2 := Lib.hid tV2; simp at p3 p5; clear hown9 hb9 hr9 hrV1 hrV2 tV2 hown3 ht3 hr10 ht10 hbx)
        refine bodyPost_ret (v := .tuple #[.agg #[.slice f.p.A f.p.n f.p.c, .slice f.v.A f.v.n f.v.c, .slice f.k.A f.k.n f.k.c, .int .i64 f.nx], .int .i64 0]) (results_cell_2 rfl _ _ w2.heap.size 31 #[.slice f.p.A f.p.n f.p.c, .slice f.v.A f.v.n f.v.c, .slice f.k.A f.k.n f.k.c, .int .i64 f.nx] (0, 0) _ (.int .i64 0) rfl rfl Hr10.out Tryz.underlying31 rfl rf_size) rfl ?_
        have g5 : w4.heap.size < w5.heap.size := (Array.getElem?_eq_some_iff.1 Hr5.out).1
        have g0 : w4.heap.size < V0.heap.size := (Array.getElem?_eq_some_iff.1 HrV0.out).1
        have s3 := Hsz.out; have s4 := H45.out; have sg := Hgl.out; have sb := Hbw.out.size; have sv := HbV2.out.size; have s5 := Hb5.out.size
        have hbV : Below w.heap.size w V2 := Hbw.out.trans (HbV2.out.mono Hbw.out.size)
        have om : w10.ownsRow w.heap.size 3 1 (.slice MA (k.m.n + 1) mc) (k.m.n + 1) (numsV (k.ms ++ [c.c])) := by
          have o0 := Hm8.out
          rw [← numsV_one1 c.c, ← numsV_append] at o0
          have o1 := own_turnedM TV0.out o0 (fun b e hb => by have := (o0.lt b e).1; omega)
          have o2 := own_belowM o1 Hb89.out
          have o3 := own_turnedM TV2.out o2 (fun b e hb => by have := (o2.lt b e).1; omega)
          have o4 := own_turnedM Ht3.out o3 (fun b e hb => by have := (o3.lt b e).1; omega)
          exact own_baseM (own_turnedM Ht10.out o4 (fun b e hb => by have := (o4.lt b e).1; omega)) (by omega)
        have oj : w10.ownsRow w.heap.size 3 1 (.slice JA (withoutL k.js c.c).length jc) (withoutL k.js c.c).length (numsV (withoutL k.js c.c)) := by
          have s0 := HbV0.out.size
          have o3 := own_turnedM TV2.out Hj9.out (fun b e hb => by have := (Hj9.out.lt b e).1; omega)
          have o4 := own_turnedM Ht3.out o3 (fun b e hb => by have := (o3.lt b e).1; omega)
          exact own_baseM (own_turnedM Ht10.out o4 (fun b e hb => by have := (o4.lt b e).1; omega)) (by omega)
        have ht : Turned (fun b => b = gk ∨ w.heap.size ≤ b) w w10 :=
          ((Turned.of_below (p := fun b => b = gk ∨ w.heap.size ≤ b) hbV).trans Ht3.out (fun _ e => e) (fun b _ e => .inl e)).trans Ht10.out (fun _ e => e) (fun b _ e => .inr (by omega))
        have hrow := own_turnedM Ht10.out Hown3.out (fun b e hb => by have e1 : gk = b := Option.some.inj e; omega)
        obtain ⟨cs, hcs⟩ := Hgk.out
        exact ⟨{ f with K := f.K.set q ⟨k.id, k.vo, k.ep + 1, ⟨MA, (k.m.n + 1), mc⟩, ⟨JA, (withoutL k.js c.c).length, jc⟩, (k.ms ++ [c.c]), withoutL k.js c.c⟩ }, rfl, by simp only [Rf.dat, List.map_set]; rfl,
          chunk_ok HW.out HAk.out ⟨cs, (0, 0), hcs⟩ ht hrow ⟨IntsT.own om, IntsT.own oj⟩, ht.mono (fun b hl e => e.elim (fun e => .inr (.inr (by rw [HAk.out, e]; rfl))) (fun e => absurd e (by omega)))⟩
      exact AllReadyT.nil
    exact AllReadyT.nil
  refine AllReadyT.cons rfl (fun K hK => ?_) ?_
  · clear hHeld
    (try simp only [List.getElem_toArray, List.getElem_cons_succ, List.getElem_cons_zero])
    obtain ⟨U1, hU1⟩ : ∃ W, World.alloc w5.drew (.cells #[.int .i64 c.c] 3) = W := ⟨_, rfl⟩
    have OB1 := Lib.hid (show World.ownsRow U1 w5.heap.size 3 1 (.slice (some ⟨(World.heap w5.drew).size, 0, none⟩) 1 1) 1 [.int .i64 c.c] from (by rw [← hU1]; exact ⟨rfl, .inr ⟨_, 1, _, rfl, HB0.out.size, heap_alloc_new _ _, Nat.le_refl _, by unfold maxLen; omega, rfl, rfl⟩⟩))
    have hbn : Below (World.heap w5.drew).size w5.drew U1 := by rw [← hU1]; exact below_box _ _
    have HB1 := Lib.hid (HB0.out.trans (hbn.mono HB0.out.size))
    go_simp
    try rw [hU1]
    refine hK.out _ _ (fun _ => HB1.out) ?_
    have hHeld := HB1.out
    clear hK K hbn hU1
    try simp only [Act.put, List.setIfInBounds_toArray, List.set_cons_zero, List.set_cons_succ, List.getElem_toArray, List.getElem_cons_succ, List.getElem_cons_zero]
    refine wpAnyT_ready (rs := [0]) (by kernel_rfl) (by simp) ?_
    refine AllReadyT.cons rfl (fun K hK => ?_) ?_
    · clear hHeld
      (try simp only [List.getElem_toArray, List.getElem_cons_succ, List.getElem_cons_zero])
      obtain ⟨U2, hU2⟩ : ∃ W, World.alloc U1 (.cells #[] 3) = W := ⟨_, rfl⟩
      have OA2 := Lib.hid (show World.ownsRow U2 w5.heap.size 3 1 (.slice (some ⟨(World.heap U1).size, 0, none⟩) 0 0) 0 [] from (by rw [← hU2]; exact bs_own _ _ HB1.out.size))
      have hbn : Below (World.heap U1).size U1 U2 := by rw [← hU2]; exact below_box _ _
      have HB2 := Lib.hid (HB1.out.trans (hbn.mono HB1.out.size))
      have OB2 := Lib.hid (own_belowM OB1.out hbn)
      have NE2 := Lib.hid (show (World.heap U1).size ≠ (World.heap w5.drew).size from (by have := (Array.getElem?_eq_some_iff.1 (row_blockM OB1.out (k := (World.heap w5.drew).size) rfl).choose_spec).1; omega))
      go_simp
      try rw [hU2]
      refine hK.out _ _ (fun _ => HB2.out) ?_
      have hHeld := HB2.out
      clear hK K hbn hU2
      try simp only [Act.put, List.setIfInBounds_toArray, List.set_cons_zero, List.set_cons_succ, List.getElem_toArray, List.getElem_cons_succ, List.getElem_cons_zero]
      refine wpAnyT_ready (rs := [3]) (by kernel_rfl) (by simp) ?_
      refine AllReadyT.cons rfl (fun K hK => ?_) ?_
      · clear hHeld
        (try simp only [List.getElem_toArray, List.getElem_cons_succ, List.getElem_cons_zero])
        refine if_wanted (by rfl) ?_
        refine wp_appL (.tmp 120) (.tmp 122) _ (by rfl) 3 _ 1 8 Tryz.underlying27 int_info (by rfl) (by omega) w5.heap.size (some ⟨(World.heap U1).size, 0, none⟩) 0 0 [] (by rfl) OA2.out k.m.A k.m.n k.m.c (numsV k.ms) (by rfl) HLn.out (HSrc.out _ HB2.out) (numsV_one _) (by have := HMn.out; unfold maxLen; omega) (by have := HMn.out; omega) HB2.out.size ?_
        intro MA0 mc0 U3 hown hg hbk
        simp only [Nat.zero_add, List.nil_append] at hown hbk ⊢
        have t : Turned (fun b => (Value.slice (some ⟨(World.heap U1).size, 0, none⟩) 0 0).ownBlock = some b) U2 U3 := Turned.of_grown hg (fun k e => e)
        have OA3 := Lib.hid hown
        have HB3 := Lib.hid (HB2.out.trans (t.below (fun k e => (OA2.out.lt k e).1) HB2.out.size))
        have OB3 := Lib.hid (own_turnedM t OB2.out (fun k e e' => NE2.out (Option.some.inj (e'.trans e.symm))))
        have NF3 := Lib.hid (show ∀ b, (Value.slice MA0 k.m.n mc0).ownBlock = some b → b ≠ (World.heap w5.drew).size from fun b hk e => by rcases hbk b hk with h | h; (exact NE2.out ((Option.some.inj h).trans e)); (have := (Array.getElem?_eq_some_iff.1 (row_blockM OB2.out (k := (World.heap w5.drew).size) rfl).choose_spec).1; omega))
        refine hK.out _ _ (fun _ => HB3.out) ?_
        have hHeld := HB3.out
        clear hK K hown hg hbk t
        try simp only [Act.put, List.setIfInBounds_toArray, List.set_cons_zero, List.set_cons_succ, List.getElem_toArray, List.getElem_cons_succ, List.getElem_cons_zero]
        refine wpAnyT_one (i := 7) (by kernel_rfl) rfl (fun K hK => ?_)
        clear hHeld
        (try simp only [List.getElem_toArray, List.getElem_cons_succ, List.getElem_cons_zero])
        refine if_wanted (by rfl) ?_
        refine wp_appL (.tmp 123) (.tmp 126) _ (by rfl) 3 _ 1 8 Tryz.underlying27 int_info (by rfl) (by omega) w5.heap.size MA0 k.m.n mc0 (numsV k.ms) (by rfl) OA3.out (some ⟨(World.heap w5.drew).size, 0, none⟩) 1 1 [.int .i64 c.c] (by rfl) (by rfl) (own_seenM OB3.out) (by intro u hu; simp at hu; subst hu; rfl) (by have := HMn.out; unfold maxLen; omega) (by have := HMn.out; omega) HB3.out.size ?_
        intro MA mc w8 hown hg hbk
        have t : Turned (fun b => (Value.slice MA0 k.m.n mc0).ownBlock = some b) U3 w8 := Turned.of_grown hg (fun k e => e)
        have HB8 := Lib.hid (HB3.out.trans (t.below (fun k e => (OA3.out.lt k e).1) HB3.out.size))
        have Hm8 := Lib.hid hown
        refine hK.out _ _ (fun _ => HB8.out) ?_
        have hHeld := HB8.out
        clear hK K hown hg hbk t
        try simp only [Act.put, List.setIfInBounds_toArray, List.set_cons_zero, List.set_cons_succ, List.getElem_toArray, List.getElem_cons_succ, List.getElem_cons_zero]
        refine wpAnyT_take (i := 8) (v := ?v7) rfl (by kernel_rfl) (by kernel_rfl) (by kernel_rfl) (by kernel_rfl) (by kernel_rfl) (by rfl) (by rfl) (fun _ _ _ h => h) (Or.inl ⟨by rfl, ?hy7⟩) hHeld ?rest7
        case hy7 => (intro w' hS; obtain ⟨t1, t2⟩ := HS5.out w' hS; (try simp only [List.getElem_toArray, List.getElem_cons_succ, List.getElem_cons_zero]); go_simp; try with_reducible rfl)
        try simp only [Act.put, List.setIfInBounds_toArray, List.set_cons_zero, List.set_cons_succ, List.getElem_toArray, List.getElem_cons_succ, List.getElem_cons_zero]
        clear hHeld
        obtain ⟨V0, hV0⟩ : ∃ V, w8.setCell ⟨w4.heap.size, 3, none⟩ (.slice MA (k.m.n + 1) mc) = V := ⟨_, rfl⟩
        have hr8 := row_below Hr5.out HB8.out
        have hrV0 := row_set hr8 3 (.slice MA (k.m.n + 1) mc)
        rw [hV0] at hrV0
        have tV0 : Turned (fun b => b = w4.heap.size) w8 V0 := by (rw [← hV0]; exact (Turned.refl (fun b => b = w4.heap.size) w8).setCell (b := ⟨w4.heap.size, 3, none⟩) (fun _ => rfl) _)
        have Hb8 := Lib.hid (Hb5.out.trans (HB8.out.mono Hb5.out.size))
        have HbV0 := Lib.hid (Hb8.out.trans (tV0.below (fun b e => by have := H45.out; omega) Hb8.out.size))
        have p0 := row_cell hr8 3
        have p1 := row_frozen hr8 3
        have p2 := row_cell hrV0 4
        simp at p0 p2
        obtain ⟨us0, us1, us2, us3, usl, uc0, uc1, uc2, uc3⟩ := F.out V0 HbV0.out
        have HrV0 := Lib.hid hrV0
        have TV0 := Lib.hid tV0
        clear hr8 hrV0 tV0
        refine wpAnyT_one (i := 9) (by kernel_rfl) rfl (fun K hK => ?_)
        (try simp only [List.getElem_toArray, List.getElem_cons_succ, List.getElem_cons_zero])
        go_simp
        try rw [hV0]
        refine hK.out _ _ (fun h => (by cases h)) ?_
        clear hK K
        try simp only [Act.put, List.setIfInBounds_toArray, List.set_cons_zero, List.set_cons_succ, List.getElem_toArray, List.getElem_cons_succ, List.getElem_cons_zero]
        refine wpAnyT_done (by kernel_rfl) ?_ _
        go_wp2_with (go_at_call 81; (with_reducible refine (KJ.out V0 HbV0.out).mono ?_); rintro e w9 ⟨JA, jc, rfl, hown9, hb9⟩; have Hb9 := Lib.hid (HbV0.out.trans (hb9.mono HbV0.out.size)); have Hj9 := Lib.hid hown9; have Hb89 := Lib.hid hb9; have hr9 := row_below HrV0.out hb9; have p3 := row_cell hr9 4; have p4 := row_frozen hr9 4; obtain ⟨V1, hV1⟩ : ∃ V, w9.setCell ⟨w4.heap.size, 4, none⟩ (.slice JA (withoutL k.js c.c).length jc) = V := ⟨_, rfl⟩; have hrV1 := row_set hr9 4 (.slice JA (withoutL k.js c.c).length jc); rw [hV1] at hrV1; have p5 := row_cell hrV1 2; have p6 := row_frozen hrV1 2; obtain ⟨V2, hV2⟩ : ∃ V, V1.setCell ⟨w4.heap.size, 2, none⟩ (.int .i64 (k.ep + 1)) = V := ⟨_, rfl⟩; have hrV2 := row_set hrV1 2 (.int .i64 (k.ep + 1)); rw [hV2] at hrV2; have tV2 : Turned (fun b => b = w4.heap.size) w9 V2 := by { rw [← hV2, ← hV1]; exact ((Turned.refl (fun b => b = w4.heap.size) w9).setCell (b := ⟨w4.heap.size, 4, none⟩) (fun _ => rfl) _).setCell (b := ⟨w4.heap.size, 2, none⟩) (fun _ => rfl) _ }; have HbV2 := Lib.hid (Hb9.out.trans (tV2.below (fun b e => by have := H45.out; omega) Hb9.out.size)); obtain ⟨vs0, vs1, vs2, vs3, vsl, vc0, vc1, vc2, vc3⟩ := F.out V2 HbV2.out; rw [HAk.out] at vs2; have hldV := ldCk_run (k := ⟨k.id, k.vo, k.ep + 1, ⟨MA, (k.m.n + 1), mc⟩, ⟨JA, (withoutL k.js c.c).length, jc⟩, (k.ms ++ [c.c]), withoutL k.js c.c⟩) (CkAt.of_row hrV2); simp only at hldV; obtain ⟨V3, hst3, hown3, ht3⟩ := ks_set (own_belowM (own_belowM HO.out Hbw.out) HbV2.out) (Hqk.out) ⟨k.id, k.vo, k.ep + 1, ⟨MA, (k.m.n + 1), mc⟩, ⟨JA, (withoutL k.js c.c).length, jc⟩, (k.ms ++ [c.c]), withoutL k.js c.c⟩; simp only at hst3; have hbx := BXF.out V2 V3 HbV2.out ht3; obtain ⟨es0, es1, es2, es3, esl, ec0, ec1, ec2, ec3⟩ := hbx.1; obtain ⟨w10, hst, hr10, ht10⟩ := stRf_run hbx.2 rfl f.p f.v f.k f.nx; have Hr10 := Lib.hid hr10; have Ht10 := Lib.hid ht10; have Hown3 := Lib.hid hown3; have Ht3 := Lib.hid ht3; have TV2 := Lib.hid tV2; simp at p3 p5; clear hown9 hb9 hr9 hrV1 hrV2 tV2 hown3 ht3 hr10 ht10 hbx)
        refine bodyPost_ret (v := .tuple #[.agg #[.slice f.p.A f.p.n f.p.c, .slice f.v.A f.v.n f.v.c, .slice f.k.A f.k.n f.k.c, .int .i64 f.nx], .int .i64 0]) (results_cell_2 rfl _ _ w2.heap.size 31 #[.slice f.p.A f.p.n f.p.c, .slice f.v.A f.v.n f.v.c, .slice f.k.A f.k.n f.k.c, .int .i64 f.nx] (0, 0) _ (.int .i64 0) rfl rfl Hr10.out Tryz.underlying31 rfl rf_size) rfl ?_
        have g5 : w4.heap.size < w5.heap.size := (Array.getElem?_eq_some_iff.1 Hr5.out).1
        have g0 : w4.heap.size < V0.heap.size := (Array.getElem?_eq_some_iff.1 HrV0.out).1
        have s3 := Hsz.out; have s4 := H45.out; have sg := Hgl.out; have sb := Hbw.out.size; have sv := HbV2.out.size; have s5 := Hb5.out.size
        have hbV : Below w.heap.size w V2 := Hbw.out.trans (HbV2.out.mono Hbw.out.size)
        have om : w10.ownsRow w.heap.size 3 1 (.slice MA (k.m.n + 1) mc) (k.m.n + 1) (numsV (k.ms ++ [c.c])) := by
          have o0 := Hm8.out
          rw [← numsV_one1 c.c, ← numsV_append] at o0
          have o1 := own_turnedM TV0.out o0 (fun b e hb => by have := (o0.lt b e).1; omega)
          have o2 := own_belowM o1 Hb89.out
          have o3 := own_turnedM TV2.out o2 (fun b e hb => by have := (o2.lt b e).1; omega)
          have o4 := own_turnedM Ht3.out o3 (fun b e hb => by have := (o3.lt b e).1; omega)
          exact own_baseM (own_turnedM Ht10.out o4 (fun b e hb => by have := (o4.lt b e).1; omega)) (by omega)
        have oj : w10.ownsRow w.heap.size 3 1 (.slice JA (withoutL k.js c.c).length jc) (withoutL k.js c.c).length (numsV (withoutL k.js c.c)) := by
          have s0 := HbV0.out.size
          have o3 := own_turnedM TV2.out Hj9.out (fun b e hb => by have := (Hj9.out.lt b e).1; omega)
          have o4 := own_turnedM Ht3.out o3 (fun b e hb => by have := (o3.lt b e).1; omega)
          exact own_baseM (own_turnedM Ht10.out o4 (fun b e hb => by have := (o4.lt b e).1; omega)) (by omega)
        have ht : Turned (fun b => b = gk ∨ w.heap.size ≤ b) w w10 :=
          ((Turned.of_below (p := fun b => b = gk ∨ w.heap.size ≤ b) hbV).trans Ht3.out (fun _ e => e) (fun b _ e => .inl e)).trans Ht10.out (fun _ e => e) (fun b _ e => .inr (by omega))
        have hrow := own_turnedM Ht10.out Hown3.out (fun b e hb => by have e1 : gk = b := Option.some.inj e; omega)
        obtain ⟨cs, hcs⟩ := Hgk.out
        exact ⟨{ f with K := f.K.set q ⟨k.id, k.vo, k.ep + 1, ⟨MA, (k.m.n + 1), mc⟩, ⟨JA, (withoutL k.js c.c).length, jc⟩, (k.ms ++ [c.c]), withoutL k.js c.c⟩ }, rfl, by simp only [Rf.dat, List.map_set]; rfl,
          chunk_ok HW.out HAk.out ⟨cs, (0, 0), hcs⟩ ht hrow ⟨IntsT.own om, IntsT.own oj⟩, ht.mono (fun b hl e => e.elim (fun e => .inr (.inr (by rw [HAk.out, e]; rfl))) (fun e => absurd e (by omega)))⟩
      exact AllReadyT.nil
    exact AllReadyT.nil
  exact AllReadyT.nil
end Go.Proofs.YtmdmpliiiecmlaaGreat
