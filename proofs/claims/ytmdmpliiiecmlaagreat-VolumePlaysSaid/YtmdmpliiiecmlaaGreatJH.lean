/-
  Joined: RfDo3, RfDo2, RfSet, RfDo5. Conditions: each theorem's own.
-/
import Derived.Test.YtmdmpliiiecmlaaGreatRfDo1
import Derived.StillTailTactics

section
namespace Go.Proofs.YtmdmpliiiecmlaaGreat
open Go.ChangeShapes Go.WideShapes Go.ChangeAt Go.RowKit
set_option linter.unusedVariables false
set_option linter.unusedSimpArgs false
attribute [local go_sem ↓] ldRf_eq stRf_eq ldCk_eq stCk_eq ldCmd_eq ldPol_eq
set_option maxRecDepth 100000 in
set_option maxHeartbeats 2000000 in
theorem Rdo_5no (f : Rf) (c : Cmd) (w : World) (h : RfOk w f) (hc : CmdIn c) (hk : c.k = 5) (hr : rightP c.p = false) :
    Calls Tryz.prog 17 #[f.val, cmdA c] w (DoRetR f f.dat 1 w) := by
  unfold Rf.val cmdA
  obtain ⟨w1, hw1, hb1, hr1⟩ := rf_box w f
  obtain ⟨w2, hw2, hb2, hr2⟩ := cmd_box w1 c
  obtain ⟨w3, hw3⟩ : ∃ w3, w2.alloc (.cells #[.slice none 0 0, .slice none 0 0, .slice none 0 0, .int .i64 0] 31) = w3 := ⟨_, rfl⟩
  have hb3 : Below w2.heap.size w2 w3 := by rw [← hw3]; exact below_box _ _
  have hr3 : w3.heap[w2.heap.size]? = some (.cells #[.slice none 0 0, .slice none 0 0, .slice none 0 0, .int .i64 0] 31 (0, 0)) := by rw [← hw3]; exact heap_alloc_new _ _
  have hb12 : Below w.heap.size w w2 := hb1.trans (hb2.mono hb1.size)
  have hbw : Below w.heap.size w w3 := hb12.trans (hb3.mono hb12.size)
  have h1 := row_below (row_below hr1 hb2) hb3
  have h2 := row_below hr2 hb3
  have Hr3 := Lib.hid hr3; have Hbw := Lib.hid hbw; have HW := Lib.hid h
  have Hsz := Lib.hid (show w.heap.size < w1.heap.size ∧ w1.heap.size < w2.heap.size ∧ w2.heap.size < w3.heap.size from ⟨(Array.getElem?_eq_some_iff.1 hr1).1, (Array.getElem?_eq_some_iff.1 hr2).1, (Array.getElem?_eq_some_iff.1 hr3).1⟩)
  have F := Lib.hid (fun V (hv : Below w3.heap.size w3 V) => (Boxes.of (row_below h1 hv) (row_below h2 hv) : Boxes w w1 f c V))
  have H3 := Lib.hid (h.below hbw)
  have K1 := Lib.hid (RVol f c.a w3 (h.below hbw))
  unfold Rf.val at K1
  obtain ⟨s0, s1, s2, s3, sl, c0, c1, c2, c3⟩ := F.out w3 (Below.refl _ _)
  obtain ⟨va, hva⟩ : ∃ v, ixV (volIx f.dat.vs c.a) = v := ⟨_, rfl⟩
  rw [hva] at K1
  clear hva
  have hk1 : (c.k == 1) = false := by simp; omega
  have hk2 : (c.k == 2) = false := by simp; omega
  have hk3 : (c.k == 3) = false := by simp; omega
  have hk4 : (c.k == 4) = false := by simp; omega
  have hk5 : (c.k == 5) = true := by simpa using hk
  have KR := Lib.hid (fun V (hv : Below w3.heap.size w3 V) => RRight_any c.p V)
  rw [hr] at KR
  have HPl := Lib.hid (fun V (hv : Below w3.heap.size w3 V) => ldPol_run (CmdAt.pol (w := w1) (row_below h2 hv) hc.hp))
  clear hk hr
  clear h hb1 hb2 hb3 hb12 hbw hr1 hr2 hr3 h1 h2
  go_enter Tryz.func17, Tryz.ntmps17
  go_wp2_with (first
    | (go_at_call 44; refine (KR.out w4 Hb4.out).mono ?_; rintro e w5 ⟨rfl, hb5⟩; have Hb5 := Lib.hid (Hb4.out.trans (hb5.mono Hb4.out.size)); obtain ⟨xs0, xs1, xs2, xs3, xsl, xc0, xc1, xc2, xc3⟩ := F.out w5 Hb5.out; obtain ⟨w9, hst, hr9, ht9⟩ := stRf_run (row_below Hr3.out Hb5.out) rfl f.p f.v f.k f.nx; have Hr9 := Lib.hid hr9; have Ht9 := Lib.hid ht9; clear hr9 ht9; clear hb5)
    | (go_at_call 43; refine K1.out.mono ?_; rintro e w4 ⟨rfl, hb4⟩; have Hb4 := Lib.hid hb4; obtain ⟨ds0, ds1, ds2, ds3, dsl, dc0, dc1, dc2, dc3⟩ := F.out w4 hb4; have hpl := HPl.out w4 hb4; clear hb4))
  refine bodyPost_ret (v := .tuple #[.agg #[.slice f.p.A f.p.n f.p.c, .slice f.v.A f.v.n f.v.c, .slice f.k.A f.k.n f.k.c, .int .i64 f.nx], .int .i64 1]) (results_cell_2 rfl _ _ w2.heap.size 31 #[.slice f.p.A f.p.n f.p.c, .slice f.v.A f.v.n f.v.c, .slice f.k.A f.k.n f.k.c, .int .i64 f.nx] (0, 0) _ (.int .i64 1) rfl rfl Hr9.out Tryz.underlying31 rfl rf_size) rfl ?_
  exact refuse_end HW.out Hbw.out Hb5.out (by have := Hsz.out; omega) Ht9.out
set_option maxRecDepth 100000 in
set_option maxHeartbeats 2000000 in
theorem Rdo_5none (f : Rf) (c : Cmd) (w : World) (h : RfOk w f) (hc : CmdIn c) (hk : c.k = 5) (hr : rightP c.p = true) (hv : volIx f.dat.vs c.a = none) :
    Calls Tryz.prog 17 #[f.val, cmdA c] w (DoRetR f f.dat 7 w) := by
  unfold Rf.val cmdA
  obtain ⟨w1, hw1, hb1, hr1⟩ := rf_box w f
  obtain ⟨w2, hw2, hb2, hr2⟩ := cmd_box w1 c
  obtain ⟨w3, hw3⟩ : ∃ w3, w2.alloc (.cells #[.slice none 0 0, .slice none 0 0, .slice none 0 0, .int .i64 0] 31) = w3 := ⟨_, rfl⟩
  have hb3 : Below w2.heap.size w2 w3 := by rw [← hw3]; exact below_box _ _
  have hr3 : w3.heap[w2.heap.size]? = some (.cells #[.slice none 0 0, .slice none 0 0, .slice none 0 0, .int .i64 0] 31 (0, 0)) := by rw [← hw3]; exact heap_alloc_new _ _
  have hb12 : Below w.heap.size w w2 := hb1.trans (hb2.mono hb1.size)
  have hbw : Below w.heap.size w w3 := hb12.trans (hb3.mono hb12.size)
  have h1 := row_below (row_below hr1 hb2) hb3
  have h2 := row_below hr2 hb3
  have Hr3 := Lib.hid hr3; have Hbw := Lib.hid hbw; have HW := Lib.hid h
  have Hsz := Lib.hid (show w.heap.size < w1.heap.size ∧ w1.heap.size < w2.heap.size ∧ w2.heap.size < w3.heap.size from ⟨(Array.getElem?_eq_some_iff.1 hr1).1, (Array.getElem?_eq_some_iff.1 hr2).1, (Array.getElem?_eq_some_iff.1 hr3).1⟩)
  have F := Lib.hid (fun V (hv : Below w3.heap.size w3 V) => (Boxes.of (row_below h1 hv) (row_below h2 hv) : Boxes w w1 f c V))
  have H3 := Lib.hid (h.below hbw)
  have K1 := Lib.hid (RVol f c.a w3 (h.below hbw))
  unfold Rf.val at K1
  obtain ⟨s0, s1, s2, s3, sl, c0, c1, c2, c3⟩ := F.out w3 (Below.refl _ _)
  rw [hv] at K1
  simp only [ixV] at K1
  clear hv
  have hk1 : (c.k == 1) = false := by simp; omega
  have hk2 : (c.k == 2) = false := by simp; omega
  have hk3 : (c.k == 3) = false := by simp; omega
  have hk4 : (c.k == 4) = false := by simp; omega
  have hk5 : (c.k == 5) = true := by simpa using hk
  have KR := Lib.hid (fun V (hv : Below w3.heap.size w3 V) => RRight_any c.p V)
  rw [hr] at KR
  have HPl := Lib.hid (fun V (hv : Below w3.heap.size w3 V) => ldPol_run (CmdAt.pol (w := w1) (row_below h2 hv) hc.hp))
  clear hk hr
  clear h hb1 hb2 hb3 hb12 hbw hr1 hr2 hr3 h1 h2
  go_enter Tryz.func17, Tryz.ntmps17
  go_wp2_with (first
    | (go_at_call 44; refine (KR.out w4 Hb4.out).mono ?_; rintro e w5 ⟨rfl, hb5⟩; have Hb5 := Lib.hid (Hb4.out.trans (hb5.mono Hb4.out.size)); obtain ⟨xs0, xs1, xs2, xs3, xsl, xc0, xc1, xc2, xc3⟩ := F.out w5 Hb5.out; obtain ⟨w9, hst, hr9, ht9⟩ := stRf_run (row_below Hr3.out Hb5.out) rfl f.p f.v f.k f.nx; have Hr9 := Lib.hid hr9; have Ht9 := Lib.hid ht9; clear hr9 ht9; clear hb5)
    | (go_at_call 43; refine K1.out.mono ?_; rintro e w4 ⟨rfl, hb4⟩; have Hb4 := Lib.hid hb4; obtain ⟨ds0, ds1, ds2, ds3, dsl, dc0, dc1, dc2, dc3⟩ := F.out w4 hb4; have hpl := HPl.out w4 hb4; clear hb4))
  refine bodyPost_ret (v := .tuple #[.agg #[.slice f.p.A f.p.n f.p.c, .slice f.v.A f.v.n f.v.c, .slice f.k.A f.k.n f.k.c, .int .i64 f.nx], .int .i64 7]) (results_cell_2 rfl _ _ w2.heap.size 31 #[.slice f.p.A f.p.n f.p.c, .slice f.v.A f.v.n f.v.c, .slice f.k.A f.k.n f.k.c, .int .i64 f.nx] (0, 0) _ (.int .i64 7) rfl rfl Hr9.out Tryz.underlying31 rfl rf_size) rfl ?_
  exact refuse_end HW.out Hbw.out Hb5.out (by have := Hsz.out; omega) Ht9.out
end Go.Proofs.YtmdmpliiiecmlaaGreat
end

section
namespace Go.Proofs.YtmdmpliiiecmlaaGreat
open Go.ChangeShapes Go.WideShapes Go.ChangeAt Go.RowKit
set_option linter.unusedVariables false
set_option linter.unusedSimpArgs false
theorem own_setI {w : World} {B g n c j : Nat} {us : List Int} (h : w.ownsRow B 3 1 (.slice (some ⟨g, 0, none⟩) n c) n (numsV us)) (hj : j < us.length) (v : Int) :
    (w.setCell ⟨g, j, none⟩ (.int .i64 v)).ownsRow B 3 1 (.slice (some ⟨g, 0, none⟩) n c) n (numsV (us.set j v)) ∧ Turned (fun b => b = g) w (w.setCell ⟨g, j, none⟩ (.int .i64 v)) ∧
      (∃ x, w.cell? ⟨g, j, none⟩ = some x) ∧ w.frozen? ⟨g, j, none⟩ = false := by
  have hlen := h.1
  rw [numsV_length] at hlen
  rcases h.2 with ⟨hv, _⟩ | ⟨g', cap, cur, hv, hg, hh, h1, h2, h3, h4⟩
  · cases hv
  injection hv with hv _ hc
  injection hv with hv
  injection hv with hv
  subst hv; subst hc
  have hs := row_set hh j (.int .i64 v)
  refine ⟨⟨by rw [numsV_length, List.length_set]; exact hlen, .inr ⟨g, c, _, rfl, hg, hs, h1, h2, by simpa using h3, ?_⟩⟩, (Turned.refl (fun b => b = g) w).setCell (b := ⟨g, j, none⟩) (fun _ => rfl) _, ⟨_, by rw [row_cell hh, Array.getElem?_eq_getElem (by omega)]⟩, row_frozen hh _⟩
  have e : numsV (us.set j v) = (numsV us).set j (.int .i64 v) := by simp [numsV, List.map_set]
  rw [e, ← h4, Array.toList_setIfInBounds, List.take_set]
theorem picks_set (pk : Nat → Int) {n : Nat} (hn : n < 16) (v : Int) : picksL (fun i => if (i : Int) = (n : Int) then v else pk i) = (picksL pk).set n v := by
  unfold picksL
  apply List.ext_getElem?
  intro j
  rw [List.getElem?_set]
  simp only [List.getElem?_map, List.length_map, List.length_range]
  by_cases h : n = j
  · subst h
    rw [if_pos rfl, if_pos hn, List.getElem?_range hn]
    simp
  · rw [if_neg h]
    by_cases hj : j < 16
    · rw [List.getElem?_range hj]
      simp only [Option.map_some]
      rw [if_neg (by omega)]
    · rw [List.getElem?_eq_none (by simp; omega)]
      rfl
attribute [local go_sem ↓] ldRf_eq stRf_eq ldCk_eq stCk_eq ldCmd_eq
set_option maxRecDepth 100000 in
set_option maxHeartbeats 2000000 in
theorem Rdo_1yes (f : Rf) (c : Cmd) (n B : Nat) (w0 w : World) (ho : RfOwn B w0 w f) (hc : CmdIn c) (hk : c.k = 1) (hn : n < 16) (ha : c.a = (n : Int)) (hb : 1 ≤ c.b ∧ c.b ≤ 64) :
    Calls Tryz.prog 17 #[f.val, cmdA c] w (DoRetR f { f.dat with pk := fun i => if (i : Int) = c.a then c.b else f.pk i } 0 w) := by
  obtain ⟨ck, ca, cb, cc, cp⟩ := c
  simp only at hk ha hb ⊢
  subst hk; subst ha
  have h := ho.ok
  unfold Rf.val cmdA
  obtain ⟨w1, hw1, hb1, hr1⟩ := rf_box w f
  obtain ⟨w2, hw2, hb2, hr2⟩ := cmd_box w1 ⟨1, (n : Int), cb, cc, cp⟩
  obtain ⟨w3, hw3⟩ : ∃ w3, w2.alloc (.cells #[.slice none 0 0, .slice none 0 0, .slice none 0 0, .int .i64 0] 31) = w3 := ⟨_, rfl⟩
  have hb3 : Below w2.heap.size w2 w3 := by rw [← hw3]; exact below_box _ _
  have hr3 : w3.heap[w2.heap.size]? = some (.cells #[.slice none 0 0, .slice none 0 0, .slice none 0 0, .int .i64 0] 31 (0, 0)) := by rw [← hw3]; exact heap_alloc_new _ _
  have hb12 : Below w.heap.size w w2 := hb1.trans (hb2.mono hb1.size)
  have hbw : Below w.heap.size w w3 := hb12.trans (hb3.mono hb12.size)
  have h1 := row_below (row_below hr1 hb2) hb3
  have h2 := row_below hr2 hb3
  have Hr3 := Lib.hid hr3; have Hbw := Lib.hid hbw; have HW := Lib.hid h
  have Hsz := Lib.hid (show w.heap.size < w1.heap.size ∧ w1.heap.size < w2.heap.size ∧ w2.heap.size < w3.heap.size from ⟨(Array.getElem?_eq_some_iff.1 hr1).1, (Array.getElem?_eq_some_iff.1 hr2).1, (Array.getElem?_eq_some_iff.1 hr3).1⟩)
  have F := Lib.hid (fun V (hv : Below w3.heap.size w3 V) => (Boxes.of (row_below h1 hv) (row_below h2 hv) : Boxes w w1 f ⟨1, (n : Int), cb, cc, cp⟩ V))
  have H3 := Lib.hid (h.below hbw)
  have K1 := Lib.hid (RVol f (n : Int) w3 (h.below hbw))
  unfold Rf.val at K1
  obtain ⟨s0, s1, s2, s3, sl, c0, c1, c2, c3⟩ := F.out w3 (Below.refl _ _)
  simp only at s0 s1 s2 s3 sl c0 c1 c2 c3 F hw2
  obtain ⟨va, hva⟩ : ∃ v, ixV (volIx f.dat.vs (n : Int)) = v := ⟨_, rfl⟩
  rw [hva] at K1
  have b1 : ¬ cb < 1 := by omega
  have b2 : ¬ (64 : Int) < cb := by omega
  have i0 : (0 : Int) ≤ (n : Int) := by omega
  have i2 : ¬ (n : Int) < 0 := by omega
  have i3 : ¬ (15 : Int) < (n : Int) := by omega
  have i1 : (n : Int) < (f.p.n : Int) := by have := h.pn; omega
  have HO := Lib.hid ho
  obtain ⟨gp, hAp⟩ : ∃ g, f.p.A = some ⟨g, 0, none⟩ := by
    rcases ho.p.2 with ⟨e, e2⟩ | ⟨g, cap, cur, e, _⟩
    · have := h.pn; omega
    · injection e with e _ _; exact ⟨g, e⟩
  have hop := ho.p
  rw [hAp] at hop
  have HOp := Lib.hid hop; have HAp := Lib.hid hAp
  have Hgl := Lib.hid (show B ≤ gp ∧ gp < w.heap.size from ⟨(hop.lt gp rfl).1, (hop.lt gp rfl).2⟩)
  have BXF := Lib.hid (fun V V' (hv : Below w3.heap.size w3 V) (ht : Turned (fun b => b = gp) V V') => (⟨Boxes.of (ht.heap (row_below h1 hv) (by have := Hgl.out; omega)) (ht.heap (row_below h2 hv) (by have := Hgl.out; have := Hsz.out; omega)), ht.heap (row_below Hr3.out hv) (by have := Hgl.out; have := Hsz.out; omega)⟩ : Boxes w w1 f ⟨1, (n : Int), cb, cc, cp⟩ V' ∧ V'.heap[w2.heap.size]? = some (.cells #[.slice none 0 0, .slice none 0 0, .slice none 0 0, .int .i64 0] 31 (0, 0))))
  clear hva ho hop hAp
  clear h hb1 hb2 hb3 hb12 hbw hr1 hr2 hr3 h1 h2
  go_enter Tryz.func17, Tryz.ntmps17
  go_wp2_with ((go_at_call 43; refine K1.out.mono ?_; rintro e w4 ⟨rfl, hb4⟩; have Hb4 := Lib.hid hb4; obtain ⟨ds0, ds1, ds2, ds3, dsl, dc0, dc1, dc2, dc3⟩ := F.out w4 hb4; rw [HAp.out] at ds0; obtain ⟨hown5, ht5, ⟨x5, hx5⟩, hf5⟩ := own_setI (own_belowM (own_belowM HOp.out Hbw.out) hb4) (j := n) (by simp [picksL]; omega) cb; obtain ⟨V1, hV1⟩ : ∃ V, w4.setCell ⟨gp, n, none⟩ (.int .i64 cb) = V := ⟨_, rfl⟩; rw [hV1] at hown5 ht5; obtain ⟨⟨es0, es1, es2, es3, esl, ec0, ec1, ec2, ec3⟩, hbx⟩ := BXF.out w4 V1 hb4 ht5; obtain ⟨w9, hst, hr9, ht9⟩ := stRf_run hbx rfl f.p f.v f.k f.nx; have Hr9 := Lib.hid hr9; have Ht9 := Lib.hid ht9; have Hown5 := Lib.hid hown5; have Ht5 := Lib.hid ht5; clear hr9 ht9 hown5 ht5 hbx; clear hb4))
  refine bodyPost_ret (v := .tuple #[.agg #[.slice f.p.A f.p.n f.p.c, .slice f.v.A f.v.n f.v.c, .slice f.k.A f.k.n f.k.c, .int .i64 f.nx], .int .i64 0]) (results_cell_2 rfl _ _ w2.heap.size 31 #[.slice f.p.A f.p.n f.p.c, .slice f.v.A f.v.n f.v.c, .slice f.k.A f.k.n f.k.c, .int .i64 f.nx] (0, 0) _ (.int .i64 0) rfl rfl Hr9.out Tryz.underlying31 rfl rf_size) rfl ?_
  have s3 := Hsz.out; have sb := Hbw.out.size; have s4 := Hb4.out.size; have sg := Hgl.out
  have hb4 : Below w.heap.size w w4 := Hbw.out.trans (Hb4.out.mono Hbw.out.size)
  have ho := HO.out
  have neP : ∀ {T : TypeId} {z m : Nat} {v : Value} {xs : List Value}, T ≠ 3 → w.ownsRow B T z v m xs → w9.ownsRow B T z v m xs := fun {T z m v xs} hT o => by
    have o4 := own_belowM o hb4
    have o5 := own_turnedM Ht5.out o4 (fun b e hb => own_apart o HOp.out hT e (by rw [hb]; rfl))
    exact own_turnedM Ht9.out o5 (fun b e hb => by have := (o.lt b e).2; omega)
  have op : w9.ownsRow B 3 1 (.slice f.p.A f.p.n f.p.c) f.p.n (numsV (picksL fun i => if (i : Int) = (n : Int) then cb else f.pk i)) := by
    rw [HAp.out, picks_set f.pk hn cb]
    exact own_turnedM Ht9.out Hown5.out (fun b e hb => by have e1 : gp = b := Option.some.inj e; omega)
  have hbl : Below w0.heap.size w0 w9 := ((ho.bel.trans (hb4.mono ho.bel.size)).trans (Ht5.out.below (fun b e => by have := ho.hB; omega) (by have := ho.bel.size; omega))).trans (Ht9.out.below (fun b e => by have := ho.hB; omega) (by have := ho.bel.size; have := Ht5.out.size; omega))
  have own : RfOwn B w0 w9 { f with pk := fun i => if (i : Int) = (n : Int) then cb else f.pk i } :=
    ⟨op, neP (by decide) ho.v, neP (by decide) ho.k, ho.vok, ho.inp, ho.kok, ho.vl, ho.kl, fun i hi => by
      show 0 ≤ (if (i : Int) = (n : Int) then cb else f.pk i) ∧ (if (i : Int) = (n : Int) then cb else f.pk i) ≤ 64
      split
      · omega
      · exact ho.pin i hi, ho.hB, hbl⟩
  exact ⟨{ f with pk := fun i => if (i : Int) = (n : Int) then cb else f.pk i }, rfl, rfl, own.ok, ((Turned.of_below (p := RowB f) hb4).trans Ht5.out (fun _ e => e) (fun b _ e => .inl (by rw [HAp.out, e]; rfl))).trans Ht9.out (fun _ e => e) (fun b hl e => absurd e (by omega))⟩
end Go.Proofs.YtmdmpliiiecmlaaGreat
end

section
namespace Go.Proofs.YtmdmpliiiecmlaaGreat
open Go.ChangeShapes Go.WideShapes Go.ChangeAt Go.RowKit
set_option linter.unusedVariables false

theorem own_cell1 {w : World} {B g n c z o : Nat} {T : TypeId} {xs : List Value} (h : w.ownsRow B T z (.slice (some ⟨g, 0, none⟩) n c) n xs) (ho : o < xs.length) (v : Value) :
    (w.setCell ⟨g, o, none⟩ v).ownsRow B T z (.slice (some ⟨g, 0, none⟩) n c) n (xs.set o v) ∧ Turned (fun b => b = g) w (w.setCell ⟨g, o, none⟩ v) ∧ (∃ x, w.cell? ⟨g, o, none⟩ = some x) ∧ w.frozen? ⟨g, o, none⟩ = false := by
  have hlen := h.1
  rcases h.2 with ⟨hv, _⟩ | ⟨g', cap, cur, hv, hg, hh, h1, h2, h3, h4⟩
  · cases hv
  injection hv with hv _ hc
  injection hv with hv
  injection hv with hv
  subst hv; subst hc
  have hs := row_set hh o v
  have hcl : o < cur.size := by
    have := congrArg List.length h4
    rw [List.length_take, Array.length_toList] at this
    omega
  refine ⟨⟨by rw [List.length_set]; exact hlen, .inr ⟨g, c, _, rfl, hg, hs, h1, h2, by simpa using h3, ?_⟩⟩, (Turned.refl (fun b => b = g) w).setCell (b := ⟨g, o, none⟩) (fun _ => rfl) _, ⟨_, by rw [row_cell hh, Array.getElem?_eq_getElem hcl]⟩, row_frozen hh _⟩
  rw [← h4, Array.toList_setIfInBounds, List.take_set]
theorem own_cells {w : World} {B g n c z o : Nat} {T : TypeId} {xs new : List Value} (h : w.ownsRow B T z (.slice (some ⟨g, 0, none⟩) n c) n xs) (ho : o + new.length ≤ xs.length) :
    (w.setCells g o new).ownsRow B T z (.slice (some ⟨g, 0, none⟩) n c) n (xs.take o ++ new ++ xs.drop (o + new.length)) ∧ Turned (fun b => b = g) w (w.setCells g o new) ∧ w.there g o new.length := by
  have hlen := h.1
  rcases h.2 with ⟨hv, _⟩ | ⟨g', cap, cur, hv, hg, hh, h1, h2, h3, h4⟩
  · cases hv
  injection hv with hv _ hc
  injection hv with hv
  injection hv with hv
  subst hv; subst hc
  obtain ⟨Z, hZ⟩ : ∃ Z, cur.toList.drop (n * z) = Z := ⟨_, rfl⟩
  have e2 : cur.toList = xs ++ Z := by rw [← h4, ← hZ, List.take_append_drop]
  have e1 : xs = xs.take o ++ (xs.drop o).take new.length ++ xs.drop (o + new.length) := by
    rw [List.append_assoc]
    conv => lhs; rw [← List.take_append_drop o xs, ← List.take_append_drop new.length (xs.drop o), List.drop_drop]
  have ecur : cur = (xs.take o ++ (xs.drop o).take new.length ++ (xs.drop (o + new.length) ++ Z)).toArray := by
    apply Array.ext'
    rw [e2]
    conv => lhs; rw [e1]
    simp [List.append_assoc]
  have hrow : w.heap[g]? = some (.cells (xs.take o ++ (xs.drop o).take new.length ++ (xs.drop (o + new.length) ++ Z)).toArray T (0, 0)) := by rw [← ecur]; exact hh
  have hs := set_row (b := g) (e := T) (Z := xs.drop (o + new.length) ++ Z) new (xs.take o) ((xs.drop o).take new.length) w o hrow (by rw [List.length_take, List.length_drop]; omega) (by rw [List.length_take]; omega)
  have hsz : cur.size = xs.length + Z.length := by rw [← Array.length_toList, e2, List.length_append]
  have hl3 : (xs.take o ++ new ++ xs.drop (o + new.length)).length = n * z := by
    rw [List.length_append, List.length_append, List.length_take, List.length_drop]; omega
  refine ⟨⟨hl3, .inr ⟨g, c, _, rfl, hg, hs, h1, h2, ?_, ?_⟩⟩, turned_cellsI (p := fun k => k = g) (fun _ => rfl) _ _ _ (Turned.refl _ _), fun q hq => ⟨by rw [row_cell hh, Array.getElem?_eq_getElem (by omega)]; rfl, row_frozen hh _⟩⟩
  · rw [List.size_toArray, ← List.append_assoc, List.length_append, hl3]
    omega
  · show List.take (n * z) (xs.take o ++ new ++ (xs.drop (o + new.length) ++ Z)) = _
    rw [← List.append_assoc, ← hl3, List.take_left]
theorem vksV_set {X : List Vk} {q : Nat} (hq : q < X.length) (v : Vk) : vksV (X.set q v) = (vksV X).take (q * 8) ++ vkC v ++ (vksV X).drop (q * 8 + 8) := by
  have hset : X.set q v = X.take q ++ [v] ++ X.drop (q + 1) := by rw [List.set_eq_take_append_cons_drop, if_pos hq]; simp
  rw [hset, vksV_append, vksV_append, vksV_one1, vksV_take, show q * 8 + 8 = (q + 1) * 8 by omega, vksV_drop]
end Go.Proofs.YtmdmpliiiecmlaaGreat
end

section
namespace Go.Proofs.YtmdmpliiiecmlaaGreat
open Go.ChangeShapes Go.WideShapes Go.ChangeAt Go.RowKit
set_option linter.unusedVariables false
set_option linter.unusedSimpArgs false
def stPl (p v : Value) : Sem Unit := Instr.storeAt 36 p v
theorem stPl_eq (p v : Value) : Instr.storeAt 36 p v = stPl p v := rfl
/-- a volume's policy and version set anew, in a row of one's own -/
theorem vs_pol {w : World} {B g n c q : Nat} {X : List Vk} {v : Vk} (h : w.ownsRow B 43 8 (.slice (some ⟨g, 0, none⟩) n c) n (vksV X)) (hq : X[q]? = some v) (p : Pol) :
    ∃ w', (stPl (.pointer (some ⟨g, q * 8 + 2, none⟩)) (.agg #[.int .i64 p.re, .int .i64 p.we, .int .i64 p.li, .int .i64 p.bu])).run Tryz.prog w = .ok () w' ∧
      w'.ownsRow B 43 8 (.slice (some ⟨g, 0, none⟩) n c) n (vksV (X.set q { v with p := p })) ∧ Turned (fun b => b = g) w w' := by
  obtain ⟨hl, hv⟩ := List.getElem?_eq_some_iff.1 hq
  obtain ⟨h1, h2, h3⟩ := own_cells (o := q * 8 + 2) (new := polV p) h (by rw [vksV_length]; simp [polV]; omega)
  refine ⟨_, run_storeAt_mid w g (q * 8 + 2) 36 #[.int .i64 p.re, .int .i64 p.we, .int .i64 p.li, .int .i64 p.bu] h3 pol_info (by simp [Value.oneCell']), ?_, h2⟩
  have e : vksV (X.set q { v with p := p }) = (vksV X).take (q * 8 + 2) ++ polV p ++ (vksV X).drop (q * 8 + 2 + (polV p).length) := by
    rw [vksV_set hl]
    have e0 : vksV X = (vksV X).take (q * 8) ++ vkC v ++ (vksV X).drop (q * 8 + 8) := by
      conv => lhs; rw [← set_self hq, vksV_set hl]
    have lt : ((vksV X).take (q * 8)).length = q * 8 := by rw [List.length_take, vksV_length]; omega
    have a1 : (vksV X).take (q * 8 + 2) = (vksV X).take (q * 8) ++ [.int .i64 v.id, .int .i64 v.bl] := by
      conv => lhs; rw [e0]
      rw [List.append_assoc, List.take_append, lt, List.take_of_length_le (by rw [lt]; omega)]
      simp [vkC]
    have a2 : (vksV X).drop (q * 8 + 2 + (polV p).length) = [.int .i64 v.ver, .slice v.c.A v.c.n v.c.c] ++ (vksV X).drop (q * 8 + 8) := by
      conv => lhs; rw [e0]
      rw [List.append_assoc, List.drop_append, lt, List.drop_eq_nil_of_le (by rw [lt]; omega), show q * 8 + 2 + (polV p).length - q * 8 = 6 by (simp [polV]; omega)]
      simp [vkC]
    rw [a1, a2]
    simp [vkC, polV]
  rw [e]
  exact h1
theorem vs_ver {w : World} {B g n c q : Nat} {X : List Vk} {v : Vk} (h : w.ownsRow B 43 8 (.slice (some ⟨g, 0, none⟩) n c) n (vksV X)) (hq : X[q]? = some v) (x : Int) :
    (w.setCell ⟨g, q * 8 + 6, none⟩ (.int .i64 x)).ownsRow B 43 8 (.slice (some ⟨g, 0, none⟩) n c) n (vksV (X.set q { v with ver := x })) ∧ Turned (fun b => b = g) w (w.setCell ⟨g, q * 8 + 6, none⟩ (.int .i64 x)) ∧ w.frozen? ⟨g, q * 8 + 6, none⟩ = false := by
  obtain ⟨hl, hv⟩ := List.getElem?_eq_some_iff.1 hq
  obtain ⟨h1, h2, _, h4⟩ := own_cell1 (o := q * 8 + 6) h (by rw [vksV_length]; omega) (.int .i64 x)
  refine ⟨?_, h2, h4⟩
  have e : vksV (X.set q { v with ver := x }) = (vksV X).set (q * 8 + 6) (.int .i64 x) := by
    rw [vksV_set hl]
    have e0 : vksV X = (vksV X).take (q * 8) ++ vkC v ++ (vksV X).drop (q * 8 + 8) := by
      conv => lhs; rw [← set_self hq, vksV_set hl]
    have lt : ((vksV X).take (q * 8)).length = q * 8 := by rw [List.length_take, vksV_length]; omega
    conv => rhs; rw [e0]
    rw [List.append_assoc, List.append_assoc, List.set_append_right _ _ (by rw [lt]; omega), lt, show q * 8 + 6 - q * 8 = 6 by omega]
    rfl
  rw [e]
  exact h1
end Go.Proofs.YtmdmpliiiecmlaaGreat
end
