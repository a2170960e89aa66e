/-
  Contract of dotterelref18's do, kind 5 where it goes through. Conditions: a state whose rows are its own, a command of numbers that an int holds.
-/
import Derived.Test.YtmdmpliiiecmlaaGreatJH
namespace Go.Proofs.YtmdmpliiiecmlaaGreat
open Go.ChangeShapes Go.WideShapes Go.ChangeAt Go.RowKit
set_option linter.unusedVariables false
set_option linter.unusedSimpArgs false
theorem own_vk {w : World} {B g n c q : Nat} {X : List Vk} {v : Vk} (h : w.ownsRow B 43 8 (.slice (some ⟨g, 0, none⟩) n c) n (vksV X)) (hq : X[q]? = some v) : w.cell? ⟨g, q * 8 + 6, none⟩ = some (.int .i64 v.ver) := by
  have e := vksV_get hq 6 _ rfl
  rcases own_seenM h with h0 | ⟨g', o', e1, hc⟩
  · rw [h0] at e; cases e
  · injection e1 with e1
    injection e1 with e2 e3 _
    subst e2; subst e3
    simpa using hc _ _ e
attribute [local go_sem ↓] ldRf_eq stRf_eq ldCk_eq stCk_eq ldCmd_eq ldPol_eq stPl_eq
set_option maxRecDepth 100000 in
set_option maxHeartbeats 2000000 in
theorem Rdo_5yes (f : Rf) (c : Cmd) (q B : Nat) (v : Vk) (w0 w : World) (ho : RfOwn B w0 w f) (hc : CmdIn c) (hk : c.k = 5) (hr : rightP c.p = true) (hv : volIx f.dat.vs c.a = some q) (hX : f.X[q]? = some v) (hver : 0 ≤ v.ver ∧ v.ver ≤ 35184372088832) :
    Calls Tryz.prog 17 #[f.val, cmdA c] w (DoRetR f { f.dat with vs := f.dat.vs.set q { v.dat with p := c.p, ver := v.ver + 1 } } 0 w) := by
  have h := ho.ok
  unfold Rf.val cmdA
  obtain ⟨w1, hw1, hb1, hr1⟩ := rf_box w f
  obtain ⟨w2, hw2, hb2, hr2⟩ := cmd_box w1 c
  obtain ⟨w3, hw3⟩ : ∃ w3, w2.alloc (.cells #[.slice none 0 0, .slice none 0 0, .slice none 0 0, .int .i64 0] 31) = w3 := ⟨_, rfl⟩
  have hb3 : Below w2.heap.size w2 w3 := by rw [← hw3]; exact below_box _ _
  have hr3 : w3.heap[w2.heap.size]? = some (.cells #[.slice none 0 0, .slice none 0 0, .slice none 0 0, .int .i64 0] 31 (0, 0)) := by rw [← hw3]; exact heap_alloc_new _ _
  have hb12 : Below w.heap.size w w2 := hb1.trans (hb2.mono hb1.size)
  have hbw : Below w.heap.size w w3 := hb12.trans (hb3.mono hb12.size)
  have h1 := row_below (row_below hr1 hb2) hb3
  have h2 := row_below hr2 hb3
  have Hr3 := Lib.hid hr3; have Hbw := Lib.hid hbw; have HW := Lib.hid h
  have Hsz := Lib.hid (show w.heap.size < w1.heap.size ∧ w1.heap.size < w2.heap.size ∧ w2.heap.size < w3.heap.size from ⟨(Array.getElem?_eq_some_iff.1 hr1).1, (Array.getElem?_eq_some_iff.1 hr2).1, (Array.getElem?_eq_some_iff.1 hr3).1⟩)
  have F := Lib.hid (fun V (hv : Below w3.heap.size w3 V) => (Boxes.of (row_below h1 hv) (row_below h2 hv) : Boxes w w1 f c V))
  have H3 := Lib.hid (h.below hbw)
  have K1 := Lib.hid (RVol f c.a w3 (h.below hbw))
  unfold Rf.val at K1
  obtain ⟨s0, s1, s2, s3, sl, c0, c1, c2, c3⟩ := F.out w3 (Below.refl _ _)
  rw [hv] at K1
  simp only [ixV] at K1
  have hq0 : ¬ (q : Int) < 0 := by omega
  have hq1 : (q : Int) < (f.v.n : Int) := by have := (List.getElem?_eq_some_iff.1 hX).1; have := h.v.len; omega
  have hq2 : (0 : Int) ≤ (q : Int) := by omega
  have HX := Lib.hid hX
  have HO := Lib.hid ho
  obtain ⟨gv, hAv⟩ : ∃ g, f.v.A = some ⟨g, 0, none⟩ := by
    rcases ho.v.2 with ⟨e, e2⟩ | ⟨g, cap, cur, e, _⟩
    · have := (List.getElem?_eq_some_iff.1 hX).1; have := h.v.len; omega
    · injection e with e _ _; exact ⟨g, e⟩
  have hov := ho.v
  rw [hAv] at hov
  have HOv := Lib.hid hov; have HAv := Lib.hid hAv
  have Hgl := Lib.hid (show B ≤ gv ∧ gv < w.heap.size from ⟨(hov.lt gv rfl).1, (hov.lt gv rfl).2⟩)
  have BXF := Lib.hid (fun V V' (hv : Below w3.heap.size w3 V) (ht : Turned (fun b => b = gv) V V') => (⟨Boxes.of (ht.heap (row_below h1 hv) (by have := Hgl.out; omega)) (ht.heap (row_below h2 hv) (by have := Hgl.out; have := Hsz.out; omega)), ht.heap (row_below Hr3.out hv) (by have := Hgl.out; have := Hsz.out; omega)⟩ : Boxes w w1 f c V' ∧ V'.heap[w2.heap.size]? = some (.cells #[.slice none 0 0, .slice none 0 0, .slice none 0 0, .int .i64 0] 31 (0, 0))))
  have hk1 : (c.k == 1) = false := by simp; omega
  have hk2 : (c.k == 2) = false := by simp; omega
  have hk3 : (c.k == 3) = false := by simp; omega
  have hk4 : (c.k == 4) = false := by simp; omega
  have hk5 : (c.k == 5) = true := by simpa using hk
  have KR := Lib.hid (fun V (hv : Below w3.heap.size w3 V) => RRight_any c.p V)
  rw [hr] at KR
  have HPl := Lib.hid (fun V (hv : Below w3.heap.size w3 V) => ldPol_run (CmdAt.pol (w := w1) (row_below h2 hv) hc.hp))
  have Hcp := Lib.hid hc.hp
  have Hver := Lib.hid hver
  clear hk hr hv hX ho hov hAv hc hver
  clear h hb1 hb2 hb3 hb12 hbw hr1 hr2 hr3 h1 h2
  go_enter Tryz.func17, Tryz.ntmps17
  go_upto_region 46 with (first
    | (go_at_call 44; refine (KR.out w4 Hb4.out).mono ?_; rintro e w5 ⟨rfl, hb5⟩; have Hb5 := Lib.hid (Hb4.out.trans (hb5.mono Hb4.out.size)); obtain ⟨xs0, xs1, xs2, xs3, xsl, xc0, xc1, xc2, xc3⟩ := F.out w5 Hb5.out; rw [HAv.out] at xs1; have hpl5 := HPl.out w5 Hb5.out; obtain ⟨V1, hstp, hown1, ht1⟩ := vs_pol (own_belowM (own_belowM HOv.out Hbw.out) Hb5.out) HX.out c.p; obtain ⟨⟨es0, es1, es2, es3, esl, ec0, ec1, ec2, ec3⟩, _⟩ := BXF.out w5 V1 Hb5.out ht1; rw [HAv.out] at es1; have hq9 : (f.X.set q { v with p := c.p })[q]? = some { v with p := c.p } := List.getElem?_set_self (List.getElem?_eq_some_iff.1 HX.out).1; have hcv := own_vk hown1 hq9; simp only at hcv; have Hown1 := Lib.hid hown1; have Ht1 := Lib.hid ht1; have Hq9 := Lib.hid hq9; clear hb5 hown1 ht1 hq9)
    | (go_at_call 43; refine K1.out.mono ?_; rintro e w4 ⟨rfl, hb4⟩; have Hb4 := Lib.hid hb4; obtain ⟨ds0, ds1, ds2, ds3, dsl, dc0, dc1, dc2, dc3⟩ := F.out w4 hb4; have hpl := HPl.out w4 hb4; clear hb4))
  have hv1 := Hver.out.1
  have hv2 := Hver.out.2
  go_still_tail 12, (by kernel_rfl)
  change wpList _ _ _ _ _ V1.drew
  obtain ⟨V2, hV2⟩ : ∃ V, V1.drew = V := ⟨_, rfl⟩
  have hb2 : Below V1.heap.size V1 V2 := by rw [← hV2]; exact (Below.refl _ _).drew
  rw [hV2]
  have hown2 := own_belowM Hown1.out hb2
  have hc2 := own_vk hown2 Hq9.out
  obtain ⟨hown3, ht3, hfz⟩ := vs_ver hown2 Hq9.out (v.ver + 1)
  obtain ⟨V3, hV3⟩ : ∃ V, V2.setCell ⟨gv, q * 8 + 6, none⟩ (.int .i64 (v.ver + 1)) = V := ⟨_, rfl⟩
  rw [hV3] at hown3 ht3
  have t53 : Turned (fun b => b = gv) w5 V3 := (Ht1.out.trans (Turned.of_below (p := fun b => b = gv) hb2) (fun _ e => e) (fun _ _ e => e)).trans ht3 (fun _ e => e) (fun _ _ e => e)
  obtain ⟨⟨fs0, fs1, fs2, fs3, fsl, fc0, fc1, fc2, fc3⟩, hbx⟩ := BXF.out w5 V3 Hb5.out t53
  obtain ⟨w9, hst, hr9, ht9⟩ := stRf_run hbx rfl f.p f.v f.k f.nx
  have Hr9 := Lib.hid hr9; have Ht9 := Lib.hid ht9; have Hown3 := Lib.hid hown3; have T53 := Lib.hid t53
  simp only at hc2
  clear hr9 ht9 hown3 ht3 t53 hbx hown2 hb2 hV2 es0 es1 es2 es3 esl ec0 ec1 ec2 ec3
  go_wp2
  refine bodyPost_ret (v := .tuple #[.agg #[.slice f.p.A f.p.n f.p.c, .slice f.v.A f.v.n f.v.c, .slice f.k.A f.k.n f.k.c, .int .i64 f.nx], .int .i64 0]) (results_cell_2 rfl _ _ w2.heap.size 31 #[.slice f.p.A f.p.n f.p.c, .slice f.v.A f.v.n f.v.c, .slice f.k.A f.k.n f.k.c, .int .i64 f.nx] (0, 0) _ (.int .i64 0) rfl rfl Hr9.out Tryz.underlying31 rfl rf_size) rfl ?_
  have s3 := Hsz.out; have sb := Hbw.out.size; have s5 := Hb5.out.size; have sg := Hgl.out
  have hb5 : Below w.heap.size w w5 := Hbw.out.trans (Hb5.out.mono Hbw.out.size)
  have ho := HO.out
  have neP : ∀ {T : TypeId} {z m : Nat} {v : Value} {xs : List Value}, T ≠ 43 → w.ownsRow B T z v m xs → w9.ownsRow B T z v m xs := fun {T z m v xs} hT o => by
    have o4 := own_belowM o hb5
    have o5 := own_turnedM T53.out o4 (fun b e hb => own_apart o HOv.out hT e (by rw [hb]; rfl))
    exact own_turnedM Ht9.out o5 (fun b e hb => by have := (o.lt b e).2; omega)
  have ov : w9.ownsRow B 43 8 (.slice f.v.A f.v.n f.v.c) f.v.n (vksV (f.X.set q { v with p := c.p, ver := v.ver + 1 })) := by
    rw [HAv.out]
    have o := own_turnedM Ht9.out Hown3.out (fun b e hb => by have e1 : gv = b := Option.some.inj e; omega)
    rw [List.set_set] at o
    exact o
  have hbl : Below w0.heap.size w0 w9 := ((ho.bel.trans (hb5.mono ho.bel.size)).trans (T53.out.below (fun b e => by have := ho.hB; omega) (by have := ho.bel.size; omega))).trans (Ht9.out.below (fun b e => by have := ho.hB; omega) (by have := ho.bel.size; have := T53.out.size; omega))
  have own : RfOwn B w0 w9 { f with X := f.X.set q { v with p := c.p, ver := v.ver + 1 } } :=
    ⟨neP (by decide) ho.p, ov, neP (by decide) ho.k, fun x hx => by
      rcases List.mem_or_eq_of_mem_set hx with hx | rfl
      · exact ho.vok x hx
      · exact ho.vok v (List.mem_of_getElem? HX.out), fun x hx => by
      rcases List.mem_or_eq_of_mem_set hx with hx | rfl
      · exact ho.inp x hx
      · exact Hcp.out, ho.kok, by show (f.X.set q _).length ≤ 64; rw [List.length_set]; exact ho.vl, ho.kl, ho.pin, ho.hB, hbl⟩
  exact ⟨{ f with X := f.X.set q { v with p := c.p, ver := v.ver + 1 } }, rfl, by simp only [Rf.dat, List.map_set]; rfl, own.ok,
    ((Turned.of_below (p := RowB f) hb5).trans T53.out (fun _ e => e) (fun b _ e => .inr (.inl (by rw [HAv.out, e]; rfl)))).trans Ht9.out (fun _ e => e) (fun b hl e => absurd e (by omega))⟩
end Go.Proofs.YtmdmpliiiecmlaaGreat
