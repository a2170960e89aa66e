/-
  Contract of dotterelref18's do: kind 2 where it refuses. Conditions: a state that can be read, a command of numbers that an int holds.
-/
import Derived.Test.YtmdmpliiiecmlaaGreatRfDo1
import Derived.Test.YtmdmpliiiecmlaaGreatJC
namespace Go.Proofs.YtmdmpliiiecmlaaGreat
open Go.ChangeShapes Go.WideShapes Go.ChangeAt Go.RowKit
set_option linter.unusedVariables false
set_option linter.unusedSimpArgs false
attribute [local irreducible] wpQuiet
attribute [local go_sem ↓] ldRf_eq stRf_eq ldCk_eq stCk_eq ldCmd_eq ldPol_eq
set_option maxRecDepth 100000 in
set_option maxHeartbeats 2000000 in
theorem Rdo_2num (f : Rf) (c : Cmd) (w : World) (h : RfOk w f) (hc : CmdIn c) (hk : c.k = 2) (hr : c.a < 0 ∨ 63 < c.a ∨ c.b < 1 ∨ 512 < c.b ∨ c.c < 1 ∨ 3 < c.c) :
    Calls Tryz.prog 17 #[f.val, cmdA c] w (DoRetR f f.dat 1 w) := by
  unfold Rf.val cmdA
  obtain ⟨w1, hw1, hb1, hr1⟩ := rf_box w f
  obtain ⟨w2, hw2, hb2, hr2⟩ := cmd_box w1 c
  obtain ⟨w3, hw3⟩ : ∃ w3, w2.alloc (.cells #[.slice none 0 0, .slice none 0 0, .slice none 0 0, .int .i64 0] 31) = w3 := ⟨_, rfl⟩
  have hb3 : Below w2.heap.size w2 w3 := by rw [← hw3]; exact below_box _ _
  have hr3 : w3.heap[w2.heap.size]? = some (.cells #[.slice none 0 0, .slice none 0 0, .slice none 0 0, .int .i64 0] 31 (0, 0)) := by rw [← hw3]; exact heap_alloc_new _ _
  have hb12 : Below w.heap.size w w2 := hb1.trans (hb2.mono hb1.size)
  have hbw : Below w.heap.size w w3 := hb12.trans (hb3.mono hb12.size)
  have h1 := row_below (row_below hr1 hb2) hb3
  have h2 := row_below hr2 hb3
  have Hr3 := Lib.hid hr3; have Hbw := Lib.hid hbw; have HW := Lib.hid h
  have Hsz := Lib.hid (show w.heap.size < w1.heap.size ∧ w1.heap.size < w2.heap.size ∧ w2.heap.size < w3.heap.size from ⟨(Array.getElem?_eq_some_iff.1 hr1).1, (Array.getElem?_eq_some_iff.1 hr2).1, (Array.getElem?_eq_some_iff.1 hr3).1⟩)
  have F := Lib.hid (fun V (hv : Below w3.heap.size w3 V) => (Boxes.of (row_below h1 hv) (row_below h2 hv) : Boxes w w1 f c V))
  have H3 := Lib.hid (h.below hbw)
  have K1 := Lib.hid (RVol f c.a w3 (h.below hbw))
  unfold Rf.val at K1
  obtain ⟨s0, s1, s2, s3, sl, c0, c1, c2, c3⟩ := F.out w3 (Below.refl _ _)
  obtain ⟨va, hva⟩ : ∃ v, ixV (volIx f.dat.vs c.a) = v := ⟨_, rfl⟩
  rw [hva] at K1
  have hk1 : (c.k == 1) = false := by simp; omega
  have hk2 : (c.k == 2) = true := by simpa using hk
  clear hk
  clear hva
  clear h hb1 hb2 hb3 hb12 hbw hr1 hr2 hr3 h1 h2
  by_cases a1 : c.a < 0
  · clear hr
    go_enter Tryz.func17, Tryz.ntmps17
    go_wp2_with ((go_at_call 43; refine K1.out.mono ?_; rintro e w4 ⟨rfl, hb4⟩; have Hb4 := Lib.hid hb4; obtain ⟨ds0, ds1, ds2, ds3, dsl, dc0, dc1, dc2, dc3⟩ := F.out w4 hb4; obtain ⟨w9, hst, hr9, ht9⟩ := stRf_run (row_below Hr3.out hb4) rfl f.p f.v f.k f.nx; have Hr9 := Lib.hid hr9; have Ht9 := Lib.hid ht9; clear hr9 ht9; clear hb4))
    refine bodyPost_ret (v := .tuple #[.agg #[.slice f.p.A f.p.n f.p.c, .slice f.v.A f.v.n f.v.c, .slice f.k.A f.k.n f.k.c, .int .i64 f.nx], .int .i64 1]) (results_cell_2 rfl _ _ w2.heap.size 31 #[.slice f.p.A f.p.n f.p.c, .slice f.v.A f.v.n f.v.c, .slice f.k.A f.k.n f.k.c, .int .i64 f.nx] (0, 0) _ (.int .i64 1) rfl rfl Hr9.out Tryz.underlying31 rfl rf_size) rfl ?_
    exact refuse_end HW.out Hbw.out Hb4.out (by have := Hsz.out; omega) Ht9.out
  · by_cases a2 : 63 < c.a
    · clear hr
      go_enter Tryz.func17, Tryz.ntmps17
      go_wp2_with ((go_at_call 43; refine K1.out.mono ?_; rintro e w4 ⟨rfl, hb4⟩; have Hb4 := Lib.hid hb4; obtain ⟨ds0, ds1, ds2, ds3, dsl, dc0, dc1, dc2, dc3⟩ := F.out w4 hb4; obtain ⟨w9, hst, hr9, ht9⟩ := stRf_run (row_below Hr3.out hb4) rfl f.p f.v f.k f.nx; have Hr9 := Lib.hid hr9; have Ht9 := Lib.hid ht9; clear hr9 ht9; clear hb4))
      refine bodyPost_ret (v := .tuple #[.agg #[.slice f.p.A f.p.n f.p.c, .slice f.v.A f.v.n f.v.c, .slice f.k.A f.k.n f.k.c, .int .i64 f.nx], .int .i64 1]) (results_cell_2 rfl _ _ w2.heap.size 31 #[.slice f.p.A f.p.n f.p.c, .slice f.v.A f.v.n f.v.c, .slice f.k.A f.k.n f.k.c, .int .i64 f.nx] (0, 0) _ (.int .i64 1) rfl rfl Hr9.out Tryz.underlying31 rfl rf_size) rfl ?_
      exact refuse_end HW.out Hbw.out Hb4.out (by have := Hsz.out; omega) Ht9.out
    · by_cases a3 : c.b < 1
      · clear hr
        go_enter Tryz.func17, Tryz.ntmps17
        go_wp2_with ((go_at_call 43; refine K1.out.mono ?_; rintro e w4 ⟨rfl, hb4⟩; have Hb4 := Lib.hid hb4; obtain ⟨ds0, ds1, ds2, ds3, dsl, dc0, dc1, dc2, dc3⟩ := F.out w4 hb4; obtain ⟨w9, hst, hr9, ht9⟩ := stRf_run (row_below Hr3.out hb4) rfl f.p f.v f.k f.nx; have Hr9 := Lib.hid hr9; have Ht9 := Lib.hid ht9; clear hr9 ht9; clear hb4))
        refine bodyPost_ret (v := .tuple #[.agg #[.slice f.p.A f.p.n f.p.c, .slice f.v.A f.v.n f.v.c, .slice f.k.A f.k.n f.k.c, .int .i64 f.nx], .int .i64 1]) (results_cell_2 rfl _ _ w2.heap.size 31 #[.slice f.p.A f.p.n f.p.c, .slice f.v.A f.v.n f.v.c, .slice f.k.A f.k.n f.k.c, .int .i64 f.nx] (0, 0) _ (.int .i64 1) rfl rfl Hr9.out Tryz.underlying31 rfl rf_size) rfl ?_
        exact refuse_end HW.out Hbw.out Hb4.out (by have := Hsz.out; omega) Ht9.out
      · by_cases a4 : 512 < c.b
        · clear hr
          go_enter Tryz.func17, Tryz.ntmps17
          go_wp2_with ((go_at_call 43; refine K1.out.mono ?_; rintro e w4 ⟨rfl, hb4⟩; have Hb4 := Lib.hid hb4; obtain ⟨ds0, ds1, ds2, ds3, dsl, dc0, dc1, dc2, dc3⟩ := F.out w4 hb4; obtain ⟨w9, hst, hr9, ht9⟩ := stRf_run (row_below Hr3.out hb4) rfl f.p f.v f.k f.nx; have Hr9 := Lib.hid hr9; have Ht9 := Lib.hid ht9; clear hr9 ht9; clear hb4))
          refine bodyPost_ret (v := .tuple #[.agg #[.slice f.p.A f.p.n f.p.c, .slice f.v.A f.v.n f.v.c, .slice f.k.A f.k.n f.k.c, .int .i64 f.nx], .int .i64 1]) (results_cell_2 rfl _ _ w2.heap.size 31 #[.slice f.p.A f.p.n f.p.c, .slice f.v.A f.v.n f.v.c, .slice f.k.A f.k.n f.k.c, .int .i64 f.nx] (0, 0) _ (.int .i64 1) rfl rfl Hr9.out Tryz.underlying31 rfl rf_size) rfl ?_
          exact refuse_end HW.out Hbw.out Hb4.out (by have := Hsz.out; omega) Ht9.out
        · by_cases a5 : c.c < 1
          · clear hr
            go_enter Tryz.func17, Tryz.ntmps17
            go_wp2_with ((go_at_call 43; refine K1.out.mono ?_; rintro e w4 ⟨rfl, hb4⟩; have Hb4 := Lib.hid hb4; obtain ⟨ds0, ds1, ds2, ds3, dsl, dc0, dc1, dc2, dc3⟩ := F.out w4 hb4; obtain ⟨w9, hst, hr9, ht9⟩ := stRf_run (row_below Hr3.out hb4) rfl f.p f.v f.k f.nx; have Hr9 := Lib.hid hr9; have Ht9 := Lib.hid ht9; clear hr9 ht9; clear hb4))
            refine bodyPost_ret (v := .tuple #[.agg #[.slice f.p.A f.p.n f.p.c, .slice f.v.A f.v.n f.v.c, .slice f.k.A f.k.n f.k.c, .int .i64 f.nx], .int .i64 1]) (results_cell_2 rfl _ _ w2.heap.size 31 #[.slice f.p.A f.p.n f.p.c, .slice f.v.A f.v.n f.v.c, .slice f.k.A f.k.n f.k.c, .int .i64 f.nx] (0, 0) _ (.int .i64 1) rfl rfl Hr9.out Tryz.underlying31 rfl rf_size) rfl ?_
            exact refuse_end HW.out Hbw.out Hb4.out (by have := Hsz.out; omega) Ht9.out
          · have a6 : 3 < c.c := by omega
            clear hr
            go_enter Tryz.func17, Tryz.ntmps17
            go_wp2_with ((go_at_call 43; refine K1.out.mono ?_; rintro e w4 ⟨rfl, hb4⟩; have Hb4 := Lib.hid hb4; obtain ⟨ds0, ds1, ds2, ds3, dsl, dc0, dc1, dc2, dc3⟩ := F.out w4 hb4; obtain ⟨w9, hst, hr9, ht9⟩ := stRf_run (row_below Hr3.out hb4) rfl f.p f.v f.k f.nx; have Hr9 := Lib.hid hr9; have Ht9 := Lib.hid ht9; clear hr9 ht9; clear hb4))
            refine bodyPost_ret (v := .tuple #[.agg #[.slice f.p.A f.p.n f.p.c, .slice f.v.A f.v.n f.v.c, .slice f.k.A f.k.n f.k.c, .int .i64 f.nx], .int .i64 1]) (results_cell_2 rfl _ _ w2.heap.size 31 #[.slice f.p.A f.p.n f.p.c, .slice f.v.A f.v.n f.v.c, .slice f.k.A f.k.n f.k.c, .int .i64 f.nx] (0, 0) _ (.int .i64 1) rfl rfl Hr9.out Tryz.underlying31 rfl rf_size) rfl ?_
            exact refuse_end HW.out Hbw.out Hb4.out (by have := Hsz.out; omega) Ht9.out
set_option maxRecDepth 100000 in
set_option maxHeartbeats 2000000 in
theorem Rdo_2pol (f : Rf) (c : Cmd) (w : World) (h : RfOk w f) (hc : CmdIn c) (hk : c.k = 2) (n1 : 0 ≤ c.a) (n2 : c.a ≤ 63) (n3 : 1 ≤ c.b) (n4 : c.b ≤ 512) (n5 : 1 ≤ c.c) (n6 : c.c ≤ 3) (hr : rightP c.p = false) :
    Calls Tryz.prog 17 #[f.val, cmdA c] w (DoRetR f f.dat 1 w) := by
  unfold Rf.val cmdA
  obtain ⟨w1, hw1, hb1, hr1⟩ := rf_box w f
  obtain ⟨w2, hw2, hb2, hr2⟩ := cmd_box w1 c
  obtain ⟨w3, hw3⟩ : ∃ w3, w2.alloc (.cells #[.slice none 0 0, .slice none 0 0, .slice none 0 0, .int .i64 0] 31) = w3 := ⟨_, rfl⟩
  have hb3 : Below w2.heap.size w2 w3 := by rw [← hw3]; exact below_box _ _
  have hr3 : w3.heap[w2.heap.size]? = some (.cells #[.slice none 0 0, .slice none 0 0, .slice none 0 0, .int .i64 0] 31 (0, 0)) := by rw [← hw3]; exact heap_alloc_new _ _
  have hb12 : Below w.heap.size w w2 := hb1.trans (hb2.mono hb1.size)
  have hbw : Below w.heap.size w w3 := hb12.trans (hb3.mono hb12.size)
  have h1 := row_below (row_below hr1 hb2) hb3
  have h2 := row_below hr2 hb3
  have Hr3 := Lib.hid hr3; have Hbw := Lib.hid hbw; have HW := Lib.hid h
  have Hsz := Lib.hid (show w.heap.size < w1.heap.size ∧ w1.heap.size < w2.heap.size ∧ w2.heap.size < w3.heap.size from ⟨(Array.getElem?_eq_some_iff.1 hr1).1, (Array.getElem?_eq_some_iff.1 hr2).1, (Array.getElem?_eq_some_iff.1 hr3).1⟩)
  have F := Lib.hid (fun V (hv : Below w3.heap.size w3 V) => (Boxes.of (row_below h1 hv) (row_below h2 hv) : Boxes w w1 f c V))
  have H3 := Lib.hid (h.below hbw)
  have K1 := Lib.hid (RVol f c.a w3 (h.below hbw))
  unfold Rf.val at K1
  obtain ⟨s0, s1, s2, s3, sl, c0, c1, c2, c3⟩ := F.out w3 (Below.refl _ _)
  obtain ⟨va, hva⟩ : ∃ v, ixV (volIx f.dat.vs c.a) = v := ⟨_, rfl⟩
  rw [hva] at K1
  have hk1 : (c.k == 1) = false := by simp; omega
  have hk2 : (c.k == 2) = true := by simpa using hk
  have KR := Lib.hid (fun V (hv : Below w3.heap.size w3 V) => RRight_any c.p V)
  rw [hr] at KR
  have HPl := Lib.hid (fun V (hv : Below w3.heap.size w3 V) => ldPol_run (CmdAt.pol (w := w1) (row_below h2 hv) hc.hp))
  have a1 : ¬ c.a < 0 := by omega
  have a2 : ¬ 63 < c.a := by omega
  have a3 : ¬ c.b < 1 := by omega
  have a4 : ¬ 512 < c.b := by omega
  have a5 : ¬ c.c < 1 := by omega
  have a6 : ¬ 3 < c.c := by omega
  clear hk hr
  clear hva
  clear h hb1 hb2 hb3 hb12 hbw hr1 hr2 hr3 h1 h2
  go_enter Tryz.func17, Tryz.ntmps17
  go_wp2_with (first
    | (go_at_call 44; refine (KR.out w4 Hb4.out).mono ?_; rintro e w5 ⟨rfl, hb5⟩; have Hb5 := Lib.hid (Hb4.out.trans (hb5.mono Hb4.out.size)); obtain ⟨xs0, xs1, xs2, xs3, xsl, xc0, xc1, xc2, xc3⟩ := F.out w5 Hb5.out; obtain ⟨w9, hst, hr9, ht9⟩ := stRf_run (row_below Hr3.out Hb5.out) rfl f.p f.v f.k f.nx; have Hr9 := Lib.hid hr9; have Ht9 := Lib.hid ht9; clear hr9 ht9; clear hb5)
    | (go_at_call 43; refine K1.out.mono ?_; rintro e w4 ⟨rfl, hb4⟩; have Hb4 := Lib.hid hb4; obtain ⟨ds0, ds1, ds2, ds3, dsl, dc0, dc1, dc2, dc3⟩ := F.out w4 hb4; have hpl := HPl.out w4 hb4; clear hb4))
  refine bodyPost_ret (v := .tuple #[.agg #[.slice f.p.A f.p.n f.p.c, .slice f.v.A f.v.n f.v.c, .slice f.k.A f.k.n f.k.c, .int .i64 f.nx], .int .i64 1]) (results_cell_2 rfl _ _ w2.heap.size 31 #[.slice f.p.A f.p.n f.p.c, .slice f.v.A f.v.n f.v.c, .slice f.k.A f.k.n f.k.c, .int .i64 f.nx] (0, 0) _ (.int .i64 1) rfl rfl Hr9.out Tryz.underlying31 rfl rf_size) rfl ?_
  exact refuse_end HW.out Hbw.out Hb5.out (by have := Hsz.out; omega) Ht9.out
set_option maxRecDepth 100000 in
set_option maxHeartbeats 2000000 in
theorem Rdo_2is (f : Rf) (c : Cmd) (w : World) (h : RfOk w f) (hc : CmdIn c) (hk : c.k = 2) (n1 : 0 ≤ c.a) (n2 : c.a ≤ 63) (n3 : 1 ≤ c.b) (n4 : c.b ≤ 512) (n5 : 1 ≤ c.c) (n6 : c.c ≤ 3) (hr : rightP c.p = true) (q : Nat) (hv : volIx f.dat.vs c.a = some q) :
    Calls Tryz.prog 17 #[f.val, cmdA c] w (DoRetR f f.dat 8 w) := by
  unfold Rf.val cmdA
  obtain ⟨w1, hw1, hb1, hr1⟩ := rf_box w f
  obtain ⟨w2, hw2, hb2, hr2⟩ := cmd_box w1 c
  obtain ⟨w3, hw3⟩ : ∃ w3, w2.alloc (.cells #[.slice none 0 0, .slice none 0 0, .slice none 0 0, .int .i64 0] 31) = w3 := ⟨_, rfl⟩
  have hb3 : Below w2.heap.size w2 w3 := by rw [← hw3]; exact below_box _ _
  have hr3 : w3.heap[w2.heap.size]? = some (.cells #[.slice none 0 0, .slice none 0 0, .slice none 0 0, .int .i64 0] 31 (0, 0)) := by rw [← hw3]; exact heap_alloc_new _ _
  have hb12 : Below w.heap.size w w2 := hb1.trans (hb2.mono hb1.size)
  have hbw : Below w.heap.size w w3 := hb12.trans (hb3.mono hb12.size)
  have h1 := row_below (row_below hr1 hb2) hb3
  have h2 := row_below hr2 hb3
  have Hr3 := Lib.hid hr3; have Hbw := Lib.hid hbw; have HW := Lib.hid h
  have Hsz := Lib.hid (show w.heap.size < w1.heap.size ∧ w1.heap.size < w2.heap.size ∧ w2.heap.size < w3.heap.size from ⟨(Array.getElem?_eq_some_iff.1 hr1).1, (Array.getElem?_eq_some_iff.1 hr2).1, (Array.getElem?_eq_some_iff.1 hr3).1⟩)
  have F := Lib.hid (fun V (hv : Below w3.heap.size w3 V) => (Boxes.of (row_below h1 hv) (row_below h2 hv) : Boxes w w1 f c V))
  have H3 := Lib.hid (h.below hbw)
  have K1 := Lib.hid (RVol f c.a w3 (h.below hbw))
  unfold Rf.val at K1
  obtain ⟨s0, s1, s2, s3, sl, c0, c1, c2, c3⟩ := F.out w3 (Below.refl _ _)
  rw [hv] at K1
  simp only [ixV] at K1
  have hq0 : (0 : Int) ≤ (q : Int) := by omega
  have hk1 : (c.k == 1) = false := by simp; omega
  have hk2 : (c.k == 2) = true := by simpa using hk
  have KR := Lib.hid (fun V (hv : Below w3.heap.size w3 V) => RRight_any c.p V)
  rw [hr] at KR
  have HPl := Lib.hid (fun V (hv : Below w3.heap.size w3 V) => ldPol_run (CmdAt.pol (w := w1) (row_below h2 hv) hc.hp))
  have a1 : ¬ c.a < 0 := by omega
  have a2 : ¬ 63 < c.a := by omega
  have a3 : ¬ c.b < 1 := by omega
  have a4 : ¬ 512 < c.b := by omega
  have a5 : ¬ c.c < 1 := by omega
  have a6 : ¬ 3 < c.c := by omega
  clear hk hr hv
  clear h hb1 hb2 hb3 hb12 hbw hr1 hr2 hr3 h1 h2
  go_enter Tryz.func17, Tryz.ntmps17
  go_wp2_with (first
    | (go_at_call 44; refine (KR.out w4 Hb4.out).mono ?_; rintro e w5 ⟨rfl, hb5⟩; have Hb5 := Lib.hid (Hb4.out.trans (hb5.mono Hb4.out.size)); obtain ⟨xs0, xs1, xs2, xs3, xsl, xc0, xc1, xc2, xc3⟩ := F.out w5 Hb5.out; obtain ⟨w9, hst, hr9, ht9⟩ := stRf_run (row_below Hr3.out Hb5.out) rfl f.p f.v f.k f.nx; have Hr9 := Lib.hid hr9; have Ht9 := Lib.hid ht9; clear hr9 ht9; clear hb5)
    | (go_at_call 43; refine K1.out.mono ?_; rintro e w4 ⟨rfl, hb4⟩; have Hb4 := Lib.hid hb4; obtain ⟨ds0, ds1, ds2, ds3, dsl, dc0, dc1, dc2, dc3⟩ := F.out w4 hb4; have hpl := HPl.out w4 hb4; clear hb4))
  refine bodyPost_ret (v := .tuple #[.agg #[.slice f.p.A f.p.n f.p.c, .slice f.v.A f.v.n f.v.c, .slice f.k.A f.k.n f.k.c, .int .i64 f.nx], .int .i64 8]) (results_cell_2 rfl _ _ w2.heap.size 31 #[.slice f.p.A f.p.n f.p.c, .slice f.v.A f.v.n f.v.c, .slice f.k.A f.k.n f.k.c, .int .i64 f.nx] (0, 0) _ (.int .i64 8) rfl rfl Hr9.out Tryz.underlying31 rfl rf_size) rfl ?_
  exact refuse_end HW.out Hbw.out Hb5.out (by have := Hsz.out; omega) Ht9.out
set_option maxRecDepth 100000 in
set_option maxHeartbeats 2000000 in
theorem Rdo_2few (f : Rf) (c : Cmd) (w : World) (h : RfOk w f) (hc : CmdIn c) (hk : c.k = 2) (n1 : 0 ≤ c.a) (n2 : c.a ≤ 63) (n3 : 1 ≤ c.b) (n4 : c.b ≤ 512) (n5 : 1 ≤ c.c) (n6 : c.c ≤ 3) (hr : rightP c.p = true) (hv : volIx f.dat.vs c.a = none) (hs : ((serversL f.pk).length : Int) < c.c) :
    Calls Tryz.prog 17 #[f.val, cmdA c] w (DoRetR f f.dat 7 w) := by
  unfold Rf.val cmdA
  obtain ⟨w1, hw1, hb1, hr1⟩ := rf_box w f
  obtain ⟨w2, hw2, hb2, hr2⟩ := cmd_box w1 c
  obtain ⟨w3, hw3⟩ : ∃ w3, w2.alloc (.cells #[.slice none 0 0, .slice none 0 0, .slice none 0 0, .int .i64 0] 31) = w3 := ⟨_, rfl⟩
  have hb3 : Below w2.heap.size w2 w3 := by rw [← hw3]; exact below_box _ _
  have hr3 : w3.heap[w2.heap.size]? = some (.cells #[.slice none 0 0, .slice none 0 0, .slice none 0 0, .int .i64 0] 31 (0, 0)) := by rw [← hw3]; exact heap_alloc_new _ _
  have hb12 : Below w.heap.size w w2 := hb1.trans (hb2.mono hb1.size)
  have hbw : Below w.heap.size w w3 := hb12.trans (hb3.mono hb12.size)
  have h1 := row_below (row_below hr1 hb2) hb3
  have h2 := row_below hr2 hb3
  have Hr3 := Lib.hid hr3; have Hbw := Lib.hid hbw; have HW := Lib.hid h
  have Hsz := Lib.hid (show w.heap.size < w1.heap.size ∧ w1.heap.size < w2.heap.size ∧ w2.heap.size < w3.heap.size from ⟨(Array.getElem?_eq_some_iff.1 hr1).1, (Array.getElem?_eq_some_iff.1 hr2).1, (Array.getElem?_eq_some_iff.1 hr3).1⟩)
  have F := Lib.hid (fun V (hv : Below w3.heap.size w3 V) => (Boxes.of (row_below h1 hv) (row_below h2 hv) : Boxes w w1 f c V))
  have H3 := Lib.hid (h.below hbw)
  have K1 := Lib.hid (RVol f c.a w3 (h.below hbw))
  unfold Rf.val at K1
  obtain ⟨s0, s1, s2, s3, sl, c0, c1, c2, c3⟩ := F.out w3 (Below.refl _ _)
  rw [hv] at K1
  simp only [ixV] at K1
  have hk1 : (c.k == 1) = false := by simp; omega
  have hk2 : (c.k == 2) = true := by simpa using hk
  have KR := Lib.hid (fun V (hv : Below w3.heap.size w3 V) => RRight_any c.p V)
  rw [hr] at KR
  have HPl := Lib.hid (fun V (hv : Below w3.heap.size w3 V) => ldPol_run (CmdAt.pol (w := w1) (row_below h2 hv) hc.hp))
  have a1 : ¬ c.a < 0 := by omega
  have a2 : ¬ 63 < c.a := by omega
  have a3 : ¬ c.b < 1 := by omega
  have a4 : ¬ 512 < c.b := by omega
  have a5 : ¬ c.c < 1 := by omega
  have a6 : ¬ 3 < c.c := by omega
  obtain ⟨cs, hcs⟩ : ∃ n, (serversL f.pk).length = n := ⟨_, rfl⟩
  rw [hcs] at hs
  have KN := Lib.hid (fun V (hv : Below w3.heap.size w3 V) => (show Calls Tryz.prog 45 #[.agg #[.slice f.p.A f.p.n f.p.c, .slice f.v.A f.v.n f.v.c, .slice f.k.A f.k.n f.k.c, .int .i64 f.nx]] V fun e w' => e = .returned (.int .i64 (cs : Int)) ∧ Below V.heap.size V w' from by
    have := Rcount f V (H3.out.below hv)
    rw [show cntR f.pk 16 = cs from hcs] at this
    exact this))
  have Hs := Lib.hid hs
  clear hk hr hv hcs
  clear h hb1 hb2 hb3 hb12 hbw hr1 hr2 hr3 h1 h2
  go_enter Tryz.func17, Tryz.ntmps17
  go_upto_region 13 with (first
    | (go_at_call 44; refine (KR.out w4 Hb4.out).mono ?_; rintro e w5 ⟨rfl, hb5⟩; have Hb5 := Lib.hid (Hb4.out.trans (hb5.mono Hb4.out.size)); obtain ⟨xs0, xs1, xs2, xs3, xsl, xc0, xc1, xc2, xc3⟩ := F.out w5 Hb5.out; clear hb5)
    | (go_at_call 43; refine K1.out.mono ?_; rintro e w4 ⟨rfl, hb4⟩; have Hb4 := Lib.hid hb4; obtain ⟨ds0, ds1, ds2, ds3, dsl, dc0, dc1, dc2, dc3⟩ := F.out w4 hb4; have hpl := HPl.out w4 hb4; clear hb4))
  have q0 : ∀ p : BelowOf w5, (ldRf (.pointer (some ⟨w.heap.size, 0, none⟩))).run Tryz.prog p.v = .ok (.agg #[.slice f.p.A f.p.n f.p.c, .slice f.v.A f.v.n f.v.c, .slice f.k.A f.k.n f.k.c, .int .i64 f.nx]) p.v := fun p => (F.out p.v (Hb5.out.trans (p.h.mono Hb5.out.size))).sl
  have q1 : ∀ p : BelowOf w5, p.v.cell? ⟨w1.heap.size, 3, none⟩ = some (.int .i64 c.c) := fun p => (F.out p.v (Hb5.out.trans (p.h.mono Hb5.out.size))).c3
  have KB := Lib.hid (fun p : BelowOf w5 => Calls.below_of (KN.out p.v (Hb5.out.trans (p.h.mono Hb5.out.size))))
  refine wp_region_quiet_below (by kernel_rfl) (by kernel_rfl) ?_
  repeat (quiet_step (fail))
  quiet_step (exact (KB.out _))
  repeat (quiet_step (fail))
  refine wpQuiet_nil ?_
  rintro w8 ⟨⟨w6, hb6⟩, e⟩
  have e2 : w6 = w8 := e.symm
  subst e2
  clear e q0 q1
  have Hb6 := Lib.hid (Hb5.out.trans (hb6.mono Hb5.out.size))
  obtain ⟨ys0, ys1, ys2, ys3, ysl, yc0, yc1, yc2, yc3⟩ := F.out w6 Hb6.out
  obtain ⟨w9, hst, hr9, ht9⟩ := stRf_run (row_below Hr3.out Hb6.out) rfl f.p f.v f.k f.nx; have Hr9 := Lib.hid hr9; have Ht9 := Lib.hid ht9; clear hr9 ht9
  have hs := Hs.out
  clear hb6
  go_wp2
  refine bodyPost_ret (v := .tuple #[.agg #[.slice f.p.A f.p.n f.p.c, .slice f.v.A f.v.n f.v.c, .slice f.k.A f.k.n f.k.c, .int .i64 f.nx], .int .i64 7]) (results_cell_2 rfl _ _ w2.heap.size 31 #[.slice f.p.A f.p.n f.p.c, .slice f.v.A f.v.n f.v.c, .slice f.k.A f.k.n f.k.c, .int .i64 f.nx] (0, 0) _ (.int .i64 7) rfl rfl Hr9.out Tryz.underlying31 rfl rf_size) rfl ?_
  exact refuse_end HW.out Hbw.out Hb6.out (by have := Hsz.out; omega) Ht9.out
end Go.Proofs.YtmdmpliiiecmlaaGreat
