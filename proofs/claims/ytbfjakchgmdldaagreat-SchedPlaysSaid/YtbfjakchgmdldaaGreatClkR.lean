/-
  Contract of dotterelref11's Charge. Conditions: that an int holds the numbers, and that the moment isn't below 0.
-/
import Derived.Test.YtbfjakchgmdldaaGreatClkC
namespace Go.Proofs.YtbfjakchgmdldaaGreat
open Go.ChangeShapes Go.WideShapes Go.ChangeAt Go.RowKit
set_option linter.unusedVariables false

attribute [local go_sem ↓] ldPol_eq ldClk_eq
set_option maxRecDepth 100000 in
set_option maxHeartbeats 4000000 in
theorem RCharge_yes (q : Pol) (c : Clk) (now ph de rh : Int) (w : World) (hq : InP q) (hc : InC c) (hn : isTag now) (hd : inI de) (hr : inI rh) (hg : rightP q = true) (hph : ph = 1 ∨ ph = 2) :
    Calls Tryz.prog 30 #[.agg #[.int .i64 q.re, .int .i64 q.we, .int .i64 q.li, .int .i64 q.bu], .agg #[.int .i64 c.r, .int .i64 c.p, .int .i64 c.l], .int .i64 now, .int .i64 ph, .int .i64 de, .int .i64 rh] w
      fun e w' => e = .returned (.agg #[.int .i64 (chargedF q c now ph de rh).r, .int .i64 (chargedF q c now ph de rh).p, .int .i64 (chargedF q c now ph de rh).l]) ∧ Below w.heap.size w w' := by
  have IN := inC1_in w q c hq
  have CR := Lib.hid (RRight_any q (inC1 w q c))
  rw [hg] at CR
  have hright := (rightP_iff q).1 hg
  have NX := Lib.hid (fun (W : World) (hb : Below (inC1 w q c).heap.size (inC1 w q c) W) => (inC1_in w q c hq).later hb)
  have hld := ldPol_run (w := inC1 w q c) IN.pol
  have KE := Lib.hid (fun W => Calls.stay (done_any de W hd))
  have KH := Lib.hid (fun W => done_any rh W hr)
  have be := elseF_bd de
  have bh := elseF_bd rh
  clear hg IN
  rcases hph with rfl | rfl
  · go_enter Tryz.func30, Tryz.ntmps30
    go_upto_region 1 with fail
    change Code.wp _ _ _ _ (inC1 w q c)
    generalize inC1 w q c = w1 at CR NX hld ⊢
    obtain ⟨a0, ha0⟩ : ∃ x, elseF de = x := ⟨_, rfl⟩
    obtain ⟨b0, hb0⟩ : ∃ x, elseF rh = x := ⟨_, rfl⟩
    rw [ha0] at KE be
    rw [hb0] at KH bh
    have Ha := Lib.hid ha0; have Hb := Lib.hid hb0
    clear ha0 hb0
    go_upto_region 6 with (first
      | (go_at_call 18; refine CR.out.mono ?_; rintro e w2 ⟨rfl, hb2⟩; have IN := Lib.hid (NX.out _ hb2); clear hb2 hld)
      | (go_at_call 40; refine (KH.out _).mono ?_; rintro e w3 ⟨rfl, rfl⟩))
    obtain ⟨y0, hy0⟩ : ∃ x, spaceF q.re = x := ⟨_, rfl⟩
    have KS := Lib.hid (fun W => Calls.stay (refSpace_any q.re W))
    have KT := Lib.hid (fun W => Calls.stay (refTimes_any (spaceF q.re) (b0 + 1) W (spaceF_in _) (by unfold inI; omega)))
    obtain ⟨t0, ht0⟩ : ∃ x, timesF (spaceF q.re) (b0 + 1) = x := ⟨_, rfl⟩
    have KG := Lib.hid (fun W => Calls.stay (refAdd_any c.r (timesF (spaceF q.re) (b0 + 1)) W hc.1 (tag_in (timesF_bd _ _))))
    obtain ⟨x0, hx0⟩ : ∃ x, growF c.r (spaceF q.re) (b0 + 1) = x := ⟨_, rfl⟩
    rw [show addF c.r (timesF (spaceF q.re) (b0 + 1)) = x0 from hx0] at KG
    rw [ht0] at KG KT
    rw [hy0] at KS KT hx0
    have Hx0 := Lib.hid hx0; have Hy0 := Lib.hid hy0
    clear hx0 ht0 hy0
    obtain ⟨k0, k1, k2, k3, k4, k5, k6⟩ := IN.out.reads
    go_still_tail 9, (by kernel_rfl)
    still_call (KS.out _)
    repeat still_step
    still_call (KT.out _)
    repeat still_step
    still_call (KG.out _)
    repeat still_step
    refine wpStill_nil ?_
    change wpList _ _ _ _ _ w2.drew
    clear k0 k1 k2 k3 k4 k5 k6 KS KT KG
    have IN3 := Lib.hid IN.out.drew; clear IN
    generalize w2.drew = w3 at IN3 ⊢
    have f0 := IN3.out.thaws 0
    have k4 := IN3.out.clk.c0
    go_upto_region 7 with fail
    change Code.wp _ _ _ _ (w3.setCell ⟨w.heap.size + 1, 0, none⟩ (.int .i64 x0))
    have IN4 := Lib.hid (IN3.out.s0 x0); clear f0 k4 IN3
    generalize w3.setCell ⟨w.heap.size + 1, 0, none⟩ (.int .i64 x0) = w4 at IN4 ⊢
    have hw1 : 1 ≤ q.we := hright.2.1.1
    have wb := weigh_bd hw1
    have hwz : ¬ q.we = 0 := by omega
    have hdv : Int.tdiv 67108864 q.we = 67108864 / q.we := Int.tdiv_eq_ediv_of_nonneg (by omega)
    obtain ⟨y2, hy2⟩ : ∃ x, 67108864 / q.we = x := ⟨_, rfl⟩
    rw [hy2] at hdv wb
    have hwr := wrap_in y2 (by omega) (by omega)
    have hwa := wrap_in (1 + a0) (by omega) (by omega)
    have KT := Lib.hid (fun W => Calls.stay (refTimes_any y2 (1 + a0) W (by unfold inI; omega) (by unfold inI; omega)))
    obtain ⟨t1, ht1⟩ : ∃ x, timesF y2 (1 + a0) = x := ⟨_, rfl⟩
    have KG := Lib.hid (fun W => Calls.stay (refAdd_any c.p (timesF y2 (1 + a0)) W hc.2.1 (tag_in (timesF_bd _ _))))
    obtain ⟨x1, hx1⟩ : ∃ x, growF c.p y2 (1 + a0) = x := ⟨_, rfl⟩
    rw [show addF c.p (timesF y2 (1 + a0)) = x1 from hx1] at KG
    rw [ht1] at KG KT
    have Hx1 := Lib.hid hx1; clear hx1 ht1
    have Hy2 := Lib.hid hy2; clear hy2
    obtain ⟨k0, k1, k2, k3, k4, k5, k6⟩ := IN4.out.reads
    simp only at k4 k5 k6
    go_still_tail 11, (by kernel_rfl)
    still_call (KE.out _)
    repeat still_step
    still_call (KT.out _)
    repeat still_step
    still_call (KG.out _)
    repeat still_step
    refine wpStill_nil ?_
    change wpList _ _ _ _ _ w4.drew
    clear k0 k1 k2 k3 k4 k5 k6 hwz hw1 wb hdv hwr KT KG
    have IN5 := Lib.hid IN4.out.drew; clear IN4
    generalize w4.drew = w5 at IN5 ⊢
    have f1 := IN5.out.thaws 1
    have k5 := IN5.out.clk.c1
    simp only at k5
    by_cases h0 : q.li = 0
    · have hend : chargedF q c now 1 de rh = ⟨x0, x1, c.l⟩ := by
        unfold chargedF resF
        rw [if_pos rfl, if_pos h0, Hb.out, Ha.out, Hy0.out, Hx0.out, Hy2.out, Hx1.out]
      have HE := Lib.hid hend; clear hend
      have hz : (q.li == 0) = true := by simp [h0]
      clear h0
      go_upto_region 8 with fail
      change Code.wp _ _ _ _ (w5.setCell ⟨w.heap.size + 1, 1, none⟩ (.int .i64 x1))
      have IN6 := Lib.hid (IN5.out.s1 x1); clear f1 k5 IN5
      generalize w5.setCell ⟨w.heap.size + 1, 1, none⟩ (.int .i64 x1) = w6 at IN6 ⊢
      have k2 := IN6.out.pol.2.2.1
      have hlc := ldClk_run IN6.out.clk
      simp only at hlc
      go_wp2_with (refine wpList_store_row rfl 46 (.tmp 12) (.tmp 57) rfl (w.heap.size + 2) #[.int .i64 x0, .int .i64 x1, .int .i64 c.l] rfl rfl 46 _ IN6.out.res clk_info rfl (by simp [Value.oneCell']) ?_)
      refine bodyPost_ret (results_cell_row rfl _ _ (w.heap.size + 2) 46 #[.int .i64 x0, .int .i64 x1, .int .i64 c.l] (0, 0) _ rfl IN6.out.back.1 Tryz.underlying46 rfl clk_info) rfl ⟨?_, IN6.out.back.2⟩
      rw [HE.out]
    · have hz : (q.li == 0) = false := by simpa using h0
      go_upto_region 8 with fail
      change Code.wp _ _ _ _ (w5.setCell ⟨w.heap.size + 1, 1, none⟩ (.int .i64 x1))
      have IN6 := Lib.hid (IN5.out.s1 x1); clear f1 k5 IN5
      generalize w5.setCell ⟨w.heap.size + 1, 1, none⟩ (.int .i64 x1) = w6 at IN6 ⊢
      obtain ⟨k0, k1, k2, k3, k4, k5, k6⟩ := IN6.out.reads
      simp only at k4 k5 k6
      have f2 := IN6.out.thaws 2
      have KW := Lib.hid (fun W => refWide_any q.li W)
      obtain ⟨y1, hy1⟩ : ∃ x, wideF q.li = x := ⟨_, rfl⟩
      have WB := wideF_in q.li
      rw [hy1] at KW WB
      have Hy1 := Lib.hid hy1; clear hy1
      have KT := Lib.hid (fun W => refTimes_any y1 q.bu W WB (by have := hright.2.2.2.1; unfold inI; omega))
      have TB := timesF_bd y1 q.bu
      obtain ⟨t2, ht2⟩ : ∃ x, timesF y1 q.bu = x := ⟨_, rfl⟩
      rw [ht2] at KT TB
      have Ht2 := Lib.hid ht2; clear ht2
      obtain ⟨tb1, tb2⟩ := TB
      obtain ⟨hn1, hn2⟩ := hn
      have hsub := wrap_in (now - t2) (by omega) (by omega)
      have hlow : aheadF now t2 = if now < t2 then 0 else now - t2 := rfl
      have AB : inI (aheadF now t2) := by rw [hlow]; unfold inI; omega
      obtain ⟨h1, hh1⟩ : ∃ x, aheadF now t2 = x := ⟨_, rfl⟩
      have MB : inI (max c.l h1) := by rw [← hh1]; obtain ⟨h1, h2⟩ := AB; obtain ⟨h3, h4⟩ := hc.2.2; unfold inI; omega
      obtain ⟨m0, hm0⟩ : ∃ x, max c.l h1 = x := ⟨_, rfl⟩
      rw [hm0] at MB
      have KU := Lib.hid (fun W => Calls.stay (refTimes_any y1 (1 + a0) W WB (by unfold inI; omega)))
      obtain ⟨t3, ht3⟩ : ∃ x, timesF y1 (1 + a0) = x := ⟨_, rfl⟩
      have KG := Lib.hid (fun W => Calls.stay (refAdd_any m0 (timesF y1 (1 + a0)) W MB (tag_in (timesF_bd _ _))))
      obtain ⟨x2, hx2⟩ : ∃ x, growF m0 y1 (1 + a0) = x := ⟨_, rfl⟩
      rw [show addF m0 (timesF y1 (1 + a0)) = x2 from hx2] at KG
      rw [ht3] at KG KU
      clear ht3
      have hend : chargedF q c now 1 de rh = ⟨x0, x1, x2⟩ := by
        unfold chargedF resF
        rw [if_pos rfl, if_neg h0, Hb.out, Ha.out, Hy0.out, Hx0.out, Hy2.out, Hx1.out, Hy1.out, Ht2.out, hh1, hm0, hx2]
      have HE := Lib.hid hend; clear hend
      clear h0 hx2 AB MB WB
      rw [hlow] at hh1
      clear hlow
      by_cases hnt : now - t2 ≤ 0
      · obtain rfl : h1 = 0 := by omega
        clear hh1 hsub
        by_cases hlt : c.l < 0
        · obtain rfl : m0 = 0 := by omega
          clear hm0
          go_upto_region 14 with (first
            | (go_at_call 43; refine (KW.out _).mono ?_; rintro e w7 ⟨rfl, rfl⟩)
            | (go_at_call 23; refine (KT.out _).mono ?_; rintro e w7 ⟨rfl, rfl⟩))
          change Code.wp _ _ _ _ (w6.setCell ⟨w.heap.size + 1, 2, none⟩ (.int .i64 0))
          have IN7 := Lib.hid (IN6.out.s2 0); clear k0 k1 k2 k3 k4 k5 k6 f2 IN6
          generalize w6.setCell ⟨w.heap.size + 1, 2, none⟩ (.int .i64 0) = w7 at IN7 ⊢
          obtain ⟨k0, k1, k2, k3, k4, k5, k6⟩ := IN7.out.reads
          simp only at k4 k5 k6
          go_still_tail 9, (by kernel_rfl)
          still_call (KE.out _)
          repeat still_step
          still_call (KU.out _)
          repeat still_step
          still_call (KG.out _)
          repeat still_step
          refine wpStill_nil ?_
          change wpList _ _ _ _ _ w7.drew
          clear k0 k1 k2 k3 k4 k5 k6
          have IN8 := Lib.hid IN7.out.drew; clear IN7
          generalize w7.drew = w8 at IN8 ⊢
          have f2 := IN8.out.thaws 2
          have k6 := IN8.out.clk.c2
          simp only at k6
          go_upto_region 15 with fail
          change Code.wp _ _ _ _ (w8.setCell ⟨w.heap.size + 1, 2, none⟩ (.int .i64 x2))
          have IN9 := Lib.hid (IN8.out.s2 x2); clear f2 k6 IN8
          generalize w8.setCell ⟨w.heap.size + 1, 2, none⟩ (.int .i64 x2) = w9 at IN9 ⊢
          have hlc := ldClk_run IN9.out.clk
          simp only at hlc
          go_wp2_with (refine wpList_store_row rfl 46 (.tmp 12) (.tmp 83) rfl (w.heap.size + 2) #[.int .i64 x0, .int .i64 x1, .int .i64 x2] rfl rfl 46 _ IN9.out.res clk_info rfl (by simp [Value.oneCell']) ?_)
          refine bodyPost_ret (results_cell_row rfl _ _ (w.heap.size + 2) 46 #[.int .i64 x0, .int .i64 x1, .int .i64 x2] (0, 0) _ rfl IN9.out.back.1 Tryz.underlying46 rfl clk_info) rfl ⟨?_, IN9.out.back.2⟩
          rw [HE.out]
        · obtain rfl : m0 = c.l := by omega
          clear hm0
          go_upto_region 14 with (first
            | (go_at_call 43; refine (KW.out _).mono ?_; rintro e w7 ⟨rfl, rfl⟩)
            | (go_at_call 23; refine (KT.out _).mono ?_; rintro e w7 ⟨rfl, rfl⟩))
          have IN7 := Lib.hid IN6.out; clear IN6 f2
          generalize w6 = w7 at IN7 k0 k1 k2 k3 k4 k5 k6 ⊢
          go_still_tail 9, (by kernel_rfl)
          still_call (KE.out _)
          repeat still_step
          still_call (KU.out _)
          repeat still_step
          still_call (KG.out _)
          repeat still_step
          refine wpStill_nil ?_
          change wpList _ _ _ _ _ w7.drew
          clear k0 k1 k2 k3 k4 k5 k6
          have IN8 := Lib.hid IN7.out.drew; clear IN7
          generalize w7.drew = w8 at IN8 ⊢
          have f2 := IN8.out.thaws 2
          have k6 := IN8.out.clk.c2
          simp only at k6
          go_upto_region 15 with fail
          change Code.wp _ _ _ _ (w8.setCell ⟨w.heap.size + 1, 2, none⟩ (.int .i64 x2))
          have IN9 := Lib.hid (IN8.out.s2 x2); clear f2 k6 IN8
          generalize w8.setCell ⟨w.heap.size + 1, 2, none⟩ (.int .i64 x2) = w9 at IN9 ⊢
          have hlc := ldClk_run IN9.out.clk
          simp only at hlc
          go_wp2_with (refine wpList_store_row rfl 46 (.tmp 12) (.tmp 83) rfl (w.heap.size + 2) #[.int .i64 x0, .int .i64 x1, .int .i64 x2] rfl rfl 46 _ IN9.out.res clk_info rfl (by simp [Value.oneCell']) ?_)
          refine bodyPost_ret (results_cell_row rfl _ _ (w.heap.size + 2) 46 #[.int .i64 x0, .int .i64 x1, .int .i64 x2] (0, 0) _ rfl IN9.out.back.1 Tryz.underlying46 rfl clk_info) rfl ⟨?_, IN9.out.back.2⟩
          rw [HE.out]
      · obtain rfl : h1 = now - t2 := by omega
        clear hh1
        by_cases hlt : c.l < now - t2
        · obtain rfl : m0 = now - t2 := by omega
          clear hm0
          go_upto_region 14 with (first
            | (go_at_call 43; refine (KW.out _).mono ?_; rintro e w7 ⟨rfl, rfl⟩)
            | (go_at_call 23; refine (KT.out _).mono ?_; rintro e w7 ⟨rfl, rfl⟩))
          change Code.wp _ _ _ _ (w6.setCell ⟨w.heap.size + 1, 2, none⟩ (.int .i64 (now - t2)))
          have IN7 := Lib.hid (IN6.out.s2 (now - t2)); clear k0 k1 k2 k3 k4 k5 k6 f2 IN6
          generalize w6.setCell ⟨w.heap.size + 1, 2, none⟩ (.int .i64 (now - t2)) = w7 at IN7 ⊢
          obtain ⟨k0, k1, k2, k3, k4, k5, k6⟩ := IN7.out.reads
          simp only at k4 k5 k6
          go_still_tail 9, (by kernel_rfl)
          still_call (KE.out _)
          repeat still_step
          still_call (KU.out _)
          repeat still_step
          still_call (KG.out _)
          repeat still_step
          refine wpStill_nil ?_
          change wpList _ _ _ _ _ w7.drew
          clear k0 k1 k2 k3 k4 k5 k6
          have IN8 := Lib.hid IN7.out.drew; clear IN7
          generalize w7.drew = w8 at IN8 ⊢
          have f2 := IN8.out.thaws 2
          have k6 := IN8.out.clk.c2
          simp only at k6
          go_upto_region 15 with fail
          change Code.wp _ _ _ _ (w8.setCell ⟨w.heap.size + 1, 2, none⟩ (.int .i64 x2))
          have IN9 := Lib.hid (IN8.out.s2 x2); clear f2 k6 IN8
          generalize w8.setCell ⟨w.heap.size + 1, 2, none⟩ (.int .i64 x2) = w9 at IN9 ⊢
          have hlc := ldClk_run IN9.out.clk
          simp only at hlc
          go_wp2_with (refine wpList_store_row rfl 46 (.tmp 12) (.tmp 83) rfl (w.heap.size + 2) #[.int .i64 x0, .int .i64 x1, .int .i64 x2] rfl rfl 46 _ IN9.out.res clk_info rfl (by simp [Value.oneCell']) ?_)
          refine bodyPost_ret (results_cell_row rfl _ _ (w.heap.size + 2) 46 #[.int .i64 x0, .int .i64 x1, .int .i64 x2] (0, 0) _ rfl IN9.out.back.1 Tryz.underlying46 rfl clk_info) rfl ⟨?_, IN9.out.back.2⟩
          rw [HE.out]
        · obtain rfl : m0 = c.l := by omega
          clear hm0
          go_upto_region 14 with (first
            | (go_at_call 43; refine (KW.out _).mono ?_; rintro e w7 ⟨rfl, rfl⟩)
            | (go_at_call 23; refine (KT.out _).mono ?_; rintro e w7 ⟨rfl, rfl⟩))
          have IN7 := Lib.hid IN6.out; clear IN6 f2
          generalize w6 = w7 at IN7 k0 k1 k2 k3 k4 k5 k6 ⊢
          go_still_tail 9, (by kernel_rfl)
          still_call (KE.out _)
          repeat still_step
          still_call (KU.out _)
          repeat still_step
          still_call (KG.out _)
          repeat still_step
          refine wpStill_nil ?_
          change wpList _ _ _ _ _ w7.drew
          clear k0 k1 k2 k3 k4 k5 k6
          have IN8 := Lib.hid IN7.out.drew; clear IN7
          generalize w7.drew = w8 at IN8 ⊢
          have f2 := IN8.out.thaws 2
          have k6 := IN8.out.clk.c2
          simp only at k6
          go_upto_region 15 with fail
          change Code.wp _ _ _ _ (w8.setCell ⟨w.heap.size + 1, 2, none⟩ (.int .i64 x2))
          have IN9 := Lib.hid (IN8.out.s2 x2); clear f2 k6 IN8
          generalize w8.setCell ⟨w.heap.size + 1, 2, none⟩ (.int .i64 x2) = w9 at IN9 ⊢
          have hlc := ldClk_run IN9.out.clk
          simp only at hlc
          go_wp2_with (refine wpList_store_row rfl 46 (.tmp 12) (.tmp 83) rfl (w.heap.size + 2) #[.int .i64 x0, .int .i64 x1, .int .i64 x2] rfl rfl 46 _ IN9.out.res clk_info rfl (by simp [Value.oneCell']) ?_)
          refine bodyPost_ret (results_cell_row rfl _ _ (w.heap.size + 2) 46 #[.int .i64 x0, .int .i64 x1, .int .i64 x2] (0, 0) _ rfl IN9.out.back.1 Tryz.underlying46 rfl clk_info) rfl ⟨?_, IN9.out.back.2⟩
          rw [HE.out]
  · go_enter Tryz.func30, Tryz.ntmps30
    go_upto_region 1 with fail
    change Code.wp _ _ _ _ (inC1 w q c)
    generalize inC1 w q c = w1 at CR NX hld ⊢
    obtain ⟨a0, ha0⟩ : ∃ x, elseF de = x := ⟨_, rfl⟩
    obtain ⟨b0, hb0⟩ : ∃ x, elseF rh = x := ⟨_, rfl⟩
    rw [ha0] at KE be
    rw [hb0] at KH bh
    have Ha := Lib.hid ha0; have Hb := Lib.hid hb0
    clear ha0 hb0
    go_upto_region 6 with (first
      | (go_at_call 18; refine CR.out.mono ?_; rintro e w2 ⟨rfl, hb2⟩; have IN := Lib.hid (NX.out _ hb2); clear hb2 hld)
      | (go_at_call 40; refine (KH.out _).mono ?_; rintro e w3 ⟨rfl, rfl⟩))
    obtain ⟨y0, hy0⟩ : ∃ x, spaceF q.re = x := ⟨_, rfl⟩
    have KS := Lib.hid (fun W => Calls.stay (refSpace_any q.re W))
    have KT := Lib.hid (fun W => Calls.stay (refTimes_any (spaceF q.re) b0 W (spaceF_in _) (by unfold inI; omega)))
    obtain ⟨t0, ht0⟩ : ∃ x, timesF (spaceF q.re) b0 = x := ⟨_, rfl⟩
    have KG := Lib.hid (fun W => Calls.stay (refAdd_any c.r (timesF (spaceF q.re) b0) W hc.1 (tag_in (timesF_bd _ _))))
    obtain ⟨x0, hx0⟩ : ∃ x, growF c.r (spaceF q.re) b0 = x := ⟨_, rfl⟩
    rw [show addF c.r (timesF (spaceF q.re) b0) = x0 from hx0] at KG
    rw [ht0] at KG KT
    rw [hy0] at KS KT hx0
    have Hx0 := Lib.hid hx0; have Hy0 := Lib.hid hy0
    clear hx0 ht0 hy0
    obtain ⟨k0, k1, k2, k3, k4, k5, k6⟩ := IN.out.reads
    go_still_tail 9, (by kernel_rfl)
    still_call (KS.out _)
    repeat still_step
    still_call (KT.out _)
    repeat still_step
    still_call (KG.out _)
    repeat still_step
    refine wpStill_nil ?_
    change wpList _ _ _ _ _ w2.drew
    clear k0 k1 k2 k3 k4 k5 k6 KS KT KG
    have IN3 := Lib.hid IN.out.drew; clear IN
    generalize w2.drew = w3 at IN3 ⊢
    have f0 := IN3.out.thaws 0
    have k4 := IN3.out.clk.c0
    go_upto_region 7 with fail
    change Code.wp _ _ _ _ (w3.setCell ⟨w.heap.size + 1, 0, none⟩ (.int .i64 x0))
    have IN4 := Lib.hid (IN3.out.s0 x0); clear f0 k4 IN3
    generalize w3.setCell ⟨w.heap.size + 1, 0, none⟩ (.int .i64 x0) = w4 at IN4 ⊢
    have hw1 : 1 ≤ q.we := hright.2.1.1
    have wb := weigh_bd hw1
    have hwz : ¬ q.we = 0 := by omega
    have hdv : Int.tdiv 67108864 q.we = 67108864 / q.we := Int.tdiv_eq_ediv_of_nonneg (by omega)
    obtain ⟨y2, hy2⟩ : ∃ x, 67108864 / q.we = x := ⟨_, rfl⟩
    rw [hy2] at hdv wb
    have hwr := wrap_in y2 (by omega) (by omega)
    have hwa := wrap_in (1 + a0) (by omega) (by omega)
    have KT := Lib.hid (fun W => Calls.stay (refTimes_any y2 (1 + a0) W (by unfold inI; omega) (by unfold inI; omega)))
    obtain ⟨t1, ht1⟩ : ∃ x, timesF y2 (1 + a0) = x := ⟨_, rfl⟩
    have KG := Lib.hid (fun W => Calls.stay (refAdd_any c.p (timesF y2 (1 + a0)) W hc.2.1 (tag_in (timesF_bd _ _))))
    obtain ⟨x1, hx1⟩ : ∃ x, growF c.p y2 (1 + a0) = x := ⟨_, rfl⟩
    rw [show addF c.p (timesF y2 (1 + a0)) = x1 from hx1] at KG
    rw [ht1] at KG KT
    have Hx1 := Lib.hid hx1; clear hx1 ht1
    have Hy2 := Lib.hid hy2; clear hy2
    obtain ⟨k0, k1, k2, k3, k4, k5, k6⟩ := IN4.out.reads
    simp only at k4 k5 k6
    go_still_tail 11, (by kernel_rfl)
    still_call (KE.out _)
    repeat still_step
    still_call (KT.out _)
    repeat still_step
    still_call (KG.out _)
    repeat still_step
    refine wpStill_nil ?_
    change wpList _ _ _ _ _ w4.drew
    clear k0 k1 k2 k3 k4 k5 k6 hwz hw1 wb hdv hwr KT KG
    have IN5 := Lib.hid IN4.out.drew; clear IN4
    generalize w4.drew = w5 at IN5 ⊢
    have f1 := IN5.out.thaws 1
    have k5 := IN5.out.clk.c1
    simp only at k5
    by_cases h0 : q.li = 0
    · have hend : chargedF q c now 2 de rh = ⟨x0, x1, c.l⟩ := by
        unfold chargedF resF
        rw [if_neg (by omega), if_pos h0, Hb.out, Ha.out, Hy0.out, Hx0.out, Hy2.out, Hx1.out]
      have HE := Lib.hid hend; clear hend
      have hz : (q.li == 0) = true := by simp [h0]
      clear h0
      go_upto_region 8 with fail
      change Code.wp _ _ _ _ (w5.setCell ⟨w.heap.size + 1, 1, none⟩ (.int .i64 x1))
      have IN6 := Lib.hid (IN5.out.s1 x1); clear f1 k5 IN5
      generalize w5.setCell ⟨w.heap.size + 1, 1, none⟩ (.int .i64 x1) = w6 at IN6 ⊢
      have k2 := IN6.out.pol.2.2.1
      have hlc := ldClk_run IN6.out.clk
      simp only at hlc
      go_wp2_with (refine wpList_store_row rfl 46 (.tmp 12) (.tmp 57) rfl (w.heap.size + 2) #[.int .i64 x0, .int .i64 x1, .int .i64 c.l] rfl rfl 46 _ IN6.out.res clk_info rfl (by simp [Value.oneCell']) ?_)
      refine bodyPost_ret (results_cell_row rfl _ _ (w.heap.size + 2) 46 #[.int .i64 x0, .int .i64 x1, .int .i64 c.l] (0, 0) _ rfl IN6.out.back.1 Tryz.underlying46 rfl clk_info) rfl ⟨?_, IN6.out.back.2⟩
      rw [HE.out]
    · have hz : (q.li == 0) = false := by simpa using h0
      go_upto_region 8 with fail
      change Code.wp _ _ _ _ (w5.setCell ⟨w.heap.size + 1, 1, none⟩ (.int .i64 x1))
      have IN6 := Lib.hid (IN5.out.s1 x1); clear f1 k5 IN5
      generalize w5.setCell ⟨w.heap.size + 1, 1, none⟩ (.int .i64 x1) = w6 at IN6 ⊢
      obtain ⟨k0, k1, k2, k3, k4, k5, k6⟩ := IN6.out.reads
      simp only at k4 k5 k6
      have f2 := IN6.out.thaws 2
      have KW := Lib.hid (fun W => refWide_any q.li W)
      obtain ⟨y1, hy1⟩ : ∃ x, wideF q.li = x := ⟨_, rfl⟩
      have WB := wideF_in q.li
      rw [hy1] at KW WB
      have Hy1 := Lib.hid hy1; clear hy1
      have KT := Lib.hid (fun W => refTimes_any y1 q.bu W WB (by have := hright.2.2.2.1; unfold inI; omega))
      have TB := timesF_bd y1 q.bu
      obtain ⟨t2, ht2⟩ : ∃ x, timesF y1 q.bu = x := ⟨_, rfl⟩
      rw [ht2] at KT TB
      have Ht2 := Lib.hid ht2; clear ht2
      obtain ⟨tb1, tb2⟩ := TB
      obtain ⟨hn1, hn2⟩ := hn
      have hsub := wrap_in (now - t2) (by omega) (by omega)
      have hlow : aheadF now t2 = if now < t2 then 0 else now - t2 := rfl
      have AB : inI (aheadF now t2) := by rw [hlow]; unfold inI; omega
      obtain ⟨h1, hh1⟩ : ∃ x, aheadF now t2 = x := ⟨_, rfl⟩
      have MB : inI (max c.l h1) := by rw [← hh1]; obtain ⟨h1, h2⟩ := AB; obtain ⟨h3, h4⟩ := hc.2.2; unfold inI; omega
      obtain ⟨m0, hm0⟩ : ∃ x, max c.l h1 = x := ⟨_, rfl⟩
      rw [hm0] at MB
      have KU := Lib.hid (fun W => Calls.stay (refTimes_any y1 (1 + a0) W WB (by unfold inI; omega)))
      obtain ⟨t3, ht3⟩ : ∃ x, timesF y1 (1 + a0) = x := ⟨_, rfl⟩
      have KG := Lib.hid (fun W => Calls.stay (refAdd_any m0 (timesF y1 (1 + a0)) W MB (tag_in (timesF_bd _ _))))
      obtain ⟨x2, hx2⟩ : ∃ x, growF m0 y1 (1 + a0) = x := ⟨_, rfl⟩
      rw [show addF m0 (timesF y1 (1 + a0)) = x2 from hx2] at KG
      rw [ht3] at KG KU
      clear ht3
      have hend : chargedF q c now 2 de rh = ⟨x0, x1, x2⟩ := by
        unfold chargedF resF
        rw [if_neg (by omega), if_neg h0, Hb.out, Ha.out, Hy0.out, Hx0.out, Hy2.out, Hx1.out, Hy1.out, Ht2.out, hh1, hm0, hx2]
      have HE := Lib.hid hend; clear hend
      clear h0 hx2 AB MB WB
      rw [hlow] at hh1
      clear hlow
      by_cases hnt : now - t2 ≤ 0
      · obtain rfl : h1 = 0 := by omega
        clear hh1 hsub
        by_cases hlt : c.l < 0
        · obtain rfl : m0 = 0 := by omega
          clear hm0
          go_upto_region 14 with (first
            | (go_at_call 43; refine (KW.out _).mono ?_; rintro e w7 ⟨rfl, rfl⟩)
            | (go_at_call 23; refine (KT.out _).mono ?_; rintro e w7 ⟨rfl, rfl⟩))
          change Code.wp _ _ _ _ (w6.setCell ⟨w.heap.size + 1, 2, none⟩ (.int .i64 0))
          have IN7 := Lib.hid (IN6.out.s2 0); clear k0 k1 k2 k3 k4 k5 k6 f2 IN6
          generalize w6.setCell ⟨w.heap.size + 1, 2, none⟩ (.int .i64 0) = w7 at IN7 ⊢
          obtain ⟨k0, k1, k2, k3, k4, k5, k6⟩ := IN7.out.reads
          simp only at k4 k5 k6
          go_still_tail 9, (by kernel_rfl)
          still_call (KE.out _)
          repeat still_step
          still_call (KU.out _)
          repeat still_step
          still_call (KG.out _)
          repeat still_step
          refine wpStill_nil ?_
          change wpList _ _ _ _ _ w7.drew
          clear k0 k1 k2 k3 k4 k5 k6
          have IN8 := Lib.hid IN7.out.drew; clear IN7
          generalize w7.drew = w8 at IN8 ⊢
          have f2 := IN8.out.thaws 2
          have k6 := IN8.out.clk.c2
          simp only at k6
          go_upto_region 15 with fail
          change Code.wp _ _ _ _ (w8.setCell ⟨w.heap.size + 1, 2, none⟩ (.int .i64 x2))
          have IN9 := Lib.hid (IN8.out.s2 x2); clear f2 k6 IN8
          generalize w8.setCell ⟨w.heap.size + 1, 2, none⟩ (.int .i64 x2) = w9 at IN9 ⊢
          have hlc := ldClk_run IN9.out.clk
          simp only at hlc
          go_wp2_with (refine wpList_store_row rfl 46 (.tmp 12) (.tmp 83) rfl (w.heap.size + 2) #[.int .i64 x0, .int .i64 x1, .int .i64 x2] rfl rfl 46 _ IN9.out.res clk_info rfl (by simp [Value.oneCell']) ?_)
          refine bodyPost_ret (results_cell_row rfl _ _ (w.heap.size + 2) 46 #[.int .i64 x0, .int .i64 x1, .int .i64 x2] (0, 0) _ rfl IN9.out.back.1 Tryz.underlying46 rfl clk_info) rfl ⟨?_, IN9.out.back.2⟩
          rw [HE.out]
        · obtain rfl : m0 = c.l := by omega
          clear hm0
          go_upto_region 14 with (first
            | (go_at_call 43; refine (KW.out _).mono ?_; rintro e w7 ⟨rfl, rfl⟩)
            | (go_at_call 23; refine (KT.out _).mono ?_; rintro e w7 ⟨rfl, rfl⟩))
          have IN7 := Lib.hid IN6.out; clear IN6 f2
          generalize w6 = w7 at IN7 k0 k1 k2 k3 k4 k5 k6 ⊢
          go_still_tail 9, (by kernel_rfl)
          still_call (KE.out _)
          repeat still_step
          still_call (KU.out _)
          repeat still_step
          still_call (KG.out _)
          repeat still_step
          refine wpStill_nil ?_
          change wpList _ _ _ _ _ w7.drew
          clear k0 k1 k2 k3 k4 k5 k6
          have IN8 := Lib.hid IN7.out.drew; clear IN7
          generalize w7.drew = w8 at IN8 ⊢
          have f2 := IN8.out.thaws 2
          have k6 := IN8.out.clk.c2
          simp only at k6
          go_upto_region 15 with fail
          change Code.wp _ _ _ _ (w8.setCell ⟨w.heap.size + 1, 2, none⟩ (.int .i64 x2))
          have IN9 := Lib.hid (IN8.out.s2 x2); clear f2 k6 IN8
          generalize w8.setCell ⟨w.heap.size + 1, 2, none⟩ (.int .i64 x2) = w9 at IN9 ⊢
          have hlc := ldClk_run IN9.out.clk
          simp only at hlc
          go_wp2_with (refine wpList_store_row rfl 46 (.tmp 12) (.tmp 83) rfl (w.heap.size + 2) #[.int .i64 x0, .int .i64 x1, .int .i64 x2] rfl rfl 46 _ IN9.out.res clk_info rfl (by simp [Value.oneCell']) ?_)
          refine bodyPost_ret (results_cell_row rfl _ _ (w.heap.size + 2) 46 #[.int .i64 x0, .int .i64 x1, .int .i64 x2] (0, 0) _ rfl IN9.out.back.1 Tryz.underlying46 rfl clk_info) rfl ⟨?_, IN9.out.back.2⟩
          rw [HE.out]
      · obtain rfl : h1 = now - t2 := by omega
        clear hh1
        by_cases hlt : c.l < now - t2
        · obtain rfl : m0 = now - t2 := by omega
          clear hm0
          go_upto_region 14 with (first
            | (go_at_call 43; refine (KW.out _).mono ?_; rintro e w7 ⟨rfl, rfl⟩)
            | (go_at_call 23; refine (KT.out _).mono ?_; rintro e w7 ⟨rfl, rfl⟩))
          change Code.wp _ _ _ _ (w6.setCell ⟨w.heap.size + 1, 2, none⟩ (.int .i64 (now - t2)))
          have IN7 := Lib.hid (IN6.out.s2 (now - t2)); clear k0 k1 k2 k3 k4 k5 k6 f2 IN6
          generalize w6.setCell ⟨w.heap.size + 1, 2, none⟩ (.int .i64 (now - t2)) = w7 at IN7 ⊢
          obtain ⟨k0, k1, k2, k3, k4, k5, k6⟩ := IN7.out.reads
          simp only at k4 k5 k6
          go_still_tail 9, (by kernel_rfl)
          still_call (KE.out _)
          repeat still_step
          still_call (KU.out _)
          repeat still_step
          still_call (KG.out _)
          repeat still_step
          refine wpStill_nil ?_
          change wpList _ _ _ _ _ w7.drew
          clear k0 k1 k2 k3 k4 k5 k6
          have IN8 := Lib.hid IN7.out.drew; clear IN7
          generalize w7.drew = w8 at IN8 ⊢
          have f2 := IN8.out.thaws 2
          have k6 := IN8.out.clk.c2
          simp only at k6
          go_upto_region 15 with fail
          change Code.wp _ _ _ _ (w8.setCell ⟨w.heap.size + 1, 2, none⟩ (.int .i64 x2))
          have IN9 := Lib.hid (IN8.out.s2 x2); clear f2 k6 IN8
          generalize w8.setCell ⟨w.heap.size + 1, 2, none⟩ (.int .i64 x2) = w9 at IN9 ⊢
          have hlc := ldClk_run IN9.out.clk
          simp only at hlc
          go_wp2_with (refine wpList_store_row rfl 46 (.tmp 12) (.tmp 83) rfl (w.heap.size + 2) #[.int .i64 x0, .int .i64 x1, .int .i64 x2] rfl rfl 46 _ IN9.out.res clk_info rfl (by simp [Value.oneCell']) ?_)
          refine bodyPost_ret (results_cell_row rfl _ _ (w.heap.size + 2) 46 #[.int .i64 x0, .int .i64 x1, .int .i64 x2] (0, 0) _ rfl IN9.out.back.1 Tryz.underlying46 rfl clk_info) rfl ⟨?_, IN9.out.back.2⟩
          rw [HE.out]
        · obtain rfl : m0 = c.l := by omega
          clear hm0
          go_upto_region 14 with (first
            | (go_at_call 43; refine (KW.out _).mono ?_; rintro e w7 ⟨rfl, rfl⟩)
            | (go_at_call 23; refine (KT.out _).mono ?_; rintro e w7 ⟨rfl, rfl⟩))
          have IN7 := Lib.hid IN6.out; clear IN6 f2
          generalize w6 = w7 at IN7 k0 k1 k2 k3 k4 k5 k6 ⊢
          go_still_tail 9, (by kernel_rfl)
          still_call (KE.out _)
          repeat still_step
          still_call (KU.out _)
          repeat still_step
          still_call (KG.out _)
          repeat still_step
          refine wpStill_nil ?_
          change wpList _ _ _ _ _ w7.drew
          clear k0 k1 k2 k3 k4 k5 k6
          have IN8 := Lib.hid IN7.out.drew; clear IN7
          generalize w7.drew = w8 at IN8 ⊢
          have f2 := IN8.out.thaws 2
          have k6 := IN8.out.clk.c2
          simp only at k6
          go_upto_region 15 with fail
          change Code.wp _ _ _ _ (w8.setCell ⟨w.heap.size + 1, 2, none⟩ (.int .i64 x2))
          have IN9 := Lib.hid (IN8.out.s2 x2); clear f2 k6 IN8
          generalize w8.setCell ⟨w.heap.size + 1, 2, none⟩ (.int .i64 x2) = w9 at IN9 ⊢
          have hlc := ldClk_run IN9.out.clk
          simp only at hlc
          go_wp2_with (refine wpList_store_row rfl 46 (.tmp 12) (.tmp 83) rfl (w.heap.size + 2) #[.int .i64 x0, .int .i64 x1, .int .i64 x2] rfl rfl 46 _ IN9.out.res clk_info rfl (by simp [Value.oneCell']) ?_)
          refine bodyPost_ret (results_cell_row rfl _ _ (w.heap.size + 2) 46 #[.int .i64 x0, .int .i64 x1, .int .i64 x2] (0, 0) _ rfl IN9.out.back.1 Tryz.underlying46 rfl clk_info) rfl ⟨?_, IN9.out.back.2⟩
          rw [HE.out]

set_option maxRecDepth 100000 in
set_option maxHeartbeats 4000000 in
theorem RCharge_no (q : Pol) (c : Clk) (now ph de rh : Int) (w : World) (hq : InP q) (hg : goesF q ph = false) :
    Calls Tryz.prog 30 #[.agg #[.int .i64 q.re, .int .i64 q.we, .int .i64 q.li, .int .i64 q.bu], .agg #[.int .i64 c.r, .int .i64 c.p, .int .i64 c.l], .int .i64 now, .int .i64 ph, .int .i64 de, .int .i64 rh] w
      fun e w' => e = .returned (.agg #[.int .i64 c.r, .int .i64 c.p, .int .i64 c.l]) ∧ Below w.heap.size w w' := by
  have IN := inC1_in w q c hq
  have CR := Lib.hid (RRight_any q (inC1 w q c))
  have NX := Lib.hid (fun (W : World) (hb : Below (inC1 w q c).heap.size (inC1 w q c) W) => (inC1_in w q c hq).later hb)
  have hld := ldPol_run (w := inC1 w q c) IN.pol
  clear IN
  unfold goesF at hg
  obtain ⟨b, hb⟩ : ∃ b, rightP q = b := ⟨_, rfl⟩
  rw [hb] at CR hg
  clear hb
  cases b
  · clear hg
    go_enter Tryz.func30, Tryz.ntmps30
    go_upto_region 1 with fail
    change Code.wp _ _ _ _ (inC1 w q c)
    generalize inC1 w q c = w1 at CR NX hld ⊢
    go_wp2_with (first | (go_at_call 18; refine CR.out.mono ?_; rintro e w2 ⟨rfl, hb2⟩; have IN := Lib.hid (NX.out _ hb2); have hlc := ldClk_run (NX.out _ hb2).clk; clear hb2 hld) | (refine wpList_store_row rfl 46 (.tmp 12) (.tmp 27) rfl (w.heap.size + 2) #[.int .i64 c.r, .int .i64 c.p, .int .i64 c.l] rfl rfl 46 _ IN.out.res clk_info rfl (by simp [Value.oneCell']) ?_))
    refine bodyPost_ret (results_cell_row rfl _ _ (w.heap.size + 2) 46 #[.int .i64 c.r, .int .i64 c.p, .int .i64 c.l] (0, 0) _ rfl IN.out.back.1 Tryz.underlying46 rfl clk_info) rfl ⟨rfl, IN.out.back.2⟩
  · have h1 : ph < 1 ∨ 2 < ph := by simp at hg; omega
    clear hg
    rcases h1 with h1 | h1
    · go_enter Tryz.func30, Tryz.ntmps30
      go_upto_region 1 with fail
      change Code.wp _ _ _ _ (inC1 w q c)
      generalize inC1 w q c = w1 at CR NX hld ⊢
      go_wp2_with (first | (go_at_call 18; refine CR.out.mono ?_; rintro e w2 ⟨rfl, hb2⟩; have IN := Lib.hid (NX.out _ hb2); have hlc := ldClk_run (NX.out _ hb2).clk; clear hb2 hld) | (refine wpList_store_row rfl 46 (.tmp 12) (.tmp 27) rfl (w.heap.size + 2) #[.int .i64 c.r, .int .i64 c.p, .int .i64 c.l] rfl rfl 46 _ IN.out.res clk_info rfl (by simp [Value.oneCell']) ?_))
      refine bodyPost_ret (results_cell_row rfl _ _ (w.heap.size + 2) 46 #[.int .i64 c.r, .int .i64 c.p, .int .i64 c.l] (0, 0) _ rfl IN.out.back.1 Tryz.underlying46 rfl clk_info) rfl ⟨rfl, IN.out.back.2⟩
    · go_enter Tryz.func30, Tryz.ntmps30
      go_upto_region 1 with fail
      change Code.wp _ _ _ _ (inC1 w q c)
      generalize inC1 w q c = w1 at CR NX hld ⊢
      go_wp2_with (first | (go_at_call 18; refine CR.out.mono ?_; rintro e w2 ⟨rfl, hb2⟩; have IN := Lib.hid (NX.out _ hb2); have hlc := ldClk_run (NX.out _ hb2).clk; clear hb2 hld) | (refine wpList_store_row rfl 46 (.tmp 12) (.tmp 27) rfl (w.heap.size + 2) #[.int .i64 c.r, .int .i64 c.p, .int .i64 c.l] rfl rfl 46 _ IN.out.res clk_info rfl (by simp [Value.oneCell']) ?_))
      refine bodyPost_ret (results_cell_row rfl _ _ (w.heap.size + 2) 46 #[.int .i64 c.r, .int .i64 c.p, .int .i64 c.l] (0, 0) _ rfl IN.out.back.1 Tryz.underlying46 rfl clk_info) rfl ⟨rfl, IN.out.back.2⟩

theorem RCharge_any (q : Pol) (c : Clk) (now ph de rh : Int) (w : World) (hq : InP q) (hc : InC c) (hn : isTag now) (hd : inI de) (hr : inI rh) :
    Calls Tryz.prog 30 #[.agg #[.int .i64 q.re, .int .i64 q.we, .int .i64 q.li, .int .i64 q.bu], .agg #[.int .i64 c.r, .int .i64 c.p, .int .i64 c.l], .int .i64 now, .int .i64 ph, .int .i64 de, .int .i64 rh] w
      fun e w' => e = .returned (.agg #[.int .i64 (chargeF q c now ph de rh).r, .int .i64 (chargeF q c now ph de rh).p, .int .i64 (chargeF q c now ph de rh).l]) ∧ Below w.heap.size w w' := by
  unfold chargeF
  by_cases hg : goesF q ph = true
  · rw [if_pos hg]
    have h := hg
    unfold goesF at h
    simp only [Bool.and_eq_true, Bool.or_eq_true, decide_eq_true_eq] at h
    exact RCharge_yes q c now ph de rh w hq hc hn hd hr h.1 h.2
  · rw [if_neg hg]
    exact RCharge_no q c now ph de rh w hq (by simpa using hg)
end Go.Proofs.YtbfjakchgmdldaaGreat
