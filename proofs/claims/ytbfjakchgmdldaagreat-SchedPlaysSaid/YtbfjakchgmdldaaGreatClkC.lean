/-
  Contract of clocks.Charge. Condition: that an int holds the numbers.
-/
import Derived.Test.YtbfjakchgmdldaaGreatClkL
import Derived.StillTailTactics
import Derived.Deep.DeepCutAuto
namespace Go.Proofs.YtbfjakchgmdldaaGreat
open Go.ChangeShapes Go.WideShapes Go.ChangeAt Go.RowKit
set_option linter.unusedVariables false

/-- a callee that leaves the world as it is, in the form that a still region asks for -/
theorem Calls.stay {P : Program} {f : FuncId} {args : Array Value} {w : World} {v : Value} (h : Calls P f args w fun e w' => e = .returned v ∧ w = w') : Calls P f args w fun e w' => e = .returned v ∧ w' = w :=
  h.mono fun _ _ ⟨a, b⟩ => ⟨a, b.symm⟩
/-- within a charge: the policy at g, the clocks behind it, the result behind them; nothing of w has turned -/
structure InCharge (w W : World) (g : Nat) (q : Pol) (c : Clk) : Prop where
  hg : g = w.heap.size
  pol : PolAt W g 0 q
  clk : ClkAt W (g + 1) c
  res : ClkAt W (g + 2) ⟨0, 0, 0⟩
  below : Below g w W
theorem InCharge.drew {w W : World} {g : Nat} {q : Pol} {c : Clk} (h : InCharge w W g q c) : InCharge w W.drew g q c := ⟨h.hg, h.pol, h.clk, h.res, h.below.drew⟩
theorem InCharge.s0 {w W : World} {g : Nat} {q : Pol} {c : Clk} (h : InCharge w W g q c) (x : Int) : InCharge w (W.setCell ⟨g + 1, 0, none⟩ (.int .i64 x)) g q ⟨x, c.p, c.l⟩ :=
  ⟨h.hg, h.pol.set_else (by omega) _ _, h.clk.s0 x, h.res.set_else (by omega) _ _, below_set h.below (by omega) _ _⟩
theorem InCharge.s1 {w W : World} {g : Nat} {q : Pol} {c : Clk} (h : InCharge w W g q c) (x : Int) : InCharge w (W.setCell ⟨g + 1, 1, none⟩ (.int .i64 x)) g q ⟨c.r, x, c.l⟩ :=
  ⟨h.hg, h.pol.set_else (by omega) _ _, h.clk.s1 x, h.res.set_else (by omega) _ _, below_set h.below (by omega) _ _⟩
theorem InCharge.s2 {w W : World} {g : Nat} {q : Pol} {c : Clk} (h : InCharge w W g q c) (x : Int) : InCharge w (W.setCell ⟨g + 1, 2, none⟩ (.int .i64 x)) g q ⟨c.r, c.p, x⟩ :=
  ⟨h.hg, h.pol.set_else (by omega) _ _, h.clk.s2 x, h.res.set_else (by omega) _ _, below_set h.below (by omega) _ _⟩
/-- what a walk reads of it -/
theorem InCharge.reads {w W : World} {g : Nat} {q : Pol} {c : Clk} (h : InCharge w W g q c) :
    W.cell? ⟨g, 0, none⟩ = some (.int .i64 q.re) ∧ W.cell? ⟨g, 1, none⟩ = some (.int .i64 q.we) ∧ W.cell? ⟨g, 2, none⟩ = some (.int .i64 q.li) ∧ W.cell? ⟨g, 3, none⟩ = some (.int .i64 q.bu) ∧
    W.cell? ⟨g + 1, 0, none⟩ = some (.int .i64 c.r) ∧ W.cell? ⟨g + 1, 1, none⟩ = some (.int .i64 c.p) ∧ W.cell? ⟨g + 1, 2, none⟩ = some (.int .i64 c.l) :=
  ⟨h.pol.1, h.pol.2.1, h.pol.2.2.1, h.pol.2.2.2.1, h.clk.c0, h.clk.c1, h.clk.c2⟩
theorem InCharge.thaws {w W : World} {g : Nat} {q : Pol} {c : Clk} (h : InCharge w W g q c) (j : Nat) : W.frozen? ⟨g + 1, j, none⟩ = false := row_frozen h.clk j
/-- the result, laid down -/
theorem InCharge.back {w W : World} {g : Nat} {q : Pol} {c : Clk} (h : InCharge w W g q c) :
    (W.setRow (g + 2) #[.int .i64 c.r, .int .i64 c.p, .int .i64 c.l]).heap[g + 2]? = some (.cells #[.int .i64 c.r, .int .i64 c.p, .int .i64 c.l] 46 (0, 0)) ∧ Below w.heap.size w (W.setRow (g + 2) #[.int .i64 c.r, .int .i64 c.p, .int .i64 c.l]) :=
  ⟨setRow_heap W (g + 2) _ _ _ (0, 0) h.res, by rw [← h.hg]; exact h.below.trans ⟨rfl, rfl, rfl, by simp, fun k hk => setRow_other W (g + 2) k _ (by omega)⟩⟩

def inC1 (w : World) (q : Pol) (c : Clk) : World := ((w.alloc (.cells #[.int .i64 q.re, .int .i64 q.we, .int .i64 q.li, .int .i64 q.bu] 28)).alloc (.cells #[.int .i64 c.r, .int .i64 c.p, .int .i64 c.l] 46)).alloc (.cells #[.int .i64 0, .int .i64 0, .int .i64 0] 46)
theorem inC1_in (w : World) (q : Pol) (c : Clk) (hq : InP q) : InCharge w (inC1 w q c) w.heap.size q c := by
  have b2 := below_two w (.cells #[.int .i64 q.re, .int .i64 q.we, .int .i64 q.li, .int .i64 q.bu] 28) (.cells #[.int .i64 c.r, .int .i64 c.p, .int .i64 c.l] 46)
  have b3 := below_box ((w.alloc (.cells #[.int .i64 q.re, .int .i64 q.we, .int .i64 q.li, .int .i64 q.bu] 28)).alloc (.cells #[.int .i64 c.r, .int .i64 c.p, .int .i64 c.l] 46)) (.cells #[.int .i64 0, .int .i64 0, .int .i64 0] 46)
  refine ⟨rfl, (pol_of_row (heap_two0 w _ _) hq).below b3, ClkAt.below (heap_two w _ _) b3, ?_, b2.trans (b3.mono b2.size)⟩
  have h := heap_alloc_new ((w.alloc (.cells #[.int .i64 q.re, .int .i64 q.we, .int .i64 q.li, .int .i64 q.bu] 28)).alloc (.cells #[.int .i64 c.r, .int .i64 c.p, .int .i64 c.l] 46)) (.cells #[.int .i64 0, .int .i64 0, .int .i64 0] 46)
  rwa [size_box, size_box] at h
theorem InCharge.later {w W W' : World} {g : Nat} {q : Pol} {c : Clk} (h : InCharge w W g q c) (hb : Below W.heap.size W W') : InCharge w W' g q c :=
  ⟨h.hg, h.pol.below hb, h.clk.below hb, h.res.below hb, h.below.trans (hb.mono (by rw [h.hg]; exact h.below.size))⟩

attribute [local go_sem ↓] ldPol_eq ldClk_eq
set_option maxRecDepth 100000 in
set_option maxHeartbeats 4000000 in
theorem Charge_yes (q : Pol) (c : Clk) (now ph de rh : Int) (w : World) (hq : InP q) (hc : InC c) (hn : inI now) (hd : inI de) (hr : inI rh) (hg : rightP q = true) (hph : ph = 1 ∨ ph = 2) :
    Calls Tryz.prog 46 #[.agg #[.int .i64 q.re, .int .i64 q.we, .int .i64 q.li, .int .i64 q.bu], .agg #[.int .i64 c.r, .int .i64 c.p, .int .i64 c.l], .int .i64 now, .int .i64 ph, .int .i64 de, .int .i64 rh] w
      fun e w' => e = .returned (.agg #[.int .i64 (chargedF q c now ph de rh).r, .int .i64 (chargedF q c now ph de rh).p, .int .i64 (chargedF q c now ph de rh).l]) ∧ Below w.heap.size w w' := by
  have IN := inC1_in w q c hq
  have CR := Lib.hid (Right_any q (inC1 w q c))
  rw [hg] at CR
  have hright := (rightP_iff q).1 hg
  have NX := Lib.hid (fun (W : World) (hb : Below (inC1 w q c).heap.size (inC1 w q c) W) => (inC1_in w q c hq).later hb)
  have hld := ldPol_run (w := inC1 w q c) IN.pol
  have KE := Lib.hid (fun W => elsewhere_any de W hd)
  have KH := Lib.hid (fun W => elsewhere_any rh W hr)
  have be := elseF_bd de
  have bh := elseF_bd rh
  clear hg IN
  rcases hph with rfl | rfl
  · go_enter Tryz.func46, Tryz.ntmps46
    go_upto_region 1 with fail
    change Code.wp _ _ _ _ (inC1 w q c)
    generalize inC1 w q c = w1 at CR NX hld ⊢
    obtain ⟨a0, ha0⟩ : ∃ x, elseF de = x := ⟨_, rfl⟩
    obtain ⟨b0, hb0⟩ : ∃ x, elseF rh = x := ⟨_, rfl⟩
    rw [ha0] at KE be
    rw [hb0] at KH bh
    have Ha := Lib.hid ha0; have Hb := Lib.hid hb0
    clear ha0 hb0
    go_upto_region 6 with (first
      | (go_at_call 20; refine CR.out.mono ?_; rintro e w2 ⟨rfl, hb2⟩; have IN := Lib.hid (NX.out _ hb2); clear hb2 hld)
      | (go_at_call_of 57 (Value.int .i64 de); refine (KE.out _).mono ?_; rintro e w3 ⟨rfl, rfl⟩)
      | (go_at_call 57; refine (KH.out _).mono ?_; rintro e w3 ⟨rfl, rfl⟩))
    obtain ⟨x0, hx0⟩ : ∃ x, growF c.r (spaceF q.re) (b0 + 1) = x := ⟨_, rfl⟩
    have KS := Lib.hid (fun W => Calls.stay (space_any q.re W))
    have KG := Lib.hid (fun W => Calls.stay (grow_any c.r (spaceF q.re) (b0 + 1) W hc.1 (spaceF_in _) (by unfold inI; omega)))
    rw [hx0] at KG
    have Hx0 := Lib.hid hx0; clear hx0
    obtain ⟨y0, hy0⟩ : ∃ x, spaceF q.re = x := ⟨_, rfl⟩
    rw [hy0] at KG KS Hx0
    have Hy0 := Lib.hid hy0; clear hy0
    obtain ⟨k0, k1, k2, k3, k4, k5, k6⟩ := IN.out.reads
    go_still_tail 8, (by kernel_rfl)
    still_call (KS.out _)
    repeat still_step
    still_call (KG.out _)
    repeat still_step
    refine wpStill_nil ?_
    change wpList _ _ _ _ _ w2.drew
    clear k0 k1 k2 k3 k4 k5 k6
    have IN3 := Lib.hid IN.out.drew; clear IN
    generalize w2.drew = w3 at IN3 ⊢
    have f0 := IN3.out.thaws 0
    have k4 := IN3.out.clk.c0
    go_upto_region 7 with fail
    change Code.wp _ _ _ _ (w3.setCell ⟨w.heap.size + 1, 0, none⟩ (.int .i64 x0))
    have IN4 := Lib.hid (IN3.out.s0 x0); clear f0 k4 IN3
    generalize w3.setCell ⟨w.heap.size + 1, 0, none⟩ (.int .i64 x0) = w4 at IN4 ⊢
    have hw1 : 1 ≤ q.we := hright.2.1.1
    have wb := weigh_bd hw1
    have hwz : ¬ q.we = 0 := by omega
    have hdv : Int.tdiv 67108864 q.we = 67108864 / q.we := Int.tdiv_eq_ediv_of_nonneg (by omega)
    obtain ⟨y2, hy2⟩ : ∃ x, 67108864 / q.we = x := ⟨_, rfl⟩
    rw [hy2] at hdv wb
    have hwr := wrap_in y2 (by omega) (by omega)
    obtain ⟨x1, hx1⟩ : ∃ x, growF c.p y2 (1 + a0) = x := ⟨_, rfl⟩
    have KG := Lib.hid (fun W => Calls.stay (grow_any c.p y2 (1 + a0) W hc.2.1 (by unfold inI; omega) (by unfold inI; omega)))
    rw [hx1] at KG
    have Hx1 := Lib.hid hx1; clear hx1
    have Hy2 := Lib.hid hy2; clear hy2
    obtain ⟨k0, k1, k2, k3, k4, k5, k6⟩ := IN4.out.reads
    simp only at k4 k5 k6
    go_still_tail 8, (by kernel_rfl)
    still_call (KG.out _)
    repeat still_step
    refine wpStill_nil ?_
    change wpList _ _ _ _ _ w4.drew
    clear k0 k1 k2 k3 k4 k5 k6 hwz hw1 wb hdv hwr
    have IN5 := Lib.hid IN4.out.drew; clear IN4
    generalize w4.drew = w5 at IN5 ⊢
    have f1 := IN5.out.thaws 1
    have k5 := IN5.out.clk.c1
    simp only at k5
    by_cases h0 : q.li = 0
    · have hend : chargedF q c now 1 de rh = ⟨x0, x1, c.l⟩ := by
        unfold chargedF resF
        rw [if_pos rfl, if_pos h0, Hb.out, Ha.out, Hy0.out, Hx0.out, Hy2.out, Hx1.out]
      have HE := Lib.hid hend; clear hend
      have hz : (q.li != 0) = false := by simp [h0]
      clear h0
      go_upto_region 8 with fail
      change Code.wp _ _ _ _ (w5.setCell ⟨w.heap.size + 1, 1, none⟩ (.int .i64 x1))
      have IN6 := Lib.hid (IN5.out.s1 x1); clear f1 k5 IN5
      generalize w5.setCell ⟨w.heap.size + 1, 1, none⟩ (.int .i64 x1) = w6 at IN6 ⊢
      have k2 := IN6.out.pol.2.2.1
      have hlc := ldClk_run IN6.out.clk
      simp only at hlc
      go_wp2_with (refine wpList_store_row rfl 46 (.tmp 12) (.tmp 72) rfl (w.heap.size + 2) #[.int .i64 x0, .int .i64 x1, .int .i64 c.l] rfl rfl 46 _ IN6.out.res clk_info rfl (by simp [Value.oneCell']) ?_)
      refine bodyPost_ret (results_cell_row rfl _ _ (w.heap.size + 2) 46 #[.int .i64 x0, .int .i64 x1, .int .i64 c.l] (0, 0) _ rfl IN6.out.back.1 Tryz.underlying46 rfl clk_info) rfl ⟨?_, IN6.out.back.2⟩
      rw [HE.out]
    · have hz : (q.li != 0) = true := by simpa using h0
      go_upto_region 8 with fail
      change Code.wp _ _ _ _ (w5.setCell ⟨w.heap.size + 1, 1, none⟩ (.int .i64 x1))
      have IN6 := Lib.hid (IN5.out.s1 x1); clear f1 k5 IN5
      generalize w5.setCell ⟨w.heap.size + 1, 1, none⟩ (.int .i64 x1) = w6 at IN6 ⊢
      have k2 := IN6.out.pol.2.2.1
      have KW := Lib.hid (fun W => wide_any q.li W)
      obtain ⟨y1, hy1⟩ : ∃ x, wideF q.li = x := ⟨_, rfl⟩
      rw [hy1] at KW
      have Hy1 := Lib.hid hy1; clear hy1
      go_upto_region 10 with (go_at_call 60; refine (KW.out _).mono ?_; rintro e w7 ⟨rfl, rfl⟩)
      clear k2
      have KT := Lib.hid (fun W => Calls.stay (times_any y1 q.bu W (by rw [← Hy1.out]; exact wideF_in _) (by have := hright.2.2.2.1; unfold inI; omega)))
      have TB := timesF_bd y1 q.bu
      obtain ⟨t0, ht0⟩ : ∃ x, timesF y1 q.bu = x := ⟨_, rfl⟩
      rw [ht0] at KT TB
      have Ht0 := Lib.hid ht0; clear ht0
      have KA := Lib.hid (fun W => Calls.stay (ahead_any now t0 W hn TB))
      have AB : inI (aheadF now t0) := by obtain ⟨h1, h2⟩ := hn; obtain ⟨h3, h4⟩ := TB; unfold aheadF inI; omega
      obtain ⟨h1, hh1⟩ : ∃ x, aheadF now t0 = x := ⟨_, rfl⟩
      rw [hh1] at KA AB
      have Hh1 := Lib.hid hh1; clear hh1
      have MB : inI (max c.l h1) := by obtain ⟨h1, h2⟩ := AB; obtain ⟨h3, h4⟩ := hc.2.2; unfold inI; omega
      obtain ⟨m0, hm0⟩ : ∃ x, max c.l h1 = x := ⟨_, rfl⟩
      rw [hm0] at MB
      have Hm0 := Lib.hid hm0
      have KG := Lib.hid (fun W => Calls.stay (grow_any m0 y1 (1 + a0) W MB (by rw [← Hy1.out]; exact wideF_in _) (by unfold inI; omega)))
      obtain ⟨x2, hx2⟩ : ∃ x, growF m0 y1 (1 + a0) = x := ⟨_, rfl⟩
      rw [hx2] at KG
      have Hx2 := Lib.hid hx2; clear hx2
      obtain ⟨k0, k1, k2, k3, k4, k5, k6⟩ := IN6.out.reads
      simp only at k4 k5 k6
      have hend : chargedF q c now 1 de rh = ⟨x0, x1, x2⟩ := by
        unfold chargedF resF
        rw [if_pos rfl, if_neg h0, Hb.out, Ha.out, Hy0.out, Hx0.out, Hy2.out, Hx1.out, Hy1.out, Ht0.out, Hh1.out, Hm0.out, Hx2.out]
      have HE := Lib.hid hend; clear hend
      clear h0 TB AB MB
      by_cases hlt : c.l < h1
      · obtain rfl : m0 = h1 := by omega
        clear hm0
        go_still_tail 13, (by kernel_rfl)
        still_call (KT.out _)
        repeat still_step
        still_call (KA.out _)
        repeat still_step
        still_call (KG.out _)
        repeat still_step
        refine wpStill_nil ?_
        change wpList _ _ _ _ _ w6.drew
        clear k0 k1 k2 k3 k4 k5 k6
        have IN7 := Lib.hid IN6.out.drew; clear IN6
        generalize w6.drew = w7 at IN7 ⊢
        have f2 := IN7.out.thaws 2
        have k6 := IN7.out.clk.c2
        simp only at k6
        go_upto_region 11 with fail
        change Code.wp _ _ _ _ (w7.setCell ⟨w.heap.size + 1, 2, none⟩ (.int .i64 x2))
        have IN8 := Lib.hid (IN7.out.s2 x2); clear f2 k6 IN7
        generalize w7.setCell ⟨w.heap.size + 1, 2, none⟩ (.int .i64 x2) = w8 at IN8 ⊢
        have hlc := ldClk_run IN8.out.clk
        simp only at hlc
        go_wp2_with (refine wpList_store_row rfl 46 (.tmp 12) (.tmp 72) rfl (w.heap.size + 2) #[.int .i64 x0, .int .i64 x1, .int .i64 x2] rfl rfl 46 _ IN8.out.res clk_info rfl (by simp [Value.oneCell']) ?_)
        refine bodyPost_ret (results_cell_row rfl _ _ (w.heap.size + 2) 46 #[.int .i64 x0, .int .i64 x1, .int .i64 x2] (0, 0) _ rfl IN8.out.back.1 Tryz.underlying46 rfl clk_info) rfl ⟨?_, IN8.out.back.2⟩
        rw [HE.out]
      · obtain rfl : m0 = c.l := by omega
        clear hm0
        go_still_tail 13, (by kernel_rfl)
        still_call (KT.out _)
        repeat still_step
        still_call (KA.out _)
        repeat still_step
        still_call (KG.out _)
        repeat still_step
        refine wpStill_nil ?_
        change wpList _ _ _ _ _ w6.drew
        clear k0 k1 k2 k3 k4 k5 k6
        have IN7 := Lib.hid IN6.out.drew; clear IN6
        generalize w6.drew = w7 at IN7 ⊢
        have f2 := IN7.out.thaws 2
        have k6 := IN7.out.clk.c2
        simp only at k6
        go_upto_region 11 with fail
        change Code.wp _ _ _ _ (w7.setCell ⟨w.heap.size + 1, 2, none⟩ (.int .i64 x2))
        have IN8 := Lib.hid (IN7.out.s2 x2); clear f2 k6 IN7
        generalize w7.setCell ⟨w.heap.size + 1, 2, none⟩ (.int .i64 x2) = w8 at IN8 ⊢
        have hlc := ldClk_run IN8.out.clk
        simp only at hlc
        go_wp2_with (refine wpList_store_row rfl 46 (.tmp 12) (.tmp 72) rfl (w.heap.size + 2) #[.int .i64 x0, .int .i64 x1, .int .i64 x2] rfl rfl 46 _ IN8.out.res clk_info rfl (by simp [Value.oneCell']) ?_)
        refine bodyPost_ret (results_cell_row rfl _ _ (w.heap.size + 2) 46 #[.int .i64 x0, .int .i64 x1, .int .i64 x2] (0, 0) _ rfl IN8.out.back.1 Tryz.underlying46 rfl clk_info) rfl ⟨?_, IN8.out.back.2⟩
        rw [HE.out]
  · go_enter Tryz.func46, Tryz.ntmps46
    go_upto_region 1 with fail
    change Code.wp _ _ _ _ (inC1 w q c)
    generalize inC1 w q c = w1 at CR NX hld ⊢
    obtain ⟨a0, ha0⟩ : ∃ x, elseF de = x := ⟨_, rfl⟩
    obtain ⟨b0, hb0⟩ : ∃ x, elseF rh = x := ⟨_, rfl⟩
    rw [ha0] at KE be
    rw [hb0] at KH bh
    have Ha := Lib.hid ha0; have Hb := Lib.hid hb0
    clear ha0 hb0
    go_upto_region 6 with (first
      | (go_at_call 20; refine CR.out.mono ?_; rintro e w2 ⟨rfl, hb2⟩; have IN := Lib.hid (NX.out _ hb2); clear hb2 hld)
      | (go_at_call_of 57 (Value.int .i64 de); refine (KE.out _).mono ?_; rintro e w3 ⟨rfl, rfl⟩)
      | (go_at_call 57; refine (KH.out _).mono ?_; rintro e w3 ⟨rfl, rfl⟩))
    obtain ⟨x0, hx0⟩ : ∃ x, growF c.r (spaceF q.re) b0 = x := ⟨_, rfl⟩
    have KS := Lib.hid (fun W => Calls.stay (space_any q.re W))
    have KG := Lib.hid (fun W => Calls.stay (grow_any c.r (spaceF q.re) b0 W hc.1 (spaceF_in _) (by unfold inI; omega)))
    rw [hx0] at KG
    have Hx0 := Lib.hid hx0; clear hx0
    obtain ⟨y0, hy0⟩ : ∃ x, spaceF q.re = x := ⟨_, rfl⟩
    rw [hy0] at KG KS Hx0
    have Hy0 := Lib.hid hy0; clear hy0
    obtain ⟨k0, k1, k2, k3, k4, k5, k6⟩ := IN.out.reads
    go_still_tail 8, (by kernel_rfl)
    still_call (KS.out _)
    repeat still_step
    still_call (KG.out _)
    repeat still_step
    refine wpStill_nil ?_
    change wpList _ _ _ _ _ w2.drew
    clear k0 k1 k2 k3 k4 k5 k6
    have IN3 := Lib.hid IN.out.drew; clear IN
    generalize w2.drew = w3 at IN3 ⊢
    have f0 := IN3.out.thaws 0
    have k4 := IN3.out.clk.c0
    go_upto_region 7 with fail
    change Code.wp _ _ _ _ (w3.setCell ⟨w.heap.size + 1, 0, none⟩ (.int .i64 x0))
    have IN4 := Lib.hid (IN3.out.s0 x0); clear f0 k4 IN3
    generalize w3.setCell ⟨w.heap.size + 1, 0, none⟩ (.int .i64 x0) = w4 at IN4 ⊢
    have hw1 : 1 ≤ q.we := hright.2.1.1
    have wb := weigh_bd hw1
    have hwz : ¬ q.we = 0 := by omega
    have hdv : Int.tdiv 67108864 q.we = 67108864 / q.we := Int.tdiv_eq_ediv_of_nonneg (by omega)
    obtain ⟨y2, hy2⟩ : ∃ x, 67108864 / q.we = x := ⟨_, rfl⟩
    rw [hy2] at hdv wb
    have hwr := wrap_in y2 (by omega) (by omega)
    obtain ⟨x1, hx1⟩ : ∃ x, growF c.p y2 (1 + a0) = x := ⟨_, rfl⟩
    have KG := Lib.hid (fun W => Calls.stay (grow_any c.p y2 (1 + a0) W hc.2.1 (by unfold inI; omega) (by unfold inI; omega)))
    rw [hx1] at KG
    have Hx1 := Lib.hid hx1; clear hx1
    have Hy2 := Lib.hid hy2; clear hy2
    obtain ⟨k0, k1, k2, k3, k4, k5, k6⟩ := IN4.out.reads
    simp only at k4 k5 k6
    go_still_tail 8, (by kernel_rfl)
    still_call (KG.out _)
    repeat still_step
    refine wpStill_nil ?_
    change wpList _ _ _ _ _ w4.drew
    clear k0 k1 k2 k3 k4 k5 k6 hwz hw1 wb hdv hwr
    have IN5 := Lib.hid IN4.out.drew; clear IN4
    generalize w4.drew = w5 at IN5 ⊢
    have f1 := IN5.out.thaws 1
    have k5 := IN5.out.clk.c1
    simp only at k5
    by_cases h0 : q.li = 0
    · have hend : chargedF q c now 2 de rh = ⟨x0, x1, c.l⟩ := by
        unfold chargedF resF
        rw [if_neg (by omega), if_pos h0, Hb.out, Ha.out, Hy0.out, Hx0.out, Hy2.out, Hx1.out]
      have HE := Lib.hid hend; clear hend
      have hz : (q.li != 0) = false := by simp [h0]
      clear h0
      go_upto_region 8 with fail
      change Code.wp _ _ _ _ (w5.setCell ⟨w.heap.size + 1, 1, none⟩ (.int .i64 x1))
      have IN6 := Lib.hid (IN5.out.s1 x1); clear f1 k5 IN5
      generalize w5.setCell ⟨w.heap.size + 1, 1, none⟩ (.int .i64 x1) = w6 at IN6 ⊢
      have k2 := IN6.out.pol.2.2.1
      have hlc := ldClk_run IN6.out.clk
      simp only at hlc
      go_wp2_with (refine wpList_store_row rfl 46 (.tmp 12) (.tmp 72) rfl (w.heap.size + 2) #[.int .i64 x0, .int .i64 x1, .int .i64 c.l] rfl rfl 46 _ IN6.out.res clk_info rfl (by simp [Value.oneCell']) ?_)
      refine bodyPost_ret (results_cell_row rfl _ _ (w.heap.size + 2) 46 #[.int .i64 x0, .int .i64 x1, .int .i64 c.l] (0, 0) _ rfl IN6.out.back.1 Tryz.underlying46 rfl clk_info) rfl ⟨?_, IN6.out.back.2⟩
      rw [HE.out]
    · have hz : (q.li != 0) = true := by simpa using h0
      go_upto_region 8 with fail
      change Code.wp _ _ _ _ (w5.setCell ⟨w.heap.size + 1, 1, none⟩ (.int .i64 x1))
      have IN6 := Lib.hid (IN5.out.s1 x1); clear f1 k5 IN5
      generalize w5.setCell ⟨w.heap.size + 1, 1, none⟩ (.int .i64 x1) = w6 at IN6 ⊢
      have k2 := IN6.out.pol.2.2.1
      have KW := Lib.hid (fun W => wide_any q.li W)
      obtain ⟨y1, hy1⟩ : ∃ x, wideF q.li = x := ⟨_, rfl⟩
      rw [hy1] at KW
      have Hy1 := Lib.hid hy1; clear hy1
      go_upto_region 10 with (go_at_call 60; refine (KW.out _).mono ?_; rintro e w7 ⟨rfl, rfl⟩)
      clear k2
      have KT := Lib.hid (fun W => Calls.stay (times_any y1 q.bu W (by rw [← Hy1.out]; exact wideF_in _) (by have := hright.2.2.2.1; unfold inI; omega)))
      have TB := timesF_bd y1 q.bu
      obtain ⟨t0, ht0⟩ : ∃ x, timesF y1 q.bu = x := ⟨_, rfl⟩
      rw [ht0] at KT TB
      have Ht0 := Lib.hid ht0; clear ht0
      have KA := Lib.hid (fun W => Calls.stay (ahead_any now t0 W hn TB))
      have AB : inI (aheadF now t0) := by obtain ⟨h1, h2⟩ := hn; obtain ⟨h3, h4⟩ := TB; unfold aheadF inI; omega
      obtain ⟨h1, hh1⟩ : ∃ x, aheadF now t0 = x := ⟨_, rfl⟩
      rw [hh1] at KA AB
      have Hh1 := Lib.hid hh1; clear hh1
      have MB : inI (max c.l h1) := by obtain ⟨h1, h2⟩ := AB; obtain ⟨h3, h4⟩ := hc.2.2; unfold inI; omega
      obtain ⟨m0, hm0⟩ : ∃ x, max c.l h1 = x := ⟨_, rfl⟩
      rw [hm0] at MB
      have Hm0 := Lib.hid hm0
      have KG := Lib.hid (fun W => Calls.stay (grow_any m0 y1 (1 + a0) W MB (by rw [← Hy1.out]; exact wideF_in _) (by unfold inI; omega)))
      obtain ⟨x2, hx2⟩ : ∃ x, growF m0 y1 (1 + a0) = x := ⟨_, rfl⟩
      rw [hx2] at KG
      have Hx2 := Lib.hid hx2; clear hx2
      obtain ⟨k0, k1, k2, k3, k4, k5, k6⟩ := IN6.out.reads
      simp only at k4 k5 k6
      have hend : chargedF q c now 2 de rh = ⟨x0, x1, x2⟩ := by
        unfold chargedF resF
        rw [if_neg (by omega), if_neg h0, Hb.out, Ha.out, Hy0.out, Hx0.out, Hy2.out, Hx1.out, Hy1.out, Ht0.out, Hh1.out, Hm0.out, Hx2.out]
      have HE := Lib.hid hend; clear hend
      clear h0 TB AB MB
      by_cases hlt : c.l < h1
      · obtain rfl : m0 = h1 := by omega
        clear hm0
        go_still_tail 13, (by kernel_rfl)
        still_call (KT.out _)
        repeat still_step
        still_call (KA.out _)
        repeat still_step
        still_call (KG.out _)
        repeat still_step
        refine wpStill_nil ?_
        change wpList _ _ _ _ _ w6.drew
        clear k0 k1 k2 k3 k4 k5 k6
        have IN7 := Lib.hid IN6.out.drew; clear IN6
        generalize w6.drew = w7 at IN7 ⊢
        have f2 := IN7.out.thaws 2
        have k6 := IN7.out.clk.c2
        simp only at k6
        go_upto_region 11 with fail
        change Code.wp _ _ _ _ (w7.setCell ⟨w.heap.size + 1, 2, none⟩ (.int .i64 x2))
        have IN8 := Lib.hid (IN7.out.s2 x2); clear f2 k6 IN7
        generalize w7.setCell ⟨w.heap.size + 1, 2, none⟩ (.int .i64 x2) = w8 at IN8 ⊢
        have hlc := ldClk_run IN8.out.clk
        simp only at hlc
        go_wp2_with (refine wpList_store_row rfl 46 (.tmp 12) (.tmp 72) rfl (w.heap.size + 2) #[.int .i64 x0, .int .i64 x1, .int .i64 x2] rfl rfl 46 _ IN8.out.res clk_info rfl (by simp [Value.oneCell']) ?_)
        refine bodyPost_ret (results_cell_row rfl _ _ (w.heap.size + 2) 46 #[.int .i64 x0, .int .i64 x1, .int .i64 x2] (0, 0) _ rfl IN8.out.back.1 Tryz.underlying46 rfl clk_info) rfl ⟨?_, IN8.out.back.2⟩
        rw [HE.out]
      · obtain rfl : m0 = c.l := by omega
        clear hm0
        go_still_tail 13, (by kernel_rfl)
        still_call (KT.out _)
        repeat still_step
        still_call (KA.out _)
        repeat still_step
        still_call (KG.out _)
        repeat still_step
        refine wpStill_nil ?_
        change wpList _ _ _ _ _ w6.drew
        clear k0 k1 k2 k3 k4 k5 k6
        have IN7 := Lib.hid IN6.out.drew; clear IN6
        generalize w6.drew = w7 at IN7 ⊢
        have f2 := IN7.out.thaws 2
        have k6 := IN7.out.clk.c2
        simp only at k6
        go_upto_region 11 with fail
        change Code.wp _ _ _ _ (w7.setCell ⟨w.heap.size + 1, 2, none⟩ (.int .i64 x2))
        have IN8 := Lib.hid (IN7.out.s2 x2); clear f2 k6 IN7
        generalize w7.setCell ⟨w.heap.size + 1, 2, none⟩ (.int .i64 x2) = w8 at IN8 ⊢
        have hlc := ldClk_run IN8.out.clk
        simp only at hlc
        go_wp2_with (refine wpList_store_row rfl 46 (.tmp 12) (.tmp 72) rfl (w.heap.size + 2) #[.int .i64 x0, .int .i64 x1, .int .i64 x2] rfl rfl 46 _ IN8.out.res clk_info rfl (by simp [Value.oneCell']) ?_)
        refine bodyPost_ret (results_cell_row rfl _ _ (w.heap.size + 2) 46 #[.int .i64 x0, .int .i64 x1, .int .i64 x2] (0, 0) _ rfl IN8.out.back.1 Tryz.underlying46 rfl clk_info) rfl ⟨?_, IN8.out.back.2⟩
        rw [HE.out]

set_option maxRecDepth 100000 in
set_option maxHeartbeats 4000000 in
theorem Charge_no (q : Pol) (c : Clk) (now ph de rh : Int) (w : World) (hq : InP q) (hg : goesF q ph = false) :
    Calls Tryz.prog 46 #[.agg #[.int .i64 q.re, .int .i64 q.we, .int .i64 q.li, .int .i64 q.bu], .agg #[.int .i64 c.r, .int .i64 c.p, .int .i64 c.l], .int .i64 now, .int .i64 ph, .int .i64 de, .int .i64 rh] w
      fun e w' => e = .returned (.agg #[.int .i64 c.r, .int .i64 c.p, .int .i64 c.l]) ∧ Below w.heap.size w w' := by
  have IN := inC1_in w q c hq
  have CR := Lib.hid (Right_any q (inC1 w q c))
  have NX := Lib.hid (fun (W : World) (hb : Below (inC1 w q c).heap.size (inC1 w q c) W) => (inC1_in w q c hq).later hb)
  have hld := ldPol_run (w := inC1 w q c) IN.pol
  clear IN
  unfold goesF at hg
  obtain ⟨b, hb⟩ : ∃ b, rightP q = b := ⟨_, rfl⟩
  rw [hb] at CR hg
  clear hb
  cases b
  · clear hg
    go_enter Tryz.func46, Tryz.ntmps46
    go_upto_region 1 with fail
    change Code.wp _ _ _ _ (inC1 w q c)
    generalize inC1 w q c = w1 at CR NX hld ⊢
    go_wp2_with (first | (go_at_call 20; refine CR.out.mono ?_; rintro e w2 ⟨rfl, hb2⟩; have IN := Lib.hid (NX.out _ hb2); have hlc := ldClk_run (NX.out _ hb2).clk; clear hb2 hld) | (refine wpList_store_row rfl 46 (.tmp 12) (.tmp 27) rfl (w.heap.size + 2) #[.int .i64 c.r, .int .i64 c.p, .int .i64 c.l] rfl rfl 46 _ IN.out.res clk_info rfl (by simp [Value.oneCell']) ?_))
    refine bodyPost_ret (results_cell_row rfl _ _ (w.heap.size + 2) 46 #[.int .i64 c.r, .int .i64 c.p, .int .i64 c.l] (0, 0) _ rfl IN.out.back.1 Tryz.underlying46 rfl clk_info) rfl ⟨rfl, IN.out.back.2⟩
  · have h1 : (ph != 1) = true := by simp at hg; simpa using hg.1
    have h2 : (ph != 2) = true := by simp at hg; simpa using hg.2
    clear hg
    go_enter Tryz.func46, Tryz.ntmps46
    go_upto_region 1 with fail
    change Code.wp _ _ _ _ (inC1 w q c)
    generalize inC1 w q c = w1 at CR NX hld ⊢
    go_wp2_with (first | (go_at_call 20; refine CR.out.mono ?_; rintro e w2 ⟨rfl, hb2⟩; have IN := Lib.hid (NX.out _ hb2); have hlc := ldClk_run (NX.out _ hb2).clk; clear hb2 hld) | (refine wpList_store_row rfl 46 (.tmp 12) (.tmp 27) rfl (w.heap.size + 2) #[.int .i64 c.r, .int .i64 c.p, .int .i64 c.l] rfl rfl 46 _ IN.out.res clk_info rfl (by simp [Value.oneCell']) ?_))
    refine bodyPost_ret (results_cell_row rfl _ _ (w.heap.size + 2) 46 #[.int .i64 c.r, .int .i64 c.p, .int .i64 c.l] (0, 0) _ rfl IN.out.back.1 Tryz.underlying46 rfl clk_info) rfl ⟨rfl, IN.out.back.2⟩

theorem Charge_any (q : Pol) (c : Clk) (now ph de rh : Int) (w : World) (hq : InP q) (hc : InC c) (hn : inI now) (hd : inI de) (hr : inI rh) :
    Calls Tryz.prog 46 #[.agg #[.int .i64 q.re, .int .i64 q.we, .int .i64 q.li, .int .i64 q.bu], .agg #[.int .i64 c.r, .int .i64 c.p, .int .i64 c.l], .int .i64 now, .int .i64 ph, .int .i64 de, .int .i64 rh] w
      fun e w' => e = .returned (.agg #[.int .i64 (chargeF q c now ph de rh).r, .int .i64 (chargeF q c now ph de rh).p, .int .i64 (chargeF q c now ph de rh).l]) ∧ Below w.heap.size w w' := by
  unfold chargeF
  by_cases hg : goesF q ph = true
  · rw [if_pos hg]
    have h := hg
    unfold goesF at h
    simp only [Bool.and_eq_true, Bool.or_eq_true, decide_eq_true_eq] at h
    exact Charge_yes q c now ph de rh w hq hc hn hd hr h.1 h.2
  · rw [if_neg hg]
    exact Charge_no q c now ph de rh w hq (by simpa using hg)
end Go.Proofs.YtbfjakchgmdldaaGreat
