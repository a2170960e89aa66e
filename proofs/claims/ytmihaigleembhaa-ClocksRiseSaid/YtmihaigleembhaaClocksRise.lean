/-
  ClocksRise: clocks never fall, whatever they are charged for, and however they are woken; it holds for every input, and the argument stays as it was. No condition.
-/
import Derived.Test.YtmihaigleembhaaClkA
import Derived.Test.YtmihaigleembhaaClkTwo
import Derived.Deep.RegionHeld3
import Derived.Test.YtmihaigleembhaaRows
import Derived.Test.YtmihaigleembhaaChecked
namespace Go.Proofs.Ytmihaigleembhaa.ClocksRise
open Go.ChangeShapes Go.WideShapes Go.ChangeAt Go.RowKit
set_option linter.unusedVariables false

theorem growF_up (t s n : Int) (h : isTag t) : t ≤ growF t s n := by
  have h1 := timesF_bd s n
  unfold growF addF holdF
  obtain ⟨h2, h3⟩ := h
  obtain ⟨h4, h5⟩ := h1
  omega
theorem charge_up (q : Pol) (c : Clk) (now ph de rh : Int) (h : tagsC c) (hn : isTag now) : c.r ≤ (chargeF q c now ph de rh).r ∧ c.p ≤ (chargeF q c now ph de rh).p ∧ c.l ≤ (chargeF q c now ph de rh).l ∧ tagsC (chargeF q c now ph de rh) := by
  unfold chargeF
  split
  · unfold chargedF
    obtain ⟨h1, h2, h3⟩ := h
    simp only
    refine ⟨growF_up _ _ _ h1, growF_up _ _ _ h2, ?_, growF_bd _ _ _, growF_bd _ _ _, ?_⟩
    · split
      · exact Int.le_refl _
      · have h4 : isTag (max c.l (aheadF now (timesF (wideF q.li) q.bu))) := by
          have h5 := timesF_bd (wideF q.li) q.bu
          have h6 := aheadF_bd hn.1 (tag_in hn) h5
          obtain ⟨n1, n2⟩ := hn
          obtain ⟨l1, l2⟩ := h3
          unfold isTag
          omega
        have h7 := growF_up _ (wideF q.li) (1 + elseF de) h4
        omega
    · simp only
      split
      · exact h3
      · exact growF_bd _ _ _
  · exact ⟨Int.le_refl _, Int.le_refl _, Int.le_refl _, h⟩
theorem wake_up (c : Clk) (now least : Int) : c.r ≤ (wakeF c now least).r ∧ c.p ≤ (wakeF c now least).p ∧ (wakeF c now least).l = c.l := by
  show c.r ≤ max c.r now ∧ c.p ≤ max c.p least ∧ c.l = c.l
  omega
attribute [local go_sem ↓] ldPol_eq ldClk_eq stClk_eq
attribute [local go_sem] rowC_iff rowC_drew_iff stClk_run stClk_run2
set_option maxRecDepth 100000 in
set_option maxHeartbeats 2000000 in
theorem walkIn (q : Pol) (c : Clk) (now least ph de rh : Int) (w : World) (hq : InP q) (hc : tagsC c) (hn : isTag now) (hl : isTag least) (hd : inI de) (hr : inI rh) :
    Calls Try.prog 4 #[.agg #[.int .i64 q.re, .int .i64 q.we, .int .i64 q.li, .int .i64 q.bu], .agg #[.int .i64 c.r, .int .i64 c.p, .int .i64 c.l], .int .i64 now, .int .i64 least, .int .i64 ph, .int .i64 de, .int .i64 rh] w
      fun e w' => e = .returned (.bool true) ∧ Below w.heap.size w w' := by
  have hci := tagsC_in hc
  have HT := Lib.hid (Right11_any c)
  rw [(tagsB_iff c).2 hc] at HT
  have K1 := Lib.hid (Wake_any c now least)
  have K7 := Lib.hid (fun w => Charge_any q c now ph de rh w hq hci (tag_in hn) hd hr)
  have up1 := wake_up c now least
  obtain ⟨u4, u5, u6, u7⟩ := charge_up q c now ph de rh hc hn
  generalize wakeF c now least = z1 at K1 up1
  generalize chargeF q c now ph de rh = z4 at K7 u4 u5 u6 u7
  have HT4 := Lib.hid (Right11_any z4)
  rw [(tagsB_iff z4).2 u7] at HT4
  clear u7
  obtain ⟨z1a, z1b, z1c⟩ := z1
  obtain ⟨z4a, z4b, z4c⟩ := z4
  simp only at K1 K7 up1 u4 u5 u6 HT4
  obtain ⟨u1, u2, u3⟩ := up1
  subst u3
  obtain ⟨n1, n2⟩ := hn
  obtain ⟨l1, l2⟩ := hl
  have B1 := below_two w (.cells #[.int .i64 q.re, .int .i64 q.we, .int .i64 q.li, .int .i64 q.bu] 23) (.cells #[.int .i64 c.r, .int .i64 c.p, .int .i64 c.l] 25)
  have P1 := pol_of_row (heap_two0 w (.cells #[.int .i64 q.re, .int .i64 q.we, .int .i64 q.li, .int .i64 q.bu] 23) (.cells #[.int .i64 c.r, .int .i64 c.p, .int .i64 c.l] 25)) hq
  have C1 : ClkAt _ _ c := heap_two w (.cells #[.int .i64 q.re, .int .i64 q.we, .int .i64 q.li, .int .i64 q.bu] 23) (.cells #[.int .i64 c.r, .int .i64 c.p, .int .i64 c.l] 25)
  clear hq hci hc hd hr
  go_enter Try.func4, Try.ntmps4
  go_upto_region 1 with fail
  change Code.wp _ _ _ _ ((w.alloc (.cells #[.int .i64 q.re, .int .i64 q.we, .int .i64 q.li, .int .i64 q.bu] 23)).alloc (.cells #[.int .i64 c.r, .int .i64 c.p, .int .i64 c.l] 25))
  generalize (w.alloc (.cells #[.int .i64 q.re, .int .i64 q.we, .int .i64 q.li, .int .i64 q.bu] 23)).alloc (.cells #[.int .i64 c.r, .int .i64 c.p, .int .i64 c.l] 25) = w1 at B1 P1 C1 ⊢
  have hlc := ldClk_run C1
  have HB1 := Lib.hid B1; have HP1 := Lib.hid P1; have HC1 := Lib.hid C1
  clear B1 P1 C1
  go_upto_region 3 with (go_at_call 7; refine (HT.out _).mono ?_; rintro e w2 ⟨rfl, hb2⟩; have HB2 := Lib.hid (HB1.out.trans (hb2.mono HB1.out.size)); have HP2 := Lib.hid (HP1.out.below hb2); have HC2 := Lib.hid (HC1.out.below hb2); clear hb2 hlc)
  have HS := Lib.hid (fun (w' : World) (hb : Below w2.heap.size w2 w') => And.intro (ldPol_run (HP2.out.below hb)) (ldClk_run (HC2.out.below hb)))
  go_cut [15, 16] (fun lv mv wx => ∃ g1 g2, lv = .pointer (some ⟨g1, 0, none⟩) ∧ mv = .pointer (some ⟨g2, 0, none⟩) ∧ ClkAt wx g1 ⟨z1a, z1b, c.l⟩ ∧ ClkAt wx g2 ⟨z4a, z4b, z4c⟩ ∧ Below w2.heap.size w2 wx)
  case first =>
    go_region_held3 (fun w' => (ldPol (.pointer (some ⟨w.heap.size, 0, none⟩))).run Try.prog w' = .ok (.agg #[.int .i64 q.re, .int .i64 q.we, .int .i64 q.li, .int .i64 q.bu]) w' ∧ (ldClk (.pointer (some ⟨w.heap.size + 1, 0, none⟩))).run Try.prog w' = .ok (.agg #[.int .i64 c.r, .int .i64 c.p, .int .i64 c.l]) w')
      (exact HS.out _ (by repeat' (first | exact H4.out | exact H3.out | exact Below.refl _ _ | refine Below.drew ?_ | refine more_alloc ?_ _ | refine more_set ?_ (by omega) _)))
      (first
        | (go_at_call 9; refine (K1.out _).mono ?_; rintro e w3 ⟨rfl, hb3⟩; have q3 := fun g (h : RowC _ g) => h.below hb3; have n3 := hb3.size; (try simp only [drew_size, size_box] at n3); (try simp only [rowC_iff, rowC_drew_iff, size_box, or_imp, forall_and, forall_eq] at q3); have H3 := Lib.hid (more (a := w2) (by repeat' (first | exact H4.out | exact Below.refl _ _ | refine Below.drew ?_ | refine more_alloc ?_ _)) hb3); clear hb3)
        | (go_at_call 15; refine (K7.out _).mono ?_; rintro e w4 ⟨rfl, hb4⟩; have q4 := fun g (h : RowC _ g) => h.below hb4; have n4 := hb4.size; (try simp only [size_box] at n4); (try simp only [rowC_iff, size_box, or_imp, forall_and, forall_eq] at q4); have H4 := Lib.hid (more (a := w2) (by repeat' (first | exact H3.out | exact Below.refl _ _ | refine Below.drew ?_ | refine more_alloc ?_ _)) hb4); clear hb4))
    all_goals
      go_wp2_with fail
      go_meet
      refine ⟨_, _, rfl, rfl, two_set _ _ _ _ _ _ ?_ ?_ ?_ ?_ ?_ ?_⟩
      · repeat' (first | exact H4.out | refine more_alloc ?_ _)
      · simp [rowC_iff, q3, q4]
      · simp [rowC_iff, q3, q4]
      all_goals omega
  case rest =>
    obtain ⟨g1, g2, rfl, rfl, hc1, hc2, hbc⟩ := hcut
    have H0 := (HC2.out.below hbc)
    have k0 := H0.c0; have k1 := H0.c1; have k2 := H0.c2
    have k3 := hc1.c0; have k4 := hc1.c1; have k5 := hc1.c2
    have k6 := hc2.c0; have k7 := hc2.c1; have k8 := hc2.c2
    simp only at k3 k4 k5 k6 k7 k8
    have hlc := ldClk_run hc2
    simp only at hlc
    have HB3 := Lib.hid (more HB2.out hbc)
    clear hc1 hc2 hbc H0
    go_wp2_with (first
      | (go_at_call 7; refine (HT4.out _).mono ?_; rintro e w5 ⟨rfl, hb5⟩; have HB5 := Lib.hid (more HB3.out hb5); clear hb5)
      | (go_at_call 8; refine (awake_any _).mono ?_; rintro e w6 ⟨rfl, hb6⟩; have HB6 := Lib.hid (more HB5.out hb6); clear hb6))
    go_ret
    exact ⟨rfl, HB6.out⟩

set_option maxRecDepth 100000 in
set_option maxHeartbeats 2000000 in
theorem walk (q : Pol) (c : Clk) (now least ph de rh : Int) (w : World) (hq : InP q) (hk : InC c) (hn : (Lit.int .i64 now).wf = true) (hl : (Lit.int .i64 least).wf = true) (hp : (Lit.int .i64 ph).wf = true) (hd : (Lit.int .i64 de).wf = true) (hr : (Lit.int .i64 rh).wf = true) :
    Calls Try.prog 4 #[.agg #[.int .i64 q.re, .int .i64 q.we, .int .i64 q.li, .int .i64 q.bu], .agg #[.int .i64 c.r, .int .i64 c.p, .int .i64 c.l], .int .i64 now, .int .i64 least, .int .i64 ph, .int .i64 de, .int .i64 rh] w
      fun e w' => e = .returned (.bool true) ∧ Below w.heap.size w w' := by
  have B1 := below_two w (.cells #[.int .i64 q.re, .int .i64 q.we, .int .i64 q.li, .int .i64 q.bu] 23) (.cells #[.int .i64 c.r, .int .i64 c.p, .int .i64 c.l] 25)
  have C1 : ClkAt _ _ c := heap_two w (.cells #[.int .i64 q.re, .int .i64 q.we, .int .i64 q.li, .int .i64 q.bu] 23) (.cells #[.int .i64 c.r, .int .i64 c.p, .int .i64 c.l] 25)
  have HT := Lib.hid (Right11_any c)
  obtain ⟨b, hb⟩ : ∃ b, tagsB c = b := ⟨_, rfl⟩
  rw [hb] at HT
  cases b
  case false =>
    clear hb
    go_enter Try.func4, Try.ntmps4
    go_upto_region 1 with fail
    change Code.wp _ _ _ _ ((w.alloc (.cells #[.int .i64 q.re, .int .i64 q.we, .int .i64 q.li, .int .i64 q.bu] 23)).alloc (.cells #[.int .i64 c.r, .int .i64 c.p, .int .i64 c.l] 25))
    generalize (w.alloc (.cells #[.int .i64 q.re, .int .i64 q.we, .int .i64 q.li, .int .i64 q.bu] 23)).alloc (.cells #[.int .i64 c.r, .int .i64 c.p, .int .i64 c.l] 25) = w1 at B1 C1 ⊢
    have hlc := ldClk_run C1
    have HB1 := Lib.hid B1; clear B1 C1
    go_wp2_with (first | (go_at_call 7; refine (HT.out _).mono ?_; rintro e w2 ⟨rfl, hb2⟩; have HB2 := Lib.hid (HB1.out.trans (hb2.mono HB1.out.size)); clear hb2 hlc) | (go_at_call 8; refine (awake_any _).mono ?_; rintro e w3 ⟨rfl, hb3⟩; have HB3 := Lib.hid (HB2.out.trans (hb3.mono HB2.out.size)); clear hb3))
    go_ret
    exact ⟨rfl, HB3.out⟩
  have hc := (tagsB_iff c).1 hb
  clear hb
  by_cases h1 : now < 0
  case pos =>
    clear hc
    go_enter Try.func4, Try.ntmps4
    go_upto_region 1 with fail
    change Code.wp _ _ _ _ ((w.alloc (.cells #[.int .i64 q.re, .int .i64 q.we, .int .i64 q.li, .int .i64 q.bu] 23)).alloc (.cells #[.int .i64 c.r, .int .i64 c.p, .int .i64 c.l] 25))
    generalize (w.alloc (.cells #[.int .i64 q.re, .int .i64 q.we, .int .i64 q.li, .int .i64 q.bu] 23)).alloc (.cells #[.int .i64 c.r, .int .i64 c.p, .int .i64 c.l] 25) = w1 at B1 C1 ⊢
    have hlc := ldClk_run C1
    have HB1 := Lib.hid B1; clear B1 C1
    go_wp2_with (first | (go_at_call 7; refine (HT.out _).mono ?_; rintro e w2 ⟨rfl, hb2⟩; have HB2 := Lib.hid (HB1.out.trans (hb2.mono HB1.out.size)); clear hb2 hlc) | (go_at_call 8; refine (awake_any _).mono ?_; rintro e w3 ⟨rfl, hb3⟩; have HB3 := Lib.hid (HB2.out.trans (hb3.mono HB2.out.size)); clear hb3))
    go_ret
    exact ⟨rfl, HB3.out⟩
  by_cases h2 : 2305843009213693952 < now
  case pos =>
    clear hc
    go_enter Try.func4, Try.ntmps4
    go_upto_region 1 with fail
    change Code.wp _ _ _ _ ((w.alloc (.cells #[.int .i64 q.re, .int .i64 q.we, .int .i64 q.li, .int .i64 q.bu] 23)).alloc (.cells #[.int .i64 c.r, .int .i64 c.p, .int .i64 c.l] 25))
    generalize (w.alloc (.cells #[.int .i64 q.re, .int .i64 q.we, .int .i64 q.li, .int .i64 q.bu] 23)).alloc (.cells #[.int .i64 c.r, .int .i64 c.p, .int .i64 c.l] 25) = w1 at B1 C1 ⊢
    have hlc := ldClk_run C1
    have HB1 := Lib.hid B1; clear B1 C1
    go_wp2_with (first | (go_at_call 7; refine (HT.out _).mono ?_; rintro e w2 ⟨rfl, hb2⟩; have HB2 := Lib.hid (HB1.out.trans (hb2.mono HB1.out.size)); clear hb2 hlc) | (go_at_call 8; refine (awake_any _).mono ?_; rintro e w3 ⟨rfl, hb3⟩; have HB3 := Lib.hid (HB2.out.trans (hb3.mono HB2.out.size)); clear hb3))
    go_ret
    exact ⟨rfl, HB3.out⟩
  by_cases h3 : least < 0
  case pos =>
    clear hc
    go_enter Try.func4, Try.ntmps4
    go_upto_region 1 with fail
    change Code.wp _ _ _ _ ((w.alloc (.cells #[.int .i64 q.re, .int .i64 q.we, .int .i64 q.li, .int .i64 q.bu] 23)).alloc (.cells #[.int .i64 c.r, .int .i64 c.p, .int .i64 c.l] 25))
    generalize (w.alloc (.cells #[.int .i64 q.re, .int .i64 q.we, .int .i64 q.li, .int .i64 q.bu] 23)).alloc (.cells #[.int .i64 c.r, .int .i64 c.p, .int .i64 c.l] 25) = w1 at B1 C1 ⊢
    have hlc := ldClk_run C1
    have HB1 := Lib.hid B1; clear B1 C1
    go_wp2_with (first | (go_at_call 7; refine (HT.out _).mono ?_; rintro e w2 ⟨rfl, hb2⟩; have HB2 := Lib.hid (HB1.out.trans (hb2.mono HB1.out.size)); clear hb2 hlc) | (go_at_call 8; refine (awake_any _).mono ?_; rintro e w3 ⟨rfl, hb3⟩; have HB3 := Lib.hid (HB2.out.trans (hb3.mono HB2.out.size)); clear hb3))
    go_ret
    exact ⟨rfl, HB3.out⟩
  by_cases h4 : 2305843009213693952 < least
  case pos =>
    clear hc
    go_enter Try.func4, Try.ntmps4
    go_upto_region 1 with fail
    change Code.wp _ _ _ _ ((w.alloc (.cells #[.int .i64 q.re, .int .i64 q.we, .int .i64 q.li, .int .i64 q.bu] 23)).alloc (.cells #[.int .i64 c.r, .int .i64 c.p, .int .i64 c.l] 25))
    generalize (w.alloc (.cells #[.int .i64 q.re, .int .i64 q.we, .int .i64 q.li, .int .i64 q.bu] 23)).alloc (.cells #[.int .i64 c.r, .int .i64 c.p, .int .i64 c.l] 25) = w1 at B1 C1 ⊢
    have hlc := ldClk_run C1
    have HB1 := Lib.hid B1; clear B1 C1
    go_wp2_with (first | (go_at_call 7; refine (HT.out _).mono ?_; rintro e w2 ⟨rfl, hb2⟩; have HB2 := Lib.hid (HB1.out.trans (hb2.mono HB1.out.size)); clear hb2 hlc) | (go_at_call 8; refine (awake_any _).mono ?_; rintro e w3 ⟨rfl, hb3⟩; have HB3 := Lib.hid (HB2.out.trans (hb3.mono HB2.out.size)); clear hb3))
    go_ret
    exact ⟨rfl, HB3.out⟩
  exact walkIn q c now least ph de rh w hq hc ⟨by omega, by omega⟩ ⟨by omega, by omega⟩ (in_of hd) (in_of hr)

/-! ### THE ROW -/
theorem own : ownKnob Try.prog.godebug = none := by kernel_rfl

set_option maxRecDepth 100000 in
theorem lifted (os : Os) (started : os.Started) (H : Type) (enc : TypeId × Value → H) :
    ReturnsInHanded {} Try.checked os 4 .any (Rows.clocksRiseSpec.pre6 enc Try.prog Try.f4 Rows.clocksRiseRow.domain false) (Rows.clocksRiseSpec.post enc Try.prog Try.f4 false true false false) := by
  refine returnsInHanded_of_change (C := Try.checked) own started (by kernel_rfl) Try.func4
    (ChangeSpec.witness6 (enc := enc) (C := Try.checked) false ⟨#[], #[.agg #[.int .i64 0, .int .i64 0, .int .i64 0, .int .i64 0], .agg #[.int .i64 0, .int .i64 0, .int .i64 0], .int .i64 0, .int .i64 0, .int .i64 0, .int .i64 0, .int .i64 0], []⟩ 8 (by kernel_rfl) (by kernel_rfl) (by kernel_rfl) (by kernel_rfl)) ?_
  intro W base args ds gs before hval0 hW hcnd _
  have hval : ∀ (j : Nat) t v, Try.f4.params[j]? = some t → args[j]? = some v → Value.okWide Try.prog W .any base t v := hval0
  have hW' := hW
  obtain ⟨p, q, hA0, hV, rfl, hfz, hnd⟩ := hW
  have hA : DataW.TrodAll enc Try.prog W 0 (fun _ => true) true Try.f4.params.toList args.toList ds p := hA0
  rw [Try.params4] at hA hval
  obtain ⟨v0, vs0, d0, ds0, p0, q0, hargs, rfl, rfl, h0, r0⟩ := trodAll_cons hA
  obtain ⟨v1, vs1, d1, ds1, p1, q1, rfl, rfl, rfl, h1, r1⟩ := trodAll_cons r0
  obtain ⟨v2, vs2, d2, ds2, p2, q2, rfl, rfl, rfl, h2, r2⟩ := trodAll_cons r1
  obtain ⟨v3, vs3, d3, ds3, p3, q3, rfl, rfl, rfl, h3, r3⟩ := trodAll_cons r2
  obtain ⟨v4, vs4, d4, ds4, p4, q4, rfl, rfl, rfl, h4, r4⟩ := trodAll_cons r3
  obtain ⟨v5, vs5, d5, ds5, p5, q5, rfl, rfl, rfl, h5, r5⟩ := trodAll_cons r4
  obtain ⟨v6, vs6, d6, ds6, p6, q6, rfl, rfl, rfl, h6, r6⟩ := trodAll_cons r5
  obtain ⟨rfl, rfl, rfl⟩ := trodAll_nil r6
  obtain rfl : args = #[v0, v1, v2, v3, v4, v5, v6] := by cases args; simp_all
  obtain ⟨rfl, rfl⟩ := trodVars_none hV
  obtain ⟨p0_, rfl, hq0⟩ := open_pol Try.underlying23 rfl rfl rfl rfl rfl rfl rfl rfl Try.underlying3 Try.underlying3 Try.underlying3 Try.underlying3 (by kernel_rfl) (by kernel_rfl) (by kernel_rfl) (by kernel_rfl) (by kernel_rfl) (hval 0 23 v0 rfl rfl) h0
  obtain ⟨c1_, rfl, hk1⟩ := open_clk Try.underlying25 rfl rfl rfl rfl rfl rfl Try.underlying3 Try.underlying3 Try.underlying3 (by kernel_rfl) (by kernel_rfl) (by kernel_rfl) (by kernel_rfl) (hval 1 25 v1 rfl rfl) h1
  obtain ⟨a2, rfl, rfl, rfl, w2⟩ := open_int Try.underlying3 (hval 2 3 v2 rfl rfl) h2
  obtain ⟨a3, rfl, rfl, rfl, w3⟩ := open_int Try.underlying3 (hval 3 3 v3 rfl rfl) h3
  obtain ⟨a4, rfl, rfl, rfl, w4⟩ := open_int Try.underlying3 (hval 4 3 v4 rfl rfl) h4
  obtain ⟨a5, rfl, rfl, rfl, w5⟩ := open_int Try.underlying3 (hval 5 3 v5 rfl rfl) h5
  obtain ⟨a6, rfl, rfl, rfl, w6⟩ := open_int Try.underlying3 (hval 6 3 v6 rfl rfl) h6
  refine (walk p0_ c1_ a2 a3 a4 a5 a6 W hq0 hk1 w2 w3 w4 w5 w6).mono fun e W' ⟨he, hg⟩ => ?_
  subst he
  exact ⟨_, rfl, law_post hW' rfl (by kernel_rfl) (by kernel_rfl) (by kernel_rfl) Try.underlying4 rfl rfl rfl hg⟩

theorem over : Rows.clocksRiseRow.holds Try.pinned (OpenSpec.ofChange Rows.clocksRiseSpec) :=
  OpenClaim.holds_of_wide 4 Try.f4 rfl rfl rfl rfl rfl rfl rfl ⟨rfl, rfl, rfl, rfl, rfl⟩ rfl rfl rfl rfl rfl (by kernel_rfl) Try.func4 (by kernel_rfl)
    (of_decide_eq_true (by kernel_rfl)) (by unfold Func.isWrapper; first | (rw [if_pos (by decide +kernel)]; kernel_rfl) | (rw [if_neg (by decide +kernel)]; exact ⟨rfl, rfl⟩))
    (fun os started H enc _ => lifted os started H enc)

theorem proved : Rows.ClocksRiseSaid :=
  over
#print axioms proved

end Go.Proofs.Ytmihaigleembhaa.ClocksRise
