/-
  ClocksTell: of any policy, any clocks that are tags, and any moment, all that the chapter tells is what the document says; it holds for every input, and the argument stays as it was. No condition.
-/
import Derived.Test.YtmihaigleembhaaClkA
import Derived.Test.YtmihaigleembhaaClkR
import Derived.Test.YtmihaigleembhaaQuietB
import Derived.Test.YtmihaigleembhaaRows
import Derived.Test.YtmihaigleembhaaChecked
namespace Go.Proofs.Ytmihaigleembhaa.ClocksTell
open Go.ChangeShapes Go.WideShapes Go.ChangeAt Go.RowKit
set_option linter.unusedVariables false

attribute [local go_sem ↓] ldPol_eq ldClk_eq
attribute [local irreducible] wpQuiet
set_option maxRecDepth 100000 in
set_option maxHeartbeats 2000000 in
theorem walkIn (q : Pol) (c : Clk) (now least ph de rh : Int) (w : World) (hq : InP q) (hc : tagsC c) (hn : isTag now) (hl : isTag least) (hd : inI de) (hr : inI rh) :
    Calls Try.prog 3 #[.agg #[.int .i64 q.re, .int .i64 q.we, .int .i64 q.li, .int .i64 q.bu], .agg #[.int .i64 c.r, .int .i64 c.p, .int .i64 c.l], .int .i64 now, .int .i64 least, .int .i64 ph, .int .i64 de, .int .i64 rh] w
      fun e w' => e = .returned (.bool true) ∧ Below w.heap.size w w' := by
  have hci := tagsC_in hc
  have HT := Lib.hid (Right11_any c)
  rw [(tagsB_iff c).2 hc] at HT
  have K1 := Lib.hid (Wake_any c now least); have K2 := Lib.hid (RWake_any c now least)
  have K3 := Lib.hid (fun w => ByLimit_any q c now w hq); have K4 := Lib.hid (fun w => RByLimit_any q c now w hq)
  have K5 := Lib.hid (fun w => ByReserve_any q c now w hq); have K6 := Lib.hid (fun w => RByReserve_any q c now w hq)
  have K7 := Lib.hid (fun w => Charge_any q c now ph de rh w hq hci (tag_in hn) hd hr); have K8 := Lib.hid (fun w => RCharge_any q c now ph de rh w hq hci hn hd hr)
  generalize wakeF c now least = z1 at K1 K2
  generalize byLimitF q c now = z2 at K3 K4
  generalize byReserveF q c now = z3 at K5 K6
  generalize chargeF q c now ph de rh = z4 at K7 K8
  obtain ⟨z1a, z1b, z1c⟩ := z1
  obtain ⟨z4a, z4b, z4c⟩ := z4
  simp only at K1 K2 K7 K8
  obtain ⟨n1, n2⟩ := hn
  obtain ⟨l1, l2⟩ := hl
  have B1 := below_two w (.cells #[.int .i64 q.re, .int .i64 q.we, .int .i64 q.li, .int .i64 q.bu] 23) (.cells #[.int .i64 c.r, .int .i64 c.p, .int .i64 c.l] 25)
  have P1 := pol_of_row (heap_two0 w (.cells #[.int .i64 q.re, .int .i64 q.we, .int .i64 q.li, .int .i64 q.bu] 23) (.cells #[.int .i64 c.r, .int .i64 c.p, .int .i64 c.l] 25)) hq
  have C1 : ClkAt _ _ c := heap_two w (.cells #[.int .i64 q.re, .int .i64 q.we, .int .i64 q.li, .int .i64 q.bu] 23) (.cells #[.int .i64 c.r, .int .i64 c.p, .int .i64 c.l] 25)
  clear hq hci hc hd hr
  go_enter Try.func3, Try.ntmps3
  go_upto_region 1 with fail
  change Code.wp _ _ _ _ ((w.alloc (.cells #[.int .i64 q.re, .int .i64 q.we, .int .i64 q.li, .int .i64 q.bu] 23)).alloc (.cells #[.int .i64 c.r, .int .i64 c.p, .int .i64 c.l] 25))
  generalize (w.alloc (.cells #[.int .i64 q.re, .int .i64 q.we, .int .i64 q.li, .int .i64 q.bu] 23)).alloc (.cells #[.int .i64 c.r, .int .i64 c.p, .int .i64 c.l] 25) = w1 at B1 P1 C1 ⊢
  have hlc := ldClk_run C1
  have HB1 := Lib.hid B1; have HP1 := Lib.hid P1; have HC1 := Lib.hid C1
  clear B1 P1 C1
  go_upto_region 3 with (go_at_call 7; refine (HT.out _).mono ?_; rintro e w2 ⟨rfl, hb2⟩; have HB2 := Lib.hid (HB1.out.trans (hb2.mono HB1.out.size)); have HP2 := Lib.hid (HP1.out.below hb2); have HC2 := Lib.hid (HC1.out.below hb2); clear hb2 hlc)
  have hld : ∀ p : BelowOf w2, _ := fun p => ldPol_run (HP2.out.below p.h)
  have hlc : ∀ p : BelowOf w2, _ := fun p => ldClk_run (HC2.out.below p.h)
  have K9 := Lib.hid awake_any
  refine wp_region_quiet_below (by kernel_rfl) (by kernel_rfl) ?_
  repeat (quiet_step (fail))
  quiet_step (exact Calls.below_of (K1.out _))
  repeat (quiet_step (fail))
  quiet_step (exact Calls.below_of (K2.out _))
  repeat (quiet_step (fail))
  quiet_step (exact Calls.below_of (K3.out _))
  repeat (quiet_step (fail))
  quiet_step (exact Calls.below_of (K4.out _))
  repeat (quiet_step (fail))
  quiet_step (exact Calls.below_of (K5.out _))
  repeat (quiet_step (fail))
  quiet_step (exact Calls.below_of (K6.out _))
  repeat (quiet_step (fail))
  quiet_step (exact Calls.below_of (K7.out _))
  repeat (quiet_step (fail))
  quiet_step (exact Calls.below_of (K8.out _))
  repeat (quiet_step (fail))
  quiet_step (exact Calls.below_of (K9.out _))
  repeat (quiet_step (fail))
  refine wpQuiet_nil ?_
  rintro _ ⟨⟨w9, hb9⟩, rfl⟩
  have H9 := Lib.hid hb9; clear hb9
  go_wp2
  go_ret
  exact ⟨rfl, HB2.out.trans (H9.out.mono HB2.out.size)⟩

set_option maxRecDepth 100000 in
set_option maxHeartbeats 2000000 in
theorem walk (q : Pol) (c : Clk) (now least ph de rh : Int) (w : World) (hq : InP q) (hk : InC c) (hn : (Lit.int .i64 now).wf = true) (hl : (Lit.int .i64 least).wf = true) (hp : (Lit.int .i64 ph).wf = true) (hd : (Lit.int .i64 de).wf = true) (hr : (Lit.int .i64 rh).wf = true) :
    Calls Try.prog 3 #[.agg #[.int .i64 q.re, .int .i64 q.we, .int .i64 q.li, .int .i64 q.bu], .agg #[.int .i64 c.r, .int .i64 c.p, .int .i64 c.l], .int .i64 now, .int .i64 least, .int .i64 ph, .int .i64 de, .int .i64 rh] w
      fun e w' => e = .returned (.bool true) ∧ Below w.heap.size w w' := by
  have B1 := below_two w (.cells #[.int .i64 q.re, .int .i64 q.we, .int .i64 q.li, .int .i64 q.bu] 23) (.cells #[.int .i64 c.r, .int .i64 c.p, .int .i64 c.l] 25)
  have C1 : ClkAt _ _ c := heap_two w (.cells #[.int .i64 q.re, .int .i64 q.we, .int .i64 q.li, .int .i64 q.bu] 23) (.cells #[.int .i64 c.r, .int .i64 c.p, .int .i64 c.l] 25)
  have HT := Lib.hid (Right11_any c)
  obtain ⟨b, hb⟩ : ∃ b, tagsB c = b := ⟨_, rfl⟩
  rw [hb] at HT
  cases b
  case false =>
    clear hb
    go_enter Try.func3, Try.ntmps3
    go_upto_region 1 with fail
    change Code.wp _ _ _ _ ((w.alloc (.cells #[.int .i64 q.re, .int .i64 q.we, .int .i64 q.li, .int .i64 q.bu] 23)).alloc (.cells #[.int .i64 c.r, .int .i64 c.p, .int .i64 c.l] 25))
    generalize (w.alloc (.cells #[.int .i64 q.re, .int .i64 q.we, .int .i64 q.li, .int .i64 q.bu] 23)).alloc (.cells #[.int .i64 c.r, .int .i64 c.p, .int .i64 c.l] 25) = w1 at B1 C1 ⊢
    have hlc := ldClk_run C1
    have HB1 := Lib.hid B1; clear B1 C1
    go_wp2_with (first | (go_at_call 7; refine (HT.out _).mono ?_; rintro e w2 ⟨rfl, hb2⟩; have HB2 := Lib.hid (HB1.out.trans (hb2.mono HB1.out.size)); clear hb2 hlc) | (go_at_call 8; refine (awake_any _).mono ?_; rintro e w3 ⟨rfl, hb3⟩; have HB3 := Lib.hid (HB2.out.trans (hb3.mono HB2.out.size)); clear hb3))
    go_ret
    exact ⟨rfl, HB3.out⟩
  have hc := (tagsB_iff c).1 hb
  clear hb
  by_cases h1 : now < 0
  case pos =>
    clear hc
    go_enter Try.func3, Try.ntmps3
    go_upto_region 1 with fail
    change Code.wp _ _ _ _ ((w.alloc (.cells #[.int .i64 q.re, .int .i64 q.we, .int .i64 q.li, .int .i64 q.bu] 23)).alloc (.cells #[.int .i64 c.r, .int .i64 c.p, .int .i64 c.l] 25))
    generalize (w.alloc (.cells #[.int .i64 q.re, .int .i64 q.we, .int .i64 q.li, .int .i64 q.bu] 23)).alloc (.cells #[.int .i64 c.r, .int .i64 c.p, .int .i64 c.l] 25) = w1 at B1 C1 ⊢
    have hlc := ldClk_run C1
    have HB1 := Lib.hid B1; clear B1 C1
    go_wp2_with (first | (go_at_call 7; refine (HT.out _).mono ?_; rintro e w2 ⟨rfl, hb2⟩; have HB2 := Lib.hid (HB1.out.trans (hb2.mono HB1.out.size)); clear hb2 hlc) | (go_at_call 8; refine (awake_any _).mono ?_; rintro e w3 ⟨rfl, hb3⟩; have HB3 := Lib.hid (HB2.out.trans (hb3.mono HB2.out.size)); clear hb3))
    go_ret
    exact ⟨rfl, HB3.out⟩
  by_cases h2 : 2305843009213693952 < now
  case pos =>
    clear hc
    go_enter Try.func3, Try.ntmps3
    go_upto_region 1 with fail
    change Code.wp _ _ _ _ ((w.alloc (.cells #[.int .i64 q.re, .int .i64 q.we, .int .i64 q.li, .int .i64 q.bu] 23)).alloc (.cells #[.int .i64 c.r, .int .i64 c.p, .int .i64 c.l] 25))
    generalize (w.alloc (.cells #[.int .i64 q.re, .int .i64 q.we, .int .i64 q.li, .int .i64 q.bu] 23)).alloc (.cells #[.int .i64 c.r, .int .i64 c.p, .int .i64 c.l] 25) = w1 at B1 C1 ⊢
    have hlc := ldClk_run C1
    have HB1 := Lib.hid B1; clear B1 C1
    go_wp2_with (first | (go_at_call 7; refine (HT.out _).mono ?_; rintro e w2 ⟨rfl, hb2⟩; have HB2 := Lib.hid (HB1.out.trans (hb2.mono HB1.out.size)); clear hb2 hlc) | (go_at_call 8; refine (awake_any _).mono ?_; rintro e w3 ⟨rfl, hb3⟩; have HB3 := Lib.hid (HB2.out.trans (hb3.mono HB2.out.size)); clear hb3))
    go_ret
    exact ⟨rfl, HB3.out⟩
  by_cases h3 : least < 0
  case pos =>
    clear hc
    go_enter Try.func3, Try.ntmps3
    go_upto_region 1 with fail
    change Code.wp _ _ _ _ ((w.alloc (.cells #[.int .i64 q.re, .int .i64 q.we, .int .i64 q.li, .int .i64 q.bu] 23)).alloc (.cells #[.int .i64 c.r, .int .i64 c.p, .int .i64 c.l] 25))
    generalize (w.alloc (.cells #[.int .i64 q.re, .int .i64 q.we, .int .i64 q.li, .int .i64 q.bu] 23)).alloc (.cells #[.int .i64 c.r, .int .i64 c.p, .int .i64 c.l] 25) = w1 at B1 C1 ⊢
    have hlc := ldClk_run C1
    have HB1 := Lib.hid B1; clear B1 C1
    go_wp2_with (first | (go_at_call 7; refine (HT.out _).mono ?_; rintro e w2 ⟨rfl, hb2⟩; have HB2 := Lib.hid (HB1.out.trans (hb2.mono HB1.out.size)); clear hb2 hlc) | (go_at_call 8; refine (awake_any _).mono ?_; rintro e w3 ⟨rfl, hb3⟩; have HB3 := Lib.hid (HB2.out.trans (hb3.mono HB2.out.size)); clear hb3))
    go_ret
    exact ⟨rfl, HB3.out⟩
  by_cases h4 : 2305843009213693952 < least
  case pos =>
    clear hc
    go_enter Try.func3, Try.ntmps3
    go_upto_region 1 with fail
    change Code.wp _ _ _ _ ((w.alloc (.cells #[.int .i64 q.re, .int .i64 q.we, .int .i64 q.li, .int .i64 q.bu] 23)).alloc (.cells #[.int .i64 c.r, .int .i64 c.p, .int .i64 c.l] 25))
    generalize (w.alloc (.cells #[.int .i64 q.re, .int .i64 q.we, .int .i64 q.li, .int .i64 q.bu] 23)).alloc (.cells #[.int .i64 c.r, .int .i64 c.p, .int .i64 c.l] 25) = w1 at B1 C1 ⊢
    have hlc := ldClk_run C1
    have HB1 := Lib.hid B1; clear B1 C1
    go_wp2_with (first | (go_at_call 7; refine (HT.out _).mono ?_; rintro e w2 ⟨rfl, hb2⟩; have HB2 := Lib.hid (HB1.out.trans (hb2.mono HB1.out.size)); clear hb2 hlc) | (go_at_call 8; refine (awake_any _).mono ?_; rintro e w3 ⟨rfl, hb3⟩; have HB3 := Lib.hid (HB2.out.trans (hb3.mono HB2.out.size)); clear hb3))
    go_ret
    exact ⟨rfl, HB3.out⟩
  exact walkIn q c now least ph de rh w hq hc ⟨by omega, by omega⟩ ⟨by omega, by omega⟩ (in_of hd) (in_of hr)

/-! ### THE ROW -/
theorem own : ownKnob Try.prog.godebug = none := by kernel_rfl

set_option maxRecDepth 100000 in
theorem lifted (os : Os) (started : os.Started) (H : Type) (enc : TypeId × Value → H) :
    ReturnsInHanded {} Try.checked os 3 .any (Rows.clocksTellSpec.pre6 enc Try.prog Try.f3 Rows.clocksTellRow.domain false) (Rows.clocksTellSpec.post enc Try.prog Try.f3 false true false false) := by
  refine returnsInHanded_of_change (C := Try.checked) own started (by kernel_rfl) Try.func3
    (ChangeSpec.witness6 (enc := enc) (C := Try.checked) false ⟨#[], #[.agg #[.int .i64 0, .int .i64 0, .int .i64 0, .int .i64 0], .agg #[.int .i64 0, .int .i64 0, .int .i64 0], .int .i64 0, .int .i64 0, .int .i64 0, .int .i64 0, .int .i64 0], []⟩ 8 (by kernel_rfl) (by kernel_rfl) (by kernel_rfl) (by kernel_rfl)) ?_
  intro W base args ds gs before hval0 hW hcnd _
  have hval : ∀ (j : Nat) t v, Try.f3.params[j]? = some t → args[j]? = some v → Value.okWide Try.prog W .any base t v := hval0
  have hW' := hW
  obtain ⟨p, q, hA0, hV, rfl, hfz, hnd⟩ := hW
  have hA : DataW.TrodAll enc Try.prog W 0 (fun _ => true) true Try.f3.params.toList args.toList ds p := hA0
  rw [Try.params3] at hA hval
  obtain ⟨v0, vs0, d0, ds0, p0, q0, hargs, rfl, rfl, h0, r0⟩ := trodAll_cons hA
  obtain ⟨v1, vs1, d1, ds1, p1, q1, rfl, rfl, rfl, h1, r1⟩ := trodAll_cons r0
  obtain ⟨v2, vs2, d2, ds2, p2, q2, rfl, rfl, rfl, h2, r2⟩ := trodAll_cons r1
  obtain ⟨v3, vs3, d3, ds3, p3, q3, rfl, rfl, rfl, h3, r3⟩ := trodAll_cons r2
  obtain ⟨v4, vs4, d4, ds4, p4, q4, rfl, rfl, rfl, h4, r4⟩ := trodAll_cons r3
  obtain ⟨v5, vs5, d5, ds5, p5, q5, rfl, rfl, rfl, h5, r5⟩ := trodAll_cons r4
  obtain ⟨v6, vs6, d6, ds6, p6, q6, rfl, rfl, rfl, h6, r6⟩ := trodAll_cons r5
  obtain ⟨rfl, rfl, rfl⟩ := trodAll_nil r6
  obtain rfl : args = #[v0, v1, v2, v3, v4, v5, v6] := by cases args; simp_all
  obtain ⟨rfl, rfl⟩ := trodVars_none hV
  obtain ⟨p0_, rfl, hq0⟩ := open_pol Try.underlying23 rfl rfl rfl rfl rfl rfl rfl rfl Try.underlying3 Try.underlying3 Try.underlying3 Try.underlying3 (by kernel_rfl) (by kernel_rfl) (by kernel_rfl) (by kernel_rfl) (by kernel_rfl) (hval 0 23 v0 rfl rfl) h0
  obtain ⟨c1_, rfl, hk1⟩ := open_clk Try.underlying25 rfl rfl rfl rfl rfl rfl Try.underlying3 Try.underlying3 Try.underlying3 (by kernel_rfl) (by kernel_rfl) (by kernel_rfl) (by kernel_rfl) (hval 1 25 v1 rfl rfl) h1
  obtain ⟨a2, rfl, rfl, rfl, w2⟩ := open_int Try.underlying3 (hval 2 3 v2 rfl rfl) h2
  obtain ⟨a3, rfl, rfl, rfl, w3⟩ := open_int Try.underlying3 (hval 3 3 v3 rfl rfl) h3
  obtain ⟨a4, rfl, rfl, rfl, w4⟩ := open_int Try.underlying3 (hval 4 3 v4 rfl rfl) h4
  obtain ⟨a5, rfl, rfl, rfl, w5⟩ := open_int Try.underlying3 (hval 5 3 v5 rfl rfl) h5
  obtain ⟨a6, rfl, rfl, rfl, w6⟩ := open_int Try.underlying3 (hval 6 3 v6 rfl rfl) h6
  refine (walk p0_ c1_ a2 a3 a4 a5 a6 W hq0 hk1 w2 w3 w4 w5 w6).mono fun e W' ⟨he, hg⟩ => ?_
  subst he
  exact ⟨_, rfl, law_post hW' rfl (by kernel_rfl) (by kernel_rfl) (by kernel_rfl) Try.underlying4 rfl rfl rfl hg⟩

theorem over : Rows.clocksTellRow.holds Try.pinned (OpenSpec.ofChange Rows.clocksTellSpec) :=
  OpenClaim.holds_of_wide 3 Try.f3 rfl rfl rfl rfl rfl rfl rfl ⟨rfl, rfl, rfl, rfl, rfl⟩ rfl rfl rfl rfl rfl (by kernel_rfl) Try.func3 (by kernel_rfl)
    (of_decide_eq_true (by kernel_rfl)) (by unfold Func.isWrapper; first | (rw [if_pos (by decide +kernel)]; kernel_rfl) | (rw [if_neg (by decide +kernel)]; exact ⟨rfl, rfl⟩))
    (fun os started H enc _ => lifted os started H enc)

theorem proved : Rows.ClocksTellSaid :=
  over
#print axioms proved

end Go.Proofs.Ytmihaigleembhaa.ClocksTell
