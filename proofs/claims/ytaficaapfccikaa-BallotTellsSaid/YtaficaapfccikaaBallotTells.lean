/-
  BallotTells: of any ballot and any wish, all that the chapter tells is what the document says; it holds for every input, and the argument stays as it was. No condition.
-/
import Derived.Test.YtaficaapfccikaaBalAwk
import Derived.Test.YtaficaapfccikaaQuietB
import Derived.Test.YtaficaapfccikaaLaw
import Derived.Test.YtaficaapfccikaaRows
import Derived.Test.YtaficaapfccikaaChecked
namespace Go.Proofs.Ytaficaapfccikaa.BallotTells
open Go.ChangeShapes Go.WideShapes Go.ChangeAt Go.RowKit
set_option linter.unusedVariables false

attribute [local go_sem ↓] ldBal_eq
attribute [local irreducible] wpQuiet
set_option maxRecDepth 100000 in
set_option maxHeartbeats 4000000 in
theorem walkIn (b : Bal) (t who : Int) (n : Bool) (i j : Int) (w : World) :
    Calls Try.prog 3 #[.agg #[.int .i64 b.te, .int .i64 b.vo], .int .i64 t, .int .i64 who, .bool n, .int .i64 i, .int .i64 j] w fun e w' => e = .returned (.bool true) ∧ Below w.heap.size w w' := by
  have G1 := Grant_any b t who n; have G2 := RGrant_any b t who n
  unfold GrantRet at G1 G2
  have K1 := Lib.hid (Right_any b); have K2 := Lib.hid (RRight_any b); have K3 := Lib.hid (See_any b t); have K4 := Lib.hid (RSee_any b t); have K6 := Lib.hid awake_any
  have K5 := fun w => AsNew_below b.te i t j w
  generalize decide (RightB b) = r at K1 K2
  generalize seeB b t = s at K3 K4
  generalize grantB b t who n = g at G1 G2
  generalize decide (GivenB b t who n) = o at G1 G2
  obtain ⟨te, vo⟩ := b
  obtain ⟨ste, svo⟩ := s
  obtain ⟨gte, gvo⟩ := g
  simp only at K1 K2 K3 K4 K5 G1 G2
  have G1 := Lib.hid G1; have G2 := Lib.hid G2
  show Calls _ _ #[.agg #[.int .i64 te, .int .i64 vo], _, _, _, _, _] _ _
  have B1 := below_box w (.cells #[.int .i64 te, .int .i64 vo] 23)
  have A1 : BalAt _ _ ⟨te, vo⟩ := BalAt.new w ⟨te, vo⟩
  obtain ⟨rn, hrn⟩ : ∃ rn, decide (NewB te i t j) = rn := ⟨_, rfl⟩
  rw [hrn] at K5
  have K5 := Lib.hid K5; have Hrn := Lib.hid hrn
  clear hrn
  by_cases h1 : t < te
  · obtain rfl : rn = true := by rw [← Hrn.out]; exact decide_eq_true (.inl h1)
    have d1 : decide (t < te) = true := decide_eq_true h1
    go_enter Try.func3, Try.ntmps3
    go_upto_region 1 with fail
    change Code.wp _ _ _ _ (w.alloc (.cells #[.int .i64 te, .int .i64 vo] 23))
    simp only at A1
    generalize w.alloc (.cells #[.int .i64 te, .int .i64 vo] 23) = w1 at B1 A1 ⊢
    have HB1 := Lib.hid B1; have HA1 := Lib.hid A1
    have hld := ldBal_run A1
    simp only at hld
    clear B1 A1
    go_upto_region 2 with (go_at_call 7; refine (G1.out _).mono ?_; rintro e w2 ⟨rfl, hb2⟩)
    change Code.wp _ _ _ _ (w2.alloc (.cells #[.int .i64 gte, .int .i64 gvo] 23))
    have A3 : BalAt _ _ ⟨gte, gvo⟩ := BalAt.new w2 ⟨gte, gvo⟩
    simp only at A3
    have B3 := hb2.trans ((below_box w2 (.cells #[.int .i64 gte, .int .i64 gvo] 23)).mono hb2.size)
    generalize w2.alloc (.cells #[.int .i64 gte, .int .i64 gvo] 23) = w3 at A3 B3 ⊢
    have HB3 := Lib.hid (HB1.out.trans (B3.mono HB1.out.size)); have HA3 := Lib.hid A3; have HA1' := Lib.hid (HA1.out.below B3)
    clear hb2 B3 A3 hld
    have hld := ldBal_run HA1'.out
    simp only at hld
    go_upto_region 3 with (go_at_call 8; refine (G2.out _).mono ?_; rintro e w4 ⟨rfl, hb4⟩)
    change Code.wp _ _ _ _ (w4.alloc (.cells #[.int .i64 gte, .int .i64 gvo] 23))
    have A5 : BalAt _ _ ⟨gte, gvo⟩ := BalAt.new w4 ⟨gte, gvo⟩
    simp only at A5
    have B5 := hb4.trans ((below_box w4 (.cells #[.int .i64 gte, .int .i64 gvo] 23)).mono hb4.size)
    generalize w4.alloc (.cells #[.int .i64 gte, .int .i64 gvo] 23) = w5 at A5 B5 ⊢
    have HB5 := Lib.hid (HB3.out.trans (B5.mono HB3.out.size)); have HA5 := Lib.hid A5; have HA3' := Lib.hid (HA3.out.below B5); have HA1'' := Lib.hid (HA1'.out.below B5)
    clear hb4 B5 A5 hld
    have ld1 : ∀ p : BelowOf w5, _ := fun p => ldBal_run (HA1''.out.below p.h)
    have ld2 : ∀ p : BelowOf w5, _ := fun p => ldBal_run (HA3'.out.below p.h)
    have ld3 : ∀ p : BelowOf w5, _ := fun p => ldBal_run (HA5.out.below p.h)
    have cc : ∀ p : BelowOf w5, _ := fun p => (HA1''.out.below p.h).c0
    simp only at ld1 ld2 ld3 cc
    refine wp_region_quiet_below (by kernel_rfl) (by kernel_rfl) ?_
    repeat (quiet_step (fail))
    quiet_step (exact Calls.below_of (K1.out _))
    repeat (quiet_step (fail))
    quiet_step (exact Calls.below_of (K2.out _))
    repeat (quiet_step (fail))
    quiet_step (exact Calls.below_of (K3.out _))
    repeat (quiet_step (fail))
    quiet_step (exact Calls.below_of (K4.out _))
    repeat (quiet_step (fail))
    quiet_step (exact Calls.below_of (K5.out _))
    repeat (quiet_step (fail))
    quiet_step (exact Calls.below_of (K6.out _))
    repeat (quiet_step (fail))
    refine wpQuiet_nil ?_
    rintro _ ⟨⟨w9, hb9⟩, rfl⟩
    have H9 := Lib.hid hb9; clear hb9
    go_wp2
    go_ret
    exact ⟨rfl, HB5.out.trans (H9.out.mono HB5.out.size)⟩
  · have d1 : decide (t < te) = false := decide_eq_false h1
    by_cases h2 : te = t
    · have d2 : (te == t) = true := by simpa using h2
      by_cases h3 : j ≤ i
      · obtain rfl : rn = true := by rw [← Hrn.out]; exact decide_eq_true (.inr ⟨h2, h3⟩)
        have d3 : decide (j ≤ i) = true := decide_eq_true h3
        clear h2
        go_enter Try.func3, Try.ntmps3
        go_upto_region 1 with fail
        change Code.wp _ _ _ _ (w.alloc (.cells #[.int .i64 te, .int .i64 vo] 23))
        simp only at A1
        generalize w.alloc (.cells #[.int .i64 te, .int .i64 vo] 23) = w1 at B1 A1 ⊢
        have HB1 := Lib.hid B1; have HA1 := Lib.hid A1
        have hld := ldBal_run A1
        simp only at hld
        clear B1 A1
        go_upto_region 2 with (go_at_call 7; refine (G1.out _).mono ?_; rintro e w2 ⟨rfl, hb2⟩)
        change Code.wp _ _ _ _ (w2.alloc (.cells #[.int .i64 gte, .int .i64 gvo] 23))
        have A3 : BalAt _ _ ⟨gte, gvo⟩ := BalAt.new w2 ⟨gte, gvo⟩
        simp only at A3
        have B3 := hb2.trans ((below_box w2 (.cells #[.int .i64 gte, .int .i64 gvo] 23)).mono hb2.size)
        generalize w2.alloc (.cells #[.int .i64 gte, .int .i64 gvo] 23) = w3 at A3 B3 ⊢
        have HB3 := Lib.hid (HB1.out.trans (B3.mono HB1.out.size)); have HA3 := Lib.hid A3; have HA1' := Lib.hid (HA1.out.below B3)
        clear hb2 B3 A3 hld
        have hld := ldBal_run HA1'.out
        simp only at hld
        go_upto_region 3 with (go_at_call 8; refine (G2.out _).mono ?_; rintro e w4 ⟨rfl, hb4⟩)
        change Code.wp _ _ _ _ (w4.alloc (.cells #[.int .i64 gte, .int .i64 gvo] 23))
        have A5 : BalAt _ _ ⟨gte, gvo⟩ := BalAt.new w4 ⟨gte, gvo⟩
        simp only at A5
        have B5 := hb4.trans ((below_box w4 (.cells #[.int .i64 gte, .int .i64 gvo] 23)).mono hb4.size)
        generalize w4.alloc (.cells #[.int .i64 gte, .int .i64 gvo] 23) = w5 at A5 B5 ⊢
        have HB5 := Lib.hid (HB3.out.trans (B5.mono HB3.out.size)); have HA5 := Lib.hid A5; have HA3' := Lib.hid (HA3.out.below B5); have HA1'' := Lib.hid (HA1'.out.below B5)
        clear hb4 B5 A5 hld
        have ld1 : ∀ p : BelowOf w5, _ := fun p => ldBal_run (HA1''.out.below p.h)
        have ld2 : ∀ p : BelowOf w5, _ := fun p => ldBal_run (HA3'.out.below p.h)
        have ld3 : ∀ p : BelowOf w5, _ := fun p => ldBal_run (HA5.out.below p.h)
        have cc : ∀ p : BelowOf w5, _ := fun p => (HA1''.out.below p.h).c0
        simp only at ld1 ld2 ld3 cc
        refine wp_region_quiet_below (by kernel_rfl) (by kernel_rfl) ?_
        repeat (quiet_step (fail))
        quiet_step (exact Calls.below_of (K1.out _))
        repeat (quiet_step (fail))
        quiet_step (exact Calls.below_of (K2.out _))
        repeat (quiet_step (fail))
        quiet_step (exact Calls.below_of (K3.out _))
        repeat (quiet_step (fail))
        quiet_step (exact Calls.below_of (K4.out _))
        repeat (quiet_step (fail))
        quiet_step (exact Calls.below_of (K5.out _))
        repeat (quiet_step (fail))
        quiet_step (exact Calls.below_of (K6.out _))
        repeat (quiet_step (fail))
        refine wpQuiet_nil ?_
        rintro _ ⟨⟨w9, hb9⟩, rfl⟩
        have H9 := Lib.hid hb9; clear hb9
        go_wp2
        go_ret
        exact ⟨rfl, HB5.out.trans (H9.out.mono HB5.out.size)⟩
      · obtain rfl : rn = false := by rw [← Hrn.out]; exact decide_eq_false fun h => h.elim h1 fun k => h3 k.2
        have d3 : decide (j ≤ i) = false := decide_eq_false h3
        clear h2
        go_enter Try.func3, Try.ntmps3
        go_upto_region 1 with fail
        change Code.wp _ _ _ _ (w.alloc (.cells #[.int .i64 te, .int .i64 vo] 23))
        simp only at A1
        generalize w.alloc (.cells #[.int .i64 te, .int .i64 vo] 23) = w1 at B1 A1 ⊢
        have HB1 := Lib.hid B1; have HA1 := Lib.hid A1
        have hld := ldBal_run A1
        simp only at hld
        clear B1 A1
        go_upto_region 2 with (go_at_call 7; refine (G1.out _).mono ?_; rintro e w2 ⟨rfl, hb2⟩)
        change Code.wp _ _ _ _ (w2.alloc (.cells #[.int .i64 gte, .int .i64 gvo] 23))
        have A3 : BalAt _ _ ⟨gte, gvo⟩ := BalAt.new w2 ⟨gte, gvo⟩
        simp only at A3
        have B3 := hb2.trans ((below_box w2 (.cells #[.int .i64 gte, .int .i64 gvo] 23)).mono hb2.size)
        generalize w2.alloc (.cells #[.int .i64 gte, .int .i64 gvo] 23) = w3 at A3 B3 ⊢
        have HB3 := Lib.hid (HB1.out.trans (B3.mono HB1.out.size)); have HA3 := Lib.hid A3; have HA1' := Lib.hid (HA1.out.below B3)
        clear hb2 B3 A3 hld
        have hld := ldBal_run HA1'.out
        simp only at hld
        go_upto_region 3 with (go_at_call 8; refine (G2.out _).mono ?_; rintro e w4 ⟨rfl, hb4⟩)
        change Code.wp _ _ _ _ (w4.alloc (.cells #[.int .i64 gte, .int .i64 gvo] 23))
        have A5 : BalAt _ _ ⟨gte, gvo⟩ := BalAt.new w4 ⟨gte, gvo⟩
        simp only at A5
        have B5 := hb4.trans ((below_box w4 (.cells #[.int .i64 gte, .int .i64 gvo] 23)).mono hb4.size)
        generalize w4.alloc (.cells #[.int .i64 gte, .int .i64 gvo] 23) = w5 at A5 B5 ⊢
        have HB5 := Lib.hid (HB3.out.trans (B5.mono HB3.out.size)); have HA5 := Lib.hid A5; have HA3' := Lib.hid (HA3.out.below B5); have HA1'' := Lib.hid (HA1'.out.below B5)
        clear hb4 B5 A5 hld
        have ld1 : ∀ p : BelowOf w5, _ := fun p => ldBal_run (HA1''.out.below p.h)
        have ld2 : ∀ p : BelowOf w5, _ := fun p => ldBal_run (HA3'.out.below p.h)
        have ld3 : ∀ p : BelowOf w5, _ := fun p => ldBal_run (HA5.out.below p.h)
        have cc : ∀ p : BelowOf w5, _ := fun p => (HA1''.out.below p.h).c0
        simp only at ld1 ld2 ld3 cc
        refine wp_region_quiet_below (by kernel_rfl) (by kernel_rfl) ?_
        repeat (quiet_step (fail))
        quiet_step (exact Calls.below_of (K1.out _))
        repeat (quiet_step (fail))
        quiet_step (exact Calls.below_of (K2.out _))
        repeat (quiet_step (fail))
        quiet_step (exact Calls.below_of (K3.out _))
        repeat (quiet_step (fail))
        quiet_step (exact Calls.below_of (K4.out _))
        repeat (quiet_step (fail))
        quiet_step (exact Calls.below_of (K5.out _))
        repeat (quiet_step (fail))
        quiet_step (exact Calls.below_of (K6.out _))
        repeat (quiet_step (fail))
        refine wpQuiet_nil ?_
        rintro _ ⟨⟨w9, hb9⟩, rfl⟩
        have H9 := Lib.hid hb9; clear hb9
        go_wp2
        go_ret
        exact ⟨rfl, HB5.out.trans (H9.out.mono HB5.out.size)⟩
    · have d2 : (te == t) = false := by simpa using h2
      obtain rfl : rn = false := by rw [← Hrn.out]; exact decide_eq_false fun h => h.elim h1 fun k => h2 k.1
      clear h2
      go_enter Try.func3, Try.ntmps3
      go_upto_region 1 with fail
      change Code.wp _ _ _ _ (w.alloc (.cells #[.int .i64 te, .int .i64 vo] 23))
      simp only at A1
      generalize w.alloc (.cells #[.int .i64 te, .int .i64 vo] 23) = w1 at B1 A1 ⊢
      have HB1 := Lib.hid B1; have HA1 := Lib.hid A1
      have hld := ldBal_run A1
      simp only at hld
      clear B1 A1
      go_upto_region 2 with (go_at_call 7; refine (G1.out _).mono ?_; rintro e w2 ⟨rfl, hb2⟩)
      change Code.wp _ _ _ _ (w2.alloc (.cells #[.int .i64 gte, .int .i64 gvo] 23))
      have A3 : BalAt _ _ ⟨gte, gvo⟩ := BalAt.new w2 ⟨gte, gvo⟩
      simp only at A3
      have B3 := hb2.trans ((below_box w2 (.cells #[.int .i64 gte, .int .i64 gvo] 23)).mono hb2.size)
      generalize w2.alloc (.cells #[.int .i64 gte, .int .i64 gvo] 23) = w3 at A3 B3 ⊢
      have HB3 := Lib.hid (HB1.out.trans (B3.mono HB1.out.size)); have HA3 := Lib.hid A3; have HA1' := Lib.hid (HA1.out.below B3)
      clear hb2 B3 A3 hld
      have hld := ldBal_run HA1'.out
      simp only at hld
      go_upto_region 3 with (go_at_call 8; refine (G2.out _).mono ?_; rintro e w4 ⟨rfl, hb4⟩)
      change Code.wp _ _ _ _ (w4.alloc (.cells #[.int .i64 gte, .int .i64 gvo] 23))
      have A5 : BalAt _ _ ⟨gte, gvo⟩ := BalAt.new w4 ⟨gte, gvo⟩
      simp only at A5
      have B5 := hb4.trans ((below_box w4 (.cells #[.int .i64 gte, .int .i64 gvo] 23)).mono hb4.size)
      generalize w4.alloc (.cells #[.int .i64 gte, .int .i64 gvo] 23) = w5 at A5 B5 ⊢
      have HB5 := Lib.hid (HB3.out.trans (B5.mono HB3.out.size)); have HA5 := Lib.hid A5; have HA3' := Lib.hid (HA3.out.below B5); have HA1'' := Lib.hid (HA1'.out.below B5)
      clear hb4 B5 A5 hld
      have ld1 : ∀ p : BelowOf w5, _ := fun p => ldBal_run (HA1''.out.below p.h)
      have ld2 : ∀ p : BelowOf w5, _ := fun p => ldBal_run (HA3'.out.below p.h)
      have ld3 : ∀ p : BelowOf w5, _ := fun p => ldBal_run (HA5.out.below p.h)
      have cc : ∀ p : BelowOf w5, _ := fun p => (HA1''.out.below p.h).c0
      simp only at ld1 ld2 ld3 cc
      refine wp_region_quiet_below (by kernel_rfl) (by kernel_rfl) ?_
      repeat (quiet_step (fail))
      quiet_step (exact Calls.below_of (K1.out _))
      repeat (quiet_step (fail))
      quiet_step (exact Calls.below_of (K2.out _))
      repeat (quiet_step (fail))
      quiet_step (exact Calls.below_of (K3.out _))
      repeat (quiet_step (fail))
      quiet_step (exact Calls.below_of (K4.out _))
      repeat (quiet_step (fail))
      quiet_step (exact Calls.below_of (K5.out _))
      repeat (quiet_step (fail))
      quiet_step (exact Calls.below_of (K6.out _))
      repeat (quiet_step (fail))
      refine wpQuiet_nil ?_
      rintro _ ⟨⟨w9, hb9⟩, rfl⟩
      have H9 := Lib.hid hb9; clear hb9
      go_wp2
      go_ret
      exact ⟨rfl, HB5.out.trans (H9.out.mono HB5.out.size)⟩

theorem walk (b : Bal) (t who : Int) (n : Bool) (i j : Int) (w : World) (hb : InB b) (h1 : (Lit.int .i64 t).wf = true) (h2 : (Lit.int .i64 who).wf = true) (h3 : (Lit.int .i64 i).wf = true) (h4 : (Lit.int .i64 j).wf = true) :
    Calls Try.prog 3 #[.agg #[.int .i64 b.te, .int .i64 b.vo], .int .i64 t, .int .i64 who, .bool n, .int .i64 i, .int .i64 j] w fun e w' => e = .returned (.bool true) ∧ Below w.heap.size w w' :=
  walkIn b t who n i j w

/-! ### THE ROW -/
theorem own : ownKnob Try.prog.godebug = none := by kernel_rfl

set_option maxRecDepth 100000 in
theorem lifted (os : Os) (started : os.Started) (H : Type) (enc : TypeId × Value → H) :
    ReturnsInHanded {} Try.checked os 3 .any (Rows.ballotTellsSpec.pre6 enc Try.prog Try.f3 Rows.ballotTellsRow.domain false) (Rows.ballotTellsSpec.post enc Try.prog Try.f3 false true false false) := by
  refine returnsInHanded_of_change (C := Try.checked) own started (by kernel_rfl) Try.func3
    (ChangeSpec.witness6 (enc := enc) (C := Try.checked) false ⟨#[], #[.agg #[.int .i64 0, .int .i64 0], .int .i64 0, .int .i64 0, .bool false, .int .i64 0, .int .i64 0], []⟩ 8 (by kernel_rfl) (by kernel_rfl) (by kernel_rfl) (by kernel_rfl)) ?_
  intro W base args ds gs before hval0 hW hcnd _
  have hval : ∀ (j : Nat) t v, Try.f3.params[j]? = some t → args[j]? = some v → Value.okWide Try.prog W .any base t v := hval0
  have hW' := hW
  obtain ⟨p, q, hA0, hV, rfl, hfz, hnd⟩ := hW
  have hA : DataW.TrodAll enc Try.prog W 0 (fun _ => true) true Try.f3.params.toList args.toList ds p := hA0
  rw [Try.params3] at hA hval
  obtain ⟨v0, vs0, d0, ds0, p0, q0, hargs, rfl, rfl, h0, r0⟩ := trodAll_cons hA
  obtain ⟨v1, vs1, d1, ds1, p1, q1, rfl, rfl, rfl, h1, r1⟩ := trodAll_cons r0
  obtain ⟨v2, vs2, d2, ds2, p2, q2, rfl, rfl, rfl, h2, r2⟩ := trodAll_cons r1
  obtain ⟨v3, vs3, d3, ds3, p3, q3, rfl, rfl, rfl, h3, r3⟩ := trodAll_cons r2
  obtain ⟨v4, vs4, d4, ds4, p4, q4, rfl, rfl, rfl, h4, r4⟩ := trodAll_cons r3
  obtain ⟨v5, vs5, d5, ds5, p5, q5, rfl, rfl, rfl, h5, r5⟩ := trodAll_cons r4
  obtain ⟨rfl, rfl, rfl⟩ := trodAll_nil r5
  obtain rfl : args = #[v0, v1, v2, v3, v4, v5] := by cases args; simp_all
  obtain ⟨rfl, rfl⟩ := trodVars_none hV
  obtain ⟨b0_, rfl, hb0⟩ := open_bal Try.underlying23 rfl rfl rfl rfl Try.underlying3 Try.underlying3 (by kernel_rfl) (by kernel_rfl) (by kernel_rfl) (hval 0 23 v0 rfl rfl) h0
  obtain ⟨a1, rfl, rfl, rfl, w1⟩ := open_int Try.underlying3 (hval 1 3 v1 rfl rfl) h1
  obtain ⟨a2, rfl, rfl, rfl, w2⟩ := open_int Try.underlying3 (hval 2 3 v2 rfl rfl) h2
  obtain ⟨a3, rfl, rfl, rfl⟩ := open_bool Try.underlying4 (hval 3 4 v3 rfl rfl) h3
  obtain ⟨a4, rfl, rfl, rfl, w4⟩ := open_int Try.underlying3 (hval 4 3 v4 rfl rfl) h4
  obtain ⟨a5, rfl, rfl, rfl, w5⟩ := open_int Try.underlying3 (hval 5 3 v5 rfl rfl) h5
  refine (walk b0_ a1 a2 a3 a4 a5 W hb0 w1 w2 w4 w5).mono fun e W' ⟨he, hg⟩ => ?_
  subst he
  exact ⟨_, rfl, law_post hW' rfl (by kernel_rfl) (by kernel_rfl) (by kernel_rfl) Try.underlying4 rfl rfl rfl hg⟩

theorem over : Rows.ballotTellsRow.holds Try.pinned (OpenSpec.ofChange Rows.ballotTellsSpec) :=
  OpenClaim.holds_of_wide 3 Try.f3 rfl rfl rfl rfl rfl rfl rfl ⟨rfl, rfl, rfl, rfl, rfl⟩ rfl rfl rfl rfl rfl (by kernel_rfl) Try.func3 (by kernel_rfl)
    (of_decide_eq_true (by kernel_rfl)) (by unfold Func.isWrapper; first | (rw [if_pos (by decide +kernel)]; kernel_rfl) | (rw [if_neg (by decide +kernel)]; exact ⟨rfl, rfl⟩))
    (fun os started H enc _ => lifted os started H enc)

theorem proved : Rows.BallotTellsSaid :=
  over
#print axioms proved

end Go.Proofs.Ytaficaapfccikaa.BallotTells
