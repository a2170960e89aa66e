/-
  ClocksSpaces: charged one by one by reservation R goes on by Space, by weight it stays, and what was done elsewhere counts as if it was done here (of 60 operations); it holds for every input, and the argument stays as it was. No condition.
-/
import Derived.Test.YtmihaigleembhaaClkA
import Derived.Test.YtmihaigleembhaaClkSpa
import Derived.Test.YtmihaigleembhaaClkTwo
import Derived.Test.YtmihaigleembhaaQuietB
import Derived.Test.YtmihaigleembhaaRows
import Derived.Test.YtmihaigleembhaaChecked
namespace Go.Proofs.Ytmihaigleembhaa.ClocksSpaces
open Go.ChangeShapes Go.WideShapes Go.ChangeAt Go.RowKit
set_option linter.unusedVariables false

attribute [local go_sem ↓] ldPol_eq ldClk_eq
attribute [local irreducible] wpQuiet
set_option maxRecDepth 100000 in
set_option maxHeartbeats 4000000 in
theorem walkIn (q : Pol) (st nn : Int) (rh : Nat) (w : World) (hq : InP q) (hr : rightP q = true) (hs : 0 ≤ st ∧ st ≤ 4294967295) (hn : 0 ≤ nn ∧ nn ≤ 255) (hrh : rh ≤ 255) :
    Calls Try.prog 6 #[.agg #[.int .i64 q.re, .int .i64 q.we, .int .i64 q.li, .int .i64 q.bu], .int .u32 st, .int .u8 nn, .int .u8 (rh : Int)] w
      fun e w' => e = .returned (.bool true) ∧ Below w.heap.size w w' := by
  have KR := Lib.hid (fun w => RRight_any q w)
  rw [hr] at KR
  have Hr := Lib.hid hr
  have Hq := Lib.hid hq
  have B1 := below_box w (.cells #[.int .i64 q.re, .int .i64 q.we, .int .i64 q.li, .int .i64 q.bu] 23)
  have P1 := pol_of_row (heap_alloc_new w (.cells #[.int .i64 q.re, .int .i64 q.we, .int .i64 q.li, .int .i64 q.bu] 23)) hq
  have Z1 := size_box w (.cells #[.int .i64 q.re, .int .i64 q.we, .int .i64 q.li, .int .i64 q.bu] 23)
  obtain ⟨s1, s2⟩ := hs
  obtain ⟨n1, n2⟩ := hn
  have hws := wrap_in st (by omega) (by omega)
  clear hq hr
  go_enter Try.func6, Try.ntmps6
  go_upto_region 1 with fail
  change Code.wp _ _ _ _ (w.alloc (.cells #[.int .i64 q.re, .int .i64 q.we, .int .i64 q.li, .int .i64 q.bu] 23))
  generalize w.alloc (.cells #[.int .i64 q.re, .int .i64 q.we, .int .i64 q.li, .int .i64 q.bu] 23) = w1 at B1 P1 Z1 ⊢
  have hld := ldPol_run P1
  have HB1 := Lib.hid B1; have HP1 := Lib.hid P1
  have Z1' : w.heap.size < w1.heap.size := by omega
  clear B1 P1 Z1
  go_upto_region 4 with (go_at_call 17; refine (KR.out _).mono ?_; rintro e w2 ⟨rfl, hb2⟩; have Z2 := hb2.size; have HB2 := Lib.hid (more HB1.out hb2); have HP2 := Lib.hid (HP1.out.below hb2); clear hb2 hld)
  change Code.wp _ _ _ _ (w2.alloc (.cells #[.int .i64 st, .int .i64 0, .int .i64 0] 25))
  have HB3 := Lib.hid (more_alloc HB2.out (.cells #[.int .i64 st, .int .i64 0, .int .i64 0] 25))
  have HP3 := Lib.hid (HP2.out.below (below_box w2 (.cells #[.int .i64 st, .int .i64 0, .int .i64 0] 25)))
  have HC3 : Hid (ClkAt (w2.alloc (.cells #[.int .i64 st, .int .i64 0, .int .i64 0] 25)) w2.heap.size ⟨st, 0, 0⟩) := Lib.hid (heap_alloc_new w2 _)
  generalize w2.alloc (.cells #[.int .i64 st, .int .i64 0, .int .i64 0] 25) = w3 at HB3 HP3 HC3 ⊢
  have Zg : w.heap.size < w2.heap.size := by omega
  generalize w2.heap.size = g at HC3 Zg ⊢
  clear HB1 HP1 HB2 HP2 Z2 Z1'
  go_upto_region 5 with fail
  obtain ⟨k, hk⟩ : ∃ k : Nat, nn % 60 = (k : Int) := ⟨(nn % 60).toNat, by omega⟩
  have hk60 : k < 60 := by omega
  rw [hk]
  clear hk n1 n2
  go_wp2
  go_loopw [11] (fun i wr => ∃ j : Nat, ∃ l : Int, j ≤ k ∧ i = .int .i64 j ∧ isTag l ∧ Below w.heap.size w wr ∧ PolAt wr w.heap.size 0 q ∧ ClkAt wr g (stepC q st j l)) (fun i _ => k - (intOf i).toNat)
  case atStart =>
    refine ⟨0, 0, by omega, rfl, ⟨by omega, by omega⟩, HB3.out, HP3.out, ?_⟩
    rw [show stepC q st 0 0 = ⟨st, 0, 0⟩ by unfold stepC; simp]
    exact HC3.out
  case round =>
    obtain ⟨j, l, hj, rfl, htl, hb, hp, hc⟩ := hrel
    by_cases hlt : j < k
    · obtain ⟨l2, htl2, e2, t1⟩ := stepC_next Hr.out s1 s2 (show j < 60 by omega) htl
      have t0 := (stepC_bd Hr.out s1 s2 (show j ≤ 60 by omega) htl).1
      have KC1 := Charge_any q (stepC q st j l) st 1 0 0 wr Hq.out (tagsC_in t0) (by unfold inI; omega) (by unfold inI; omega) (by unfold inI; omega)
      have KC2 := fun W => Charge_any q (chargeF q (stepC q st j l) st 1 0 0) st 2 0 0 W Hq.out (tagsC_in t1) (by unfold inI; omega) (by unfold inI; omega) (by unfold inI; omega)
      rw [e2] at KC2
      clear e2 t1 t0
      generalize chargeF q (stepC q st j l) st 1 0 0 = d1 at KC1 KC2
      obtain ⟨d2, hd2⟩ : ∃ x, stepC q st (j + 1) l2 = x := ⟨_, rfl⟩
      rw [hd2] at KC2
      generalize stepC q st j l = c0 at KC1 hc
      obtain ⟨ca, cb, cc⟩ := c0
      obtain ⟨da, db, dc⟩ := d1
      obtain ⟨ea, eb, ec⟩ := d2
      simp only at KC1 KC2
      have K1 := Lib.hid KC1; have K2 := Lib.hid KC2; have Hd2 := Lib.hid hd2; have Htl := Lib.hid htl2; have Hb := Lib.hid hb; have Hp := Lib.hid hp; have Hc := Lib.hid hc
      have ld0 := ldPol_run hp
      have ld1 := ldClk_run hc
      simp only at ld1
      have b1 : (j : Int) < (k : Int) := by omega
      clear KC1 KC2 hd2 htl2 hb hp hc htl
      go_upto_region 9 with (first
        | (go_at_call 15; refine K1.out.mono ?_; rintro e w4 ⟨rfl, hb4⟩; have Hb4 := Lib.hid hb4; have HD4 := Lib.hid (Hc.out.below hb4); clear hb4 ld0 ld1)
        | (refine wpList_store_row rfl 25 (.tmp 9) (.tmp 35) rfl g #[.int .i64 da, .int .i64 db, .int .i64 dc] rfl rfl 25 _ HD4.out clk_info rfl (by simp [Value.oneCell']) ?_))
      change Code.wp _ _ _ _ (w4.setRow g #[.int .i64 da, .int .i64 db, .int .i64 dc])
      have HB5 := Lib.hid (more_set (more Hb.out Hb4.out) (show w.heap.size ≤ g by omega) #[.int .i64 da, .int .i64 db, .int .i64 dc])
      have HP5 := Lib.hid (pol_setRow (k := g) (Hp.out.below Hb4.out) (by omega) #[.int .i64 da, .int .i64 db, .int .i64 dc])
      have HC5 := Lib.hid (setRow_clk ⟨_, HD4.out⟩ da db dc)
      generalize w4.setRow g #[.int .i64 da, .int .i64 db, .int .i64 dc] = w5 at HB5 HP5 HC5 ⊢
      have ld0 := ldPol_run HP5.out
      have ld1 := ldClk_run HC5.out
      simp only at ld1
      clear Hb4 HD4
      go_wp2_with (first
        | (go_at_call 15; refine (K2.out _).mono ?_; rintro e w6 ⟨rfl, hb6⟩; have Hb6 := Lib.hid hb6; have HD6 := Lib.hid (HC5.out.below hb6); clear hb6 ld0 ld1)
        | (refine wpList_store_row rfl 25 (.tmp 9) (.tmp 40) rfl g #[.int .i64 ea, .int .i64 eb, .int .i64 ec] rfl rfl 25 _ HD6.out clk_info rfl (by simp [Value.oneCell']) ?_))
      go_roundw
      case rel => exact ⟨j + 1, l2, by omega, by go_num, Htl.out, more_set (more HB5.out Hb6.out) (by omega) _, pol_setRow (HP5.out.below Hb6.out) (by omega) _, by rw [Hd2.out]; exact setRow_clk ⟨_, HD6.out⟩ ea eb ec⟩
      case measure => simp [intOf]; omega
    · obtain rfl : j = k := by omega
      obtain ⟨t0, b1, b2, b3, b4⟩ := stepC_bd Hr.out s1 s2 (show j ≤ 60 by omega) htl
      have hcl := (Array.getElem?_eq_some_iff.1 hc).1
      have KS := Lib.hid (fun W => refSpace_any q.re W)
      have KC := Charge_any q ⟨0, 0, 0⟩ 0 1 rh rh wr Hq.out zero_in (by unfold inI; omega) (by unfold inI; omega) (by unfold inI; omega)
      rw [manyC_at_once Hr.out hrh] at KC
      obtain ⟨m1, hm1⟩ : ∃ x, manyC q (rh + 1) = x := ⟨_, rfl⟩
      rw [hm1] at KC
      obtain ⟨ma, mb, mc⟩ := m1
      simp only at KC
      have K1 := Lib.hid KC; have Hm1 := Lib.hid hm1
      have k0 := hp.1
      have ld0 := ldPol_run hp
      have hwr := wrap_in (rh : Int) (by omega) (by omega)
      have Hb := Lib.hid hb; have Hp := Lib.hid hp; have Hc := Lib.hid hc
      clear KC hm1 hb hp hc
      obtain ⟨sp, hsp⟩ : ∃ x, spaceF q.re = x := ⟨_, rfl⟩
      rw [hsp] at KS
      have Hsp := Lib.hid hsp; clear hsp
      go_upto_region 13 with (first
        | (go_at_call 19; refine (KS.out _).mono ?_; rintro e w6 ⟨rfl, rfl⟩)
        | (go_at_call 15; refine K1.out.mono ?_; rintro e w7 ⟨rfl, hb7⟩; have Hb7 := Lib.hid hb7; have hz7 := hb7.size; clear hb7 ld0 k0))
      change Code.wp _ _ _ _ ((w7.alloc (.cells #[.int .i64 ma, .int .i64 mb, .int .i64 mc] 25)).alloc (.cells #[.int .i64 0, .int .i64 0, .int .i64 0] 25))
      have bb := below_two w7 (.cells #[.int .i64 ma, .int .i64 mb, .int .i64 mc] 25) (.cells #[.int .i64 0, .int .i64 0, .int .i64 0] 25)
      have HB8 := Lib.hid (more (more Hb.out Hb7.out) bb)
      have HP8 := Lib.hid ((Hp.out.below Hb7.out).below bb)
      have HC8 := Lib.hid ((Hc.out.below Hb7.out).below bb)
      have HD8 : Hid (ClkAt ((w7.alloc (.cells #[.int .i64 ma, .int .i64 mb, .int .i64 mc] 25)).alloc (.cells #[.int .i64 0, .int .i64 0, .int .i64 0] 25)) w7.heap.size ⟨ma, mb, mc⟩) := Lib.hid (heap_two0 w7 _ _)
      have HE8 : Hid (ClkAt ((w7.alloc (.cells #[.int .i64 ma, .int .i64 mb, .int .i64 mc] 25)).alloc (.cells #[.int .i64 0, .int .i64 0, .int .i64 0] 25)) (w7.heap.size + 1) ⟨0, 0, 0⟩) := Lib.hid (heap_two w7 _ _)
      generalize (w7.alloc (.cells #[.int .i64 ma, .int .i64 mb, .int .i64 mc] 25)).alloc (.cells #[.int .i64 0, .int .i64 0, .int .i64 0] 25) = w8 at HB8 HP8 HC8 HD8 HE8 bb ⊢
      have hg2 : g < w7.heap.size := by omega
      clear bb hcl hz7 Hb Hp Hc Hb7
      generalize w7.heap.size = g2 at HD8 HE8 hg2 ⊢
      go_wp2
      go_loopw [15] (fun i wr => ∃ r : Nat, r ≤ rh + 1 ∧ i = .int .i64 r ∧ Below w.heap.size w wr ∧ PolAt wr w.heap.size 0 q ∧ ClkAt wr g (stepC q st j l) ∧ ClkAt wr g2 ⟨ma, mb, mc⟩ ∧ ClkAt wr (g2 + 1) (manyC q r)) (fun i _ => rh + 1 - (intOf i).toNat)
      case atStart =>
        refine ⟨0, by omega, rfl, HB8.out, HP8.out, HC8.out, HD8.out, ?_⟩
        rw [show manyC q 0 = ⟨0, 0, 0⟩ by unfold manyC; simp]
        exact HE8.out
      case round =>
        obtain ⟨r, hr, rfl, hb, hp, hc, hd, he⟩ := hrel
        by_cases hlr : r ≤ rh
        · have KC := Charge_any q (manyC q r) 0 1 0 0 wr Hq.out (tagsC_in (manyC_bd Hr.out (show r ≤ 257 by omega)).1) (by unfold inI; omega) (by unfold inI; omega) (by unfold inI; omega)
          rw [manyC_next Hr.out (by omega)] at KC
          obtain ⟨d2, hd2⟩ : ∃ x, manyC q (r + 1) = x := ⟨_, rfl⟩
          rw [hd2] at KC
          generalize manyC q r = c0 at KC he
          obtain ⟨ca, cb, cc⟩ := c0
          obtain ⟨ea, eb, ec⟩ := d2
          simp only at KC
          have K2 := Lib.hid KC; have Hd2 := Lib.hid hd2; have Hb := Lib.hid hb; have Hp := Lib.hid hp; have Hc := Lib.hid hc; have Hd := Lib.hid hd; have He := Lib.hid he
          have ld0 := ldPol_run hp
          have ld1 := ldClk_run he
          simp only at ld1
          have b1 : (r : Int) ≤ (rh : Int) := by omega
          clear KC hd2 hb hp hc hd he
          go_wp2_with (first
            | (go_at_call 15; refine K2.out.mono ?_; rintro e w9 ⟨rfl, hb9⟩; have Hb9 := Lib.hid hb9; have He9 := Lib.hid (He.out.below hb9); clear hb9 ld0 ld1)
            | (refine wpList_store_row rfl 25 (.tmp 14) (.tmp 60) rfl (g2 + 1) #[.int .i64 ea, .int .i64 eb, .int .i64 ec] rfl rfl 25 _ He9.out clk_info rfl (by simp [Value.oneCell']) ?_))
          go_roundw
          case rel => exact ⟨r + 1, by omega, by go_num, more_set (more Hb.out Hb9.out) (by omega) _, pol_setRow (Hp.out.below Hb9.out) (by omega) _, setRow_clk_else (Hc.out.below Hb9.out) (by omega) _, setRow_clk_else (Hd.out.below Hb9.out) (by omega) _, by rw [Hd2.out]; exact setRow_clk ⟨_, He9.out⟩ ea eb ec⟩
          case measure => simp [intOf]; omega
        · obtain rfl : r = rh + 1 := by omega
          rw [Hm1.out] at he
          have Hb := Lib.hid hb; have Hp := Lib.hid hp
          have k0 : ∀ p : BelowOf wr, _ := fun p => (hc.below p.h).c0
          have k1 : ∀ p : BelowOf wr, _ := fun p => (hc.below p.h).c1
          have k2 : ∀ p : BelowOf wr, _ := fun p => (hp.below p.h).2.1
          have k3 : ∀ p : BelowOf wr, _ := fun p => (hd.below p.h).c0
          have k4 : ∀ p : BelowOf wr, _ := fun p => (hd.below p.h).c1
          have k5 : ∀ p : BelowOf wr, _ := fun p => (hd.below p.h).c2
          have k6 : ∀ p : BelowOf wr, _ := fun p => (he.below p.h).c0
          have k7 : ∀ p : BelowOf wr, _ := fun p => (he.below p.h).c1
          have k8 : ∀ p : BelowOf wr, _ := fun p => (he.below p.h).c2
          have hw1 : 1 ≤ q.we := ((rightP_iff q).1 Hr.out).2.1.1
          have hwz : ¬ q.we = 0 := by omega
          have hdv : Int.tdiv 67108864 q.we = 67108864 / q.we := Int.tdiv_eq_ediv_of_nonneg (by omega)
          have wb := weigh_bd hw1
          unfold stepC at k0 k1
          rw [Hsp.out] at b1 b2 k0
          obtain ⟨y2, hy2⟩ : ∃ x, 67108864 / q.we = x := ⟨_, rfl⟩
          rw [hy2] at hdv wb b3 b4 k1
          obtain ⟨p1, hp1⟩ : ∃ x, (j : Int) * sp = x := ⟨_, rfl⟩
          obtain ⟨p2, hp2⟩ : ∃ x, 2 * (j : Int) * y2 = x := ⟨_, rfl⟩
          have v1 := wrap_in ((j : Int) * sp) (by omega) (by omega)
          have v2 := wrap_in (2 * (j : Int)) (by omega) (by omega)
          have v3 := wrap_in y2 (by omega) (by omega)
          have v4 := wrap_in (2 * (j : Int) * y2) (by omega) (by omega)
          have v5 := wrap_in (st + (j : Int) * sp) (by omega) (by omega)
          have hlr' : ¬ ((rh : Int) + 1 ≤ (rh : Int)) := by omega
          simp only at k0 k1 k2 k3 k4 k5 k6 k7 k8
          have K9 := Lib.hid awake_any
          clear hb hp hc hd he hw1 wb b1 b2 b3 b4 hp1 hp2 hy2
          go_upto_region 17 with fail
          refine wp_region_quiet_below (by kernel_rfl) (by kernel_rfl) ?_
          repeat (quiet_step (fail))
          quiet_step (exact Calls.below_of (K9.out _))
          repeat (quiet_step (fail))
          refine wpQuiet_nil ?_
          rintro _ ⟨⟨w9, hb9⟩, rfl⟩
          have Hb9 := Lib.hid hb9
          clear hb9 k0 k1 k2 k3 k4 k5 k6 k7 k8
          go_wp2
          go_ret
          exact ⟨rfl, more Hb.out Hb9.out⟩

set_option maxRecDepth 100000 in
set_option maxHeartbeats 2000000 in
theorem walk (q : Pol) (st nn rh : Int) (w : World) (hq : InP q) (hs : (Lit.int .u32 st).wf = true) (hn : (Lit.int .u8 nn).wf = true) (hh : (Lit.int .u8 rh).wf = true) :
    Calls Try.prog 6 #[.agg #[.int .i64 q.re, .int .i64 q.we, .int .i64 q.li, .int .i64 q.bu], .int .u32 st, .int .u8 nn, .int .u8 rh] w
      fun e w' => e = .returned (.bool true) ∧ Below w.heap.size w w' := by
  simp [Lit.wf, IntKind.min, IntKind.max, IntKind.bits, IntKind.signed] at hs hn hh
  obtain ⟨b, hb⟩ : ∃ b, rightP q = b := ⟨_, rfl⟩
  cases b
  · have KR := Lib.hid (fun w => RRight_any q w)
    rw [hb] at KR
    have B1 := below_box w (.cells #[.int .i64 q.re, .int .i64 q.we, .int .i64 q.li, .int .i64 q.bu] 23)
    have P1 := pol_of_row (heap_alloc_new w (.cells #[.int .i64 q.re, .int .i64 q.we, .int .i64 q.li, .int .i64 q.bu] 23)) hq
    clear hb hs hn hh
    go_enter Try.func6, Try.ntmps6
    go_upto_region 1 with fail
    change Code.wp _ _ _ _ (w.alloc (.cells #[.int .i64 q.re, .int .i64 q.we, .int .i64 q.li, .int .i64 q.bu] 23))
    generalize w.alloc (.cells #[.int .i64 q.re, .int .i64 q.we, .int .i64 q.li, .int .i64 q.bu] 23) = w1 at B1 P1 ⊢
    have hld := ldPol_run P1
    have HB1 := Lib.hid B1
    clear B1 P1
    go_wp2_with (first
      | (go_at_call 17; refine (KR.out _).mono ?_; rintro e w2 ⟨rfl, hb2⟩; have HB2 := Lib.hid (more HB1.out hb2); clear hb2 hld)
      | (go_at_call 8; refine (awake_any _).mono ?_; rintro e w3 ⟨rfl, hb3⟩; have HB3 := Lib.hid (more HB2.out hb3); clear hb3))
    go_ret
    exact ⟨rfl, HB3.out⟩
  · obtain ⟨r, rfl⟩ : ∃ r : Nat, rh = (r : Int) := ⟨rh.toNat, by omega⟩
    exact walkIn q st nn r w hq hb (by omega) (by omega) (by omega)

/-! ### THE ROW -/
theorem own : ownKnob Try.prog.godebug = none := by kernel_rfl

set_option maxRecDepth 100000 in
theorem lifted (os : Os) (started : os.Started) (H : Type) (enc : TypeId × Value → H) :
    ReturnsInHanded {} Try.checked os 6 .any (Rows.clocksSpacesSpec.pre6 enc Try.prog Try.f6 Rows.clocksSpacesRow.domain false) (Rows.clocksSpacesSpec.post enc Try.prog Try.f6 false true false false) := by
  refine returnsInHanded_of_change (C := Try.checked) own started (by kernel_rfl) Try.func6
    (ChangeSpec.witness6 (enc := enc) (C := Try.checked) false ⟨#[], #[.agg #[.int .i64 0, .int .i64 0, .int .i64 0, .int .i64 0], .int .u32 0, .int .u8 0, .int .u8 0], []⟩ 8 (by kernel_rfl) (by kernel_rfl) (by kernel_rfl) (by kernel_rfl)) ?_
  intro W base args ds gs before hval0 hW hcnd _
  have hval : ∀ (j : Nat) t v, Try.f6.params[j]? = some t → args[j]? = some v → Value.okWide Try.prog W .any base t v := hval0
  have hW' := hW
  obtain ⟨p, q, hA0, hV, rfl, hfz, hnd⟩ := hW
  have hA : DataW.TrodAll enc Try.prog W 0 (fun _ => true) true Try.f6.params.toList args.toList ds p := hA0
  rw [Try.params6] at hA hval
  obtain ⟨v0, vs0, d0, ds0, p0, q0, hargs, rfl, rfl, h0, r0⟩ := trodAll_cons hA
  obtain ⟨v1, vs1, d1, ds1, p1, q1, rfl, rfl, rfl, h1, r1⟩ := trodAll_cons r0
  obtain ⟨v2, vs2, d2, ds2, p2, q2, rfl, rfl, rfl, h2, r2⟩ := trodAll_cons r1
  obtain ⟨v3, vs3, d3, ds3, p3, q3, rfl, rfl, rfl, h3, r3⟩ := trodAll_cons r2
  obtain ⟨rfl, rfl, rfl⟩ := trodAll_nil r3
  obtain rfl : args = #[v0, v1, v2, v3] := by cases args; simp_all
  obtain ⟨rfl, rfl⟩ := trodVars_none hV
  obtain ⟨p0_, rfl, hq0⟩ := open_pol Try.underlying23 rfl rfl rfl rfl rfl rfl rfl rfl Try.underlying3 Try.underlying3 Try.underlying3 Try.underlying3 (by kernel_rfl) (by kernel_rfl) (by kernel_rfl) (by kernel_rfl) (by kernel_rfl) (hval 0 23 v0 rfl rfl) h0
  obtain ⟨a1, rfl, rfl, rfl, w1⟩ := open_int Try.underlying32 (hval 1 32 v1 rfl rfl) h1
  obtain ⟨a2, rfl, rfl, rfl, w2⟩ := open_int Try.underlying5 (hval 2 5 v2 rfl rfl) h2
  obtain ⟨a3, rfl, rfl, rfl, w3⟩ := open_int Try.underlying5 (hval 3 5 v3 rfl rfl) h3
  refine (walk p0_ a1 a2 a3 W hq0 w1 w2 w3).mono fun e W' ⟨he, hg⟩ => ?_
  subst he
  exact ⟨_, rfl, law_post hW' rfl (by kernel_rfl) (by kernel_rfl) (by kernel_rfl) Try.underlying4 rfl rfl rfl hg⟩

theorem over : Rows.clocksSpacesRow.holds Try.pinned (OpenSpec.ofChange Rows.clocksSpacesSpec) :=
  OpenClaim.holds_of_wide 6 Try.f6 rfl rfl rfl rfl rfl rfl rfl ⟨rfl, rfl, rfl, rfl, rfl⟩ rfl rfl rfl rfl rfl (by kernel_rfl) Try.func6 (by kernel_rfl)
    (of_decide_eq_true (by kernel_rfl)) (by unfold Func.isWrapper; first | (rw [if_pos (by decide +kernel)]; kernel_rfl) | (rw [if_neg (by decide +kernel)]; exact ⟨rfl, rfl⟩))
    (fun os started H enc _ => lifted os started H enc)

theorem proved : Rows.ClocksSpacesSaid :=
  over
#print axioms proved

end Go.Proofs.Ytmihaigleembhaa.ClocksSpaces
