/-
  ClocksLimit: from a moment on, in a span, at most as many operations are picked by limit as the span has Wides, and Burst, and one (of up to 300 tries); it holds for every input, and the argument stays as it was. No condition.
-/
import Derived.Test.YtmihaigleembhaaClkA
import Derived.Test.YtmihaigleembhaaClkLim
import Derived.Test.YtmihaigleembhaaClkTwo
import Derived.Test.YtmihaigleembhaaQuietB
import Derived.Test.YtmihaigleembhaaU16
import Derived.Test.YtmihaigleembhaaFlags
import Derived.Test.YtmihaigleembhaaRows
import Derived.Test.YtmihaigleembhaaChecked
namespace Go.Proofs.Ytmihaigleembhaa.ClocksLimit
open Go.ChangeShapes Go.WideShapes Go.ChangeAt Go.RowKit
set_option linter.unusedVariables false

attribute [local go_sem ↓] ldPol_eq ldClk_eq
attribute [local irreducible] wpQuiet
set_option maxRecDepth 100000 in
set_option maxHeartbeats 4000000 in
theorem walkIn (q : Pol) (c : Clk) (st : Int) (A : Option Addr) (n cp : Nat) (xs : List Nat) (F : Option Addr) (m cf : Nat) (fs : List Bool) (w : World) (hq : InP q) (hr : rightP q = true) (hli : ¬ q.li = 0) (hc : tagsC c) (hs : 0 ≤ st ∧ st ≤ 4294967295)
    (hn : xs.length = n) (hle : n ≤ 300) (hA : Seen w A (u16V xs)) (hx : ∀ x ∈ xs, x < 65536) (hm : fs.length = m) (hmm : m ≤ maxLen) (hF : Seen w F (boolsV fs)) :
    Calls Try.prog 5 #[.agg #[.int .i64 q.re, .int .i64 q.we, .int .i64 q.li, .int .i64 q.bu], .agg #[.int .i64 c.r, .int .i64 c.p, .int .i64 c.l], .int .u32 st, .slice A n cp, .slice F m cf] w
      fun e w' => e = .returned (.bool true) ∧ Below w.heap.size w w' := by
  have HT := Lib.hid (Right11_any c)
  rw [(tagsB_iff c).2 hc] at HT
  have KR := Lib.hid (fun w => RRight_any q w)
  rw [hr] at KR
  have hright := Lib.hid ((rightP_iff q).1 hr)
  have Hr := Lib.hid hr
  have Hc := Lib.hid hc
  have Hq := Lib.hid hq
  have HA := Lib.hid hA; have HF := Lib.hid hF; have Hx := Lib.hid hx; have Hn := Lib.hid hn; have Hm := Lib.hid hm
  have hle' : ¬ (300 : Int) < (n : Int) := by omega
  have hz : (q.li == 0) = false := by simpa using hli
  have Hli := Lib.hid hli
  have B1 := below_two w (.cells #[.int .i64 q.re, .int .i64 q.we, .int .i64 q.li, .int .i64 q.bu] 23) (.cells #[.int .i64 c.r, .int .i64 c.p, .int .i64 c.l] 25)
  have P1 := pol_of_row (heap_two0 w (.cells #[.int .i64 q.re, .int .i64 q.we, .int .i64 q.li, .int .i64 q.bu] 23) (.cells #[.int .i64 c.r, .int .i64 c.p, .int .i64 c.l] 25)) hq
  have C1 : ClkAt _ _ c := heap_two w (.cells #[.int .i64 q.re, .int .i64 q.we, .int .i64 q.li, .int .i64 q.bu] 23) (.cells #[.int .i64 c.r, .int .i64 c.p, .int .i64 c.l] 25)
  obtain ⟨s1, s2⟩ := hs
  have hws := wrap_in st (by omega) (by omega)
  clear hq hc hr hA hF hx hn hm hli
  go_enter Try.func5, Try.ntmps5
  go_upto_region 1 with fail
  change Code.wp _ _ _ _ ((w.alloc (.cells #[.int .i64 q.re, .int .i64 q.we, .int .i64 q.li, .int .i64 q.bu] 23)).alloc (.cells #[.int .i64 c.r, .int .i64 c.p, .int .i64 c.l] 25))
  generalize (w.alloc (.cells #[.int .i64 q.re, .int .i64 q.we, .int .i64 q.li, .int .i64 q.bu] 23)).alloc (.cells #[.int .i64 c.r, .int .i64 c.p, .int .i64 c.l] 25) = w1 at B1 P1 C1 ⊢
  have hld := ldPol_run P1
  have HB1 := Lib.hid B1; have HP1 := Lib.hid P1; have HC1 := Lib.hid C1
  clear B1 P1 C1
  go_wp2_with (first
    | (go_at_call 17; refine (KR.out _).mono ?_; rintro e w2 ⟨rfl, hb2⟩; have HB2 := Lib.hid (more HB1.out hb2); have HP2 := Lib.hid (HP1.out.below hb2); have HC2 := Lib.hid (HC1.out.below hb2); have k2 := (HP1.out.below hb2).2.2.1; have hlc := ldClk_run (HC1.out.below hb2); clear hb2 hld)
    | (go_at_call 7; refine (HT.out _).mono ?_; rintro e w3 ⟨rfl, hb3⟩; have HB3 := Lib.hid (more HB2.out hb3); have HP3 := Lib.hid (HP2.out.below hb3); have HC3 := Lib.hid (HC2.out.below hb3); clear hb3 hlc k2))
  go_loopw [11, 12, 13] (fun t u i wr => ∃ k : Nat, ∃ T U : Int, ∃ d : Clk, k ≤ n ∧ t = .int .i64 T ∧ u = .int .i64 U ∧ i = .int .i64 k ∧ Below w.heap.size w wr ∧ PolAt wr w.heap.size 0 q ∧ ClkAt wr (w.heap.size + 1) d ∧ tagsC d ∧ st ≤ T ∧ T ≤ st + k * 65535 ∧ 0 ≤ U ∧ U ≤ k ∧ (1 ≤ U → st + U * wideF q.li - wideF q.li * q.bu ≤ d.l)) (fun t u i _ => n - (intOf i).toNat)
  case atStart => exact ⟨0, st, 0, c, by omega, rfl, rfl, rfl, HB3.out, HP3.out, HC3.out, Hc.out, by omega, by omega, by omega, by omega, fun h => by omega⟩
  case round =>
    obtain ⟨k, T, U, d, hk, rfl, rfl, rfl, hb, hp, hd, htd, t1, t2, u1, u2, hi⟩ := hrel
    have Hb := Lib.hid hb; have Hp := Lib.hid hp; have Hd := Lib.hid hd; have Htd := Lib.hid htd; have Hi := Lib.hid hi
    clear hb hp hd htd hi
    by_cases hlt : k < n
    · obtain ⟨g, o, x, rfl, hxk, hcell⟩ := (HA.out.below Hb.out).u16 (j := k) (by rw [Hn.out]; exact hlt)
      have hx1 : x < 65536 := Hx.out x (List.mem_of_getElem? hxk)
      clear hxk
      obtain ⟨T1, hT1⟩ : ∃ T1, T + (x : Int) = T1 := ⟨_, rfl⟩
      have b0 : (0 : Int) ≤ (k : Int) := by omega
      have b1 : (k : Int) < (n : Int) := by omega
      have CL := Lib.hid (ByLimit_any q d T1 wr Hq.out)
      have HLd := Lib.hid (fun (w' : World) (hb : Below wr.heap.size wr w') => And.intro (ldPol_run (Hp.out.below hb)) (ldClk_run (Hd.out.below hb)))
      have ld0 := (HLd.out wr (Below.refl _ _)).1
      have ld1 := (HLd.out wr (Below.refl _ _)).2
      by_cases hgo : byLimitF q d T1 = true
      · rw [hgo] at CL
        have hdl : d.l ≤ T1 := by
          unfold byLimitF at hgo
          rw [Hr.out] at hgo
          have := Hli.out
          simpa [this] using hgo
        obtain ⟨st1, st2⟩ := limit_step (l := d.l) (now := T1) (st := st) (n := U) (w := wideF q.li) (b := q.bu) (by have h := hright.out; have := wideF_bd (a := q.li) (by have := Hli.out; omega) h.2.2.1.2; omega) hright.out.2.2.2.1.1 u1 (by omega) s1 hdl Hi.out
        have S1 := Lib.hid st1
        clear hgo st1
        have wb := wideF_bd (a := q.li) (by have h := hright.out; have := Hli.out; omega) hright.out.2.2.1.2
        have KW := Lib.hid (fun W => refWide_any q.li W)
        have hbu := hright.out.2.2.2.1
        obtain ⟨wd, hwd⟩ : ∃ x, wideF q.li = x := ⟨_, rfl⟩
        rw [hwd] at KW wb st2
        have Hwd := Lib.hid hwd; clear hwd
        have hw0 : ¬ wd = 0 := by omega
        have hsub := wrap_in (T1 - st) (by omega) (by omega)
        obtain ⟨sp, hsp⟩ : ∃ x, T1 - st = x := ⟨_, rfl⟩
        rw [hsp] at hsub st2
        have hdv : Int.tdiv sp wd = sp / wd := Int.tdiv_eq_ediv_of_nonneg (by omega)
        have hq0 : 0 ≤ sp / wd := Int.ediv_nonneg (by omega) (by omega)
        have hq1 : sp / wd ≤ sp := Int.ediv_le_self _ (by omega)
        obtain ⟨qu, hqu⟩ : ∃ x, sp / wd = x := ⟨_, rfl⟩
        rw [hqu] at hdv st2 hq0 hq1
        have hwq := wrap_in qu (by omega) (by omega)
        have hwa := wrap_in (qu + q.bu) (by omega) (by omega)
        have hwb := wrap_in (qu + q.bu + 1) (by omega) (by omega)
        have hno : ¬ qu + q.bu + 1 < U + 1 := by omega
        clear hqu
        by_cases hfk : k < m
        · obtain ⟨gf, of, fb, rfl, _, hfc⟩ := (HF.out.below Hb.out).flag (j := k) (by rw [Hm.out]; exact hfk)
          have b2 : (k : Int) < (m : Int) := by omega
          cases fb
          · go_upto_region 13 with (go_at_call 11; refine CL.out.mono ?_; rintro e w4 ⟨rfl, hb4⟩; have Hb4 := Lib.hid hb4; have ld2 := (HLd.out w4 hb4).1; have ld3 := (HLd.out w4 hb4).2; clear hb4 ld0 ld1)
            have KC := Charge_any q d T1 2 0 0 w4 Hq.out (tagsC_in Htd.out) (by unfold inI; omega) (by unfold inI; omega) (by unfold inI; omega)
            have EL := charge_l (ph := 2) Hr.out Hli.out Htd.out (by omega) (by omega) hdl (by omega)
            have ET := charge_tags (q := q) (now := T1) (ph := 2) (de := 0) (rh := 0) Htd.out
            generalize chargeF q d T1 2 0 0 = d2 at KC EL ET
            have HI2 : Hid (1 ≤ U + 1 → st + (U + 1) * wideF q.li - wideF q.li * q.bu ≤ d2.l) := Lib.hid (fun _ => by rw [EL]; exact S1.out)
            obtain ⟨da, db, dc⟩ := d2
            simp only at KC
            have KC2 := Lib.hid KC; have ET2 := Lib.hid ET
            clear KC EL ET
            go_upto_region 14 with (first
              | (go_at_call 15; refine KC2.out.mono ?_; rintro e w5 ⟨rfl, hb5⟩; have Hb5 := Lib.hid (Hb4.out.trans (hb5.mono Hb4.out.size)); have HD5 := Lib.hid (Hd.out.below Hb5.out); clear hb5 ld2 ld3)
              | (refine wpList_store_row rfl 25 (.tmp 6) (.tmp 68) rfl (w.heap.size + 1) #[.int .i64 da, .int .i64 db, .int .i64 dc] rfl rfl 25 _ HD5.out clk_info rfl (by simp [Value.oneCell']) ?_))
            have HB6 := Lib.hid (more_set (more Hb.out Hb5.out) (show w.heap.size ≤ w.heap.size + 1 by omega) #[.int .i64 da, .int .i64 db, .int .i64 dc])
            have HP6 := Lib.hid (pol_setRow (k := w.heap.size + 1) (Hp.out.below Hb5.out) (by omega) #[.int .i64 da, .int .i64 db, .int .i64 dc])
            have HC6 := Lib.hid (setRow_clk ⟨d, HD5.out⟩ da db dc)
            change Code.wp _ _ _ _ (w5.setRow (w.heap.size + 1) #[.int .i64 da, .int .i64 db, .int .i64 dc])
            generalize w5.setRow (w.heap.size + 1) #[.int .i64 da, .int .i64 db, .int .i64 dc] = w6 at HB6 HP6 HC6 ⊢
            clear hcell
            go_upto_region 15 with fail
            have k2 : ∀ p : BelowOf w6, _ := fun p => (HP6.out.below p.h).2.2.1
            have k3 : ∀ p : BelowOf w6, _ := fun p => (HP6.out.below p.h).2.2.2.1
            have KW2 := Lib.hid (fun W => Calls.asBelow (KW.out W))
            refine wp_region_quiet_below (by kernel_rfl) (by kernel_rfl) ?_
            repeat (quiet_step (fail))
            quiet_step (exact Calls.below_of (KW2.out _))
            repeat (quiet_step (fail))
            refine wpQuiet_nil ?_
            rintro _ ⟨⟨w7, hb7⟩, rfl⟩
            have Hb7 := Lib.hid hb7
            clear hb7 k2 k3
            go_wp2
            go_roundw
            case rel => exact ⟨k + 1, T1, U + 1, ⟨da, db, dc⟩, by omega, rfl, rfl, by go_num, more HB6.out Hb7.out, HP6.out.below Hb7.out, HC6.out.below Hb7.out, ET2.out, by omega, by omega, by omega, by omega, HI2.out⟩
            case measure => simp [intOf]; omega
          · go_upto_region 13 with (go_at_call 11; refine CL.out.mono ?_; rintro e w4 ⟨rfl, hb4⟩; have Hb4 := Lib.hid hb4; have ld2 := (HLd.out w4 hb4).1; have ld3 := (HLd.out w4 hb4).2; clear hb4 ld0 ld1)
            have KC := Charge_any q d T1 1 0 0 w4 Hq.out (tagsC_in Htd.out) (by unfold inI; omega) (by unfold inI; omega) (by unfold inI; omega)
            have EL := charge_l (ph := 1) Hr.out Hli.out Htd.out (by omega) (by omega) hdl (by omega)
            have ET := charge_tags (q := q) (now := T1) (ph := 1) (de := 0) (rh := 0) Htd.out
            generalize chargeF q d T1 1 0 0 = d2 at KC EL ET
            have HI2 : Hid (1 ≤ U + 1 → st + (U + 1) * wideF q.li - wideF q.li * q.bu ≤ d2.l) := Lib.hid (fun _ => by rw [EL]; exact S1.out)
            obtain ⟨da, db, dc⟩ := d2
            simp only at KC
            have KC2 := Lib.hid KC; have ET2 := Lib.hid ET
            clear KC EL ET
            go_upto_region 14 with (first
              | (go_at_call 15; refine KC2.out.mono ?_; rintro e w5 ⟨rfl, hb5⟩; have Hb5 := Lib.hid (Hb4.out.trans (hb5.mono Hb4.out.size)); have HD5 := Lib.hid (Hd.out.below Hb5.out); clear hb5 ld2 ld3)
              | (refine wpList_store_row rfl 25 (.tmp 6) (.tmp 68) rfl (w.heap.size + 1) #[.int .i64 da, .int .i64 db, .int .i64 dc] rfl rfl 25 _ HD5.out clk_info rfl (by simp [Value.oneCell']) ?_))
            have HB6 := Lib.hid (more_set (more Hb.out Hb5.out) (show w.heap.size ≤ w.heap.size + 1 by omega) #[.int .i64 da, .int .i64 db, .int .i64 dc])
            have HP6 := Lib.hid (pol_setRow (k := w.heap.size + 1) (Hp.out.below Hb5.out) (by omega) #[.int .i64 da, .int .i64 db, .int .i64 dc])
            have HC6 := Lib.hid (setRow_clk ⟨d, HD5.out⟩ da db dc)
            change Code.wp _ _ _ _ (w5.setRow (w.heap.size + 1) #[.int .i64 da, .int .i64 db, .int .i64 dc])
            generalize w5.setRow (w.heap.size + 1) #[.int .i64 da, .int .i64 db, .int .i64 dc] = w6 at HB6 HP6 HC6 ⊢
            clear hcell
            go_upto_region 15 with fail
            have k2 : ∀ p : BelowOf w6, _ := fun p => (HP6.out.below p.h).2.2.1
            have k3 : ∀ p : BelowOf w6, _ := fun p => (HP6.out.below p.h).2.2.2.1
            have KW2 := Lib.hid (fun W => Calls.asBelow (KW.out W))
            refine wp_region_quiet_below (by kernel_rfl) (by kernel_rfl) ?_
            repeat (quiet_step (fail))
            quiet_step (exact Calls.below_of (KW2.out _))
            repeat (quiet_step (fail))
            refine wpQuiet_nil ?_
            rintro _ ⟨⟨w7, hb7⟩, rfl⟩
            have Hb7 := Lib.hid hb7
            clear hb7 k2 k3
            go_wp2
            go_roundw
            case rel => exact ⟨k + 1, T1, U + 1, ⟨da, db, dc⟩, by omega, rfl, rfl, by go_num, more HB6.out Hb7.out, HP6.out.below Hb7.out, HC6.out.below Hb7.out, ET2.out, by omega, by omega, by omega, by omega, HI2.out⟩
            case measure => simp [intOf]; omega
        · have b2 : ¬ (k : Int) < (m : Int) := by omega
          go_upto_region 13 with (go_at_call 11; refine CL.out.mono ?_; rintro e w4 ⟨rfl, hb4⟩; have Hb4 := Lib.hid hb4; have ld2 := (HLd.out w4 hb4).1; have ld3 := (HLd.out w4 hb4).2; clear hb4 ld0 ld1)
          have KC := Charge_any q d T1 2 0 0 w4 Hq.out (tagsC_in Htd.out) (by unfold inI; omega) (by unfold inI; omega) (by unfold inI; omega)
          have EL := charge_l (ph := 2) Hr.out Hli.out Htd.out (by omega) (by omega) hdl (by omega)
          have ET := charge_tags (q := q) (now := T1) (ph := 2) (de := 0) (rh := 0) Htd.out
          generalize chargeF q d T1 2 0 0 = d2 at KC EL ET
          have HI2 : Hid (1 ≤ U + 1 → st + (U + 1) * wideF q.li - wideF q.li * q.bu ≤ d2.l) := Lib.hid (fun _ => by rw [EL]; exact S1.out)
          obtain ⟨da, db, dc⟩ := d2
          simp only at KC
          have KC2 := Lib.hid KC; have ET2 := Lib.hid ET
          clear KC EL ET
          go_upto_region 14 with (first
            | (go_at_call 15; refine KC2.out.mono ?_; rintro e w5 ⟨rfl, hb5⟩; have Hb5 := Lib.hid (Hb4.out.trans (hb5.mono Hb4.out.size)); have HD5 := Lib.hid (Hd.out.below Hb5.out); clear hb5 ld2 ld3)
            | (refine wpList_store_row rfl 25 (.tmp 6) (.tmp 68) rfl (w.heap.size + 1) #[.int .i64 da, .int .i64 db, .int .i64 dc] rfl rfl 25 _ HD5.out clk_info rfl (by simp [Value.oneCell']) ?_))
          have HB6 := Lib.hid (more_set (more Hb.out Hb5.out) (show w.heap.size ≤ w.heap.size + 1 by omega) #[.int .i64 da, .int .i64 db, .int .i64 dc])
          have HP6 := Lib.hid (pol_setRow (k := w.heap.size + 1) (Hp.out.below Hb5.out) (by omega) #[.int .i64 da, .int .i64 db, .int .i64 dc])
          have HC6 := Lib.hid (setRow_clk ⟨d, HD5.out⟩ da db dc)
          change Code.wp _ _ _ _ (w5.setRow (w.heap.size + 1) #[.int .i64 da, .int .i64 db, .int .i64 dc])
          generalize w5.setRow (w.heap.size + 1) #[.int .i64 da, .int .i64 db, .int .i64 dc] = w6 at HB6 HP6 HC6 ⊢
          clear hcell
          go_upto_region 15 with fail
          have k2 : ∀ p : BelowOf w6, _ := fun p => (HP6.out.below p.h).2.2.1
          have k3 : ∀ p : BelowOf w6, _ := fun p => (HP6.out.below p.h).2.2.2.1
          have KW2 := Lib.hid (fun W => Calls.asBelow (KW.out W))
          refine wp_region_quiet_below (by kernel_rfl) (by kernel_rfl) ?_
          repeat (quiet_step (fail))
          quiet_step (exact Calls.below_of (KW2.out _))
          repeat (quiet_step (fail))
          refine wpQuiet_nil ?_
          rintro _ ⟨⟨w7, hb7⟩, rfl⟩
          have Hb7 := Lib.hid hb7
          clear hb7 k2 k3
          go_wp2
          go_roundw
          case rel => exact ⟨k + 1, T1, U + 1, ⟨da, db, dc⟩, by omega, rfl, rfl, by go_num, more HB6.out Hb7.out, HP6.out.below Hb7.out, HC6.out.below Hb7.out, ET2.out, by omega, by omega, by omega, by omega, HI2.out⟩
          case measure => simp [intOf]; omega
      · rw [show byLimitF q d T1 = false by simpa using hgo] at CL
        clear hgo
        by_cases hfk : k < m
        · obtain ⟨gf, of, fb, rfl, _, hfc⟩ := (HF.out.below Hb.out).flag (j := k) (by rw [Hm.out]; exact hfk)
          have b2 : (k : Int) < (m : Int) := by omega
          cases fb
          · go_wp2_with (go_at_call 11; refine CL.out.mono ?_; rintro e w4 ⟨rfl, hb4⟩; have Hb4 := Lib.hid hb4; have ld2 := (HLd.out w4 hb4).1; have ld3 := (HLd.out w4 hb4).2; clear hb4 ld0 ld1)
            go_roundw
            case rel => exact ⟨k + 1, T1, U, d, by omega, rfl, rfl, by go_num, more Hb.out Hb4.out, Hp.out.below Hb4.out, Hd.out.below Hb4.out, Htd.out, by omega, by omega, by omega, by omega, Hi.out⟩
            case measure => simp [intOf]; omega
          · go_wp2_with (go_at_call 11; refine CL.out.mono ?_; rintro e w4 ⟨rfl, hb4⟩; have Hb4 := Lib.hid hb4; have ld2 := (HLd.out w4 hb4).1; have ld3 := (HLd.out w4 hb4).2; clear hb4 ld0 ld1)
            go_roundw
            case rel => exact ⟨k + 1, T1, U, d, by omega, rfl, rfl, by go_num, more Hb.out Hb4.out, Hp.out.below Hb4.out, Hd.out.below Hb4.out, Htd.out, by omega, by omega, by omega, by omega, Hi.out⟩
            case measure => simp [intOf]; omega
        · have b2 : ¬ (k : Int) < (m : Int) := by omega
          go_wp2_with (go_at_call 11; refine CL.out.mono ?_; rintro e w4 ⟨rfl, hb4⟩; have Hb4 := Lib.hid hb4; have ld2 := (HLd.out w4 hb4).1; have ld3 := (HLd.out w4 hb4).2; clear hb4 ld0 ld1)
          go_roundw
          case rel => exact ⟨k + 1, T1, U, d, by omega, rfl, rfl, by go_num, more Hb.out Hb4.out, Hp.out.below Hb4.out, Hd.out.below Hb4.out, Htd.out, by omega, by omega, by omega, by omega, Hi.out⟩
          case measure => simp [intOf]; omega
    · have hkn : k = n := by omega
      subst hkn
      go_wp2_with (go_at_call 8; refine (awake_any _).mono ?_; rintro e w6 ⟨rfl, hb6⟩; have HB6 := Lib.hid (more Hb.out hb6); clear hb6)
      go_ret
      exact ⟨rfl, HB6.out⟩

set_option maxRecDepth 100000 in
set_option maxHeartbeats 2000000 in
theorem walk (q : Pol) (c : Clk) (st : Int) (A : Option Addr) (n cp : Nat) (xs : List Nat) (F : Option Addr) (m cf : Nat) (fs : List Bool) (w : World) (hq : InP q) (hk : InC c) (hs : (Lit.int .u32 st).wf = true)
    (hn : xs.length = n) (hnc : n ≤ cp) (hcm : cp ≤ maxLen) (hA : Seen w A (u16V xs)) (hx : ∀ x ∈ xs, x < 65536) (hm : fs.length = m) (hmc : m ≤ cf) (hfm : cf ≤ maxLen) (hF : Seen w F (boolsV fs)) :
    Calls Try.prog 5 #[.agg #[.int .i64 q.re, .int .i64 q.we, .int .i64 q.li, .int .i64 q.bu], .agg #[.int .i64 c.r, .int .i64 c.p, .int .i64 c.l], .int .u32 st, .slice A n cp, .slice F m cf] w
      fun e w' => e = .returned (.bool true) ∧ Below w.heap.size w w' := by
  have hs' : 0 ≤ st ∧ st ≤ 4294967295 := by
    simp [Lit.wf, IntKind.min, IntKind.max, IntKind.bits, IntKind.signed] at hs
    omega
  clear hs
  have KR := Lib.hid (fun w => RRight_any q w)
  have HT := Lib.hid (Right11_any c)
  have B1 := below_two w (.cells #[.int .i64 q.re, .int .i64 q.we, .int .i64 q.li, .int .i64 q.bu] 23) (.cells #[.int .i64 c.r, .int .i64 c.p, .int .i64 c.l] 25)
  have P1 := pol_of_row (heap_two0 w (.cells #[.int .i64 q.re, .int .i64 q.we, .int .i64 q.li, .int .i64 q.bu] 23) (.cells #[.int .i64 c.r, .int .i64 c.p, .int .i64 c.l] 25)) hq
  have C1 : ClkAt _ _ c := heap_two w (.cells #[.int .i64 q.re, .int .i64 q.we, .int .i64 q.li, .int .i64 q.bu] 23) (.cells #[.int .i64 c.r, .int .i64 c.p, .int .i64 c.l] 25)
  by_cases h1 : (300 : Int) < (n : Int)
  case pos =>
    clear hA hF hn hnc hcm hx hm hmc hfm
    go_enter Try.func5, Try.ntmps5
    go_upto_region 1 with fail
    change Code.wp _ _ _ _ ((w.alloc (.cells #[.int .i64 q.re, .int .i64 q.we, .int .i64 q.li, .int .i64 q.bu] 23)).alloc (.cells #[.int .i64 c.r, .int .i64 c.p, .int .i64 c.l] 25))
    generalize (w.alloc (.cells #[.int .i64 q.re, .int .i64 q.we, .int .i64 q.li, .int .i64 q.bu] 23)).alloc (.cells #[.int .i64 c.r, .int .i64 c.p, .int .i64 c.l] 25) = w1 at B1 P1 C1 ⊢
    have hld := ldPol_run P1
    have HB1 := Lib.hid B1; have HP1 := Lib.hid P1; have HC1 := Lib.hid C1
    clear B1 P1 C1
    go_wp2_with (first
      | (go_at_call 17; refine (KR.out _).mono ?_; rintro e w2 ⟨rfl, hb2⟩; have HB2 := Lib.hid (more HB1.out hb2); have k2 := (HP1.out.below hb2).2.2.1; have hlc := ldClk_run (HC1.out.below hb2); clear hb2 hld)
      | (go_at_call 7; refine (HT.out _).mono ?_; rintro e w3 ⟨rfl, hb3⟩; have HB3 := Lib.hid (more HB2.out hb3); clear hb3 hlc k2)
      | (go_at_call 8; refine (awake_any _).mono ?_; rintro e w6 ⟨rfl, hb6⟩; have HB6 := Lib.hid (more HB1.out hb6); clear hb6))
    go_ret
    exact ⟨rfl, HB6.out⟩
  obtain ⟨b, hb⟩ : ∃ b, rightP q = b := ⟨_, rfl⟩
  rw [hb] at KR
  cases b
  case false =>
    clear hA hF hn hnc hcm hx hm hmc hfm hb
    go_enter Try.func5, Try.ntmps5
    go_upto_region 1 with fail
    change Code.wp _ _ _ _ ((w.alloc (.cells #[.int .i64 q.re, .int .i64 q.we, .int .i64 q.li, .int .i64 q.bu] 23)).alloc (.cells #[.int .i64 c.r, .int .i64 c.p, .int .i64 c.l] 25))
    generalize (w.alloc (.cells #[.int .i64 q.re, .int .i64 q.we, .int .i64 q.li, .int .i64 q.bu] 23)).alloc (.cells #[.int .i64 c.r, .int .i64 c.p, .int .i64 c.l] 25) = w1 at B1 P1 C1 ⊢
    have hld := ldPol_run P1
    have HB1 := Lib.hid B1; have HP1 := Lib.hid P1; have HC1 := Lib.hid C1
    clear B1 P1 C1
    go_wp2_with (first
      | (go_at_call 17; refine (KR.out _).mono ?_; rintro e w2 ⟨rfl, hb2⟩; have HB2 := Lib.hid (more HB1.out hb2); have k2 := (HP1.out.below hb2).2.2.1; have hlc := ldClk_run (HC1.out.below hb2); clear hb2 hld)
      | (go_at_call 7; refine (HT.out _).mono ?_; rintro e w3 ⟨rfl, hb3⟩; have HB3 := Lib.hid (more HB2.out hb3); clear hb3 hlc k2)
      | (go_at_call 8; refine (awake_any _).mono ?_; rintro e w6 ⟨rfl, hb6⟩; have HB6 := Lib.hid (more HB2.out hb6); clear hb6))
    go_ret
    exact ⟨rfl, HB6.out⟩
  by_cases h2 : q.li = 0
  case pos =>
    have hz : (q.li == 0) = true := by simpa using h2
    clear hA hF hn hnc hcm hx hm hmc hfm hb h2
    go_enter Try.func5, Try.ntmps5
    go_upto_region 1 with fail
    change Code.wp _ _ _ _ ((w.alloc (.cells #[.int .i64 q.re, .int .i64 q.we, .int .i64 q.li, .int .i64 q.bu] 23)).alloc (.cells #[.int .i64 c.r, .int .i64 c.p, .int .i64 c.l] 25))
    generalize (w.alloc (.cells #[.int .i64 q.re, .int .i64 q.we, .int .i64 q.li, .int .i64 q.bu] 23)).alloc (.cells #[.int .i64 c.r, .int .i64 c.p, .int .i64 c.l] 25) = w1 at B1 P1 C1 ⊢
    have hld := ldPol_run P1
    have HB1 := Lib.hid B1; have HP1 := Lib.hid P1; have HC1 := Lib.hid C1
    clear B1 P1 C1
    go_wp2_with (first
      | (go_at_call 17; refine (KR.out _).mono ?_; rintro e w2 ⟨rfl, hb2⟩; have HB2 := Lib.hid (more HB1.out hb2); have k2 := (HP1.out.below hb2).2.2.1; have hlc := ldClk_run (HC1.out.below hb2); clear hb2 hld)
      | (go_at_call 7; refine (HT.out _).mono ?_; rintro e w3 ⟨rfl, hb3⟩; have HB3 := Lib.hid (more HB2.out hb3); clear hb3 hlc k2)
      | (go_at_call 8; refine (awake_any _).mono ?_; rintro e w6 ⟨rfl, hb6⟩; have HB6 := Lib.hid (more HB2.out hb6); clear hb6))
    go_ret
    exact ⟨rfl, HB6.out⟩
  have hz : (q.li == 0) = false := by simpa using h2
  obtain ⟨b, hbt⟩ : ∃ b, tagsB c = b := ⟨_, rfl⟩
  rw [hbt] at HT
  cases b
  case false =>
    clear hA hF hn hnc hcm hx hm hmc hfm hb h2 hbt
    go_enter Try.func5, Try.ntmps5
    go_upto_region 1 with fail
    change Code.wp _ _ _ _ ((w.alloc (.cells #[.int .i64 q.re, .int .i64 q.we, .int .i64 q.li, .int .i64 q.bu] 23)).alloc (.cells #[.int .i64 c.r, .int .i64 c.p, .int .i64 c.l] 25))
    generalize (w.alloc (.cells #[.int .i64 q.re, .int .i64 q.we, .int .i64 q.li, .int .i64 q.bu] 23)).alloc (.cells #[.int .i64 c.r, .int .i64 c.p, .int .i64 c.l] 25) = w1 at B1 P1 C1 ⊢
    have hld := ldPol_run P1
    have HB1 := Lib.hid B1; have HP1 := Lib.hid P1; have HC1 := Lib.hid C1
    clear B1 P1 C1
    go_wp2_with (first
      | (go_at_call 17; refine (KR.out _).mono ?_; rintro e w2 ⟨rfl, hb2⟩; have HB2 := Lib.hid (more HB1.out hb2); have k2 := (HP1.out.below hb2).2.2.1; have hlc := ldClk_run (HC1.out.below hb2); clear hb2 hld)
      | (go_at_call 7; refine (HT.out _).mono ?_; rintro e w3 ⟨rfl, hb3⟩; have HB3 := Lib.hid (more HB2.out hb3); clear hb3 hlc k2)
      | (go_at_call 8; refine (awake_any _).mono ?_; rintro e w6 ⟨rfl, hb6⟩; have HB6 := Lib.hid (more HB3.out hb6); clear hb6))
    go_ret
    exact ⟨rfl, HB6.out⟩
  exact walkIn q c st A n cp xs F m cf fs w hq hb h2 ((tagsB_iff c).1 hbt) hs' hn (by omega) hA hx hm (by omega) hF

/-! ### THE ROW -/
theorem own : ownKnob Try.prog.godebug = none := by kernel_rfl

set_option maxRecDepth 100000 in
theorem lifted (os : Os) (started : os.Started) (H : Type) (enc : TypeId × Value → H) :
    ReturnsInHanded {} Try.checked os 5 .any (Rows.clocksLimitSpec.pre6 enc Try.prog Try.f5 Rows.clocksLimitRow.domain false) (Rows.clocksLimitSpec.post enc Try.prog Try.f5 false true false false) := by
  refine returnsInHanded_of_change (C := Try.checked) own started (by kernel_rfl) Try.func5
    (ChangeSpec.witness6 (enc := enc) (C := Try.checked) false ⟨#[], #[.agg #[.int .i64 0, .int .i64 0, .int .i64 0, .int .i64 0], .agg #[.int .i64 0, .int .i64 0, .int .i64 0], .int .u32 0, .slice none 0 0, .slice none 0 0], []⟩ 8 (by kernel_rfl) (by kernel_rfl) (by kernel_rfl) (by kernel_rfl)) ?_
  intro W base args ds gs before hval0 hW hcnd _
  have hval : ∀ (j : Nat) t v, Try.f5.params[j]? = some t → args[j]? = some v → Value.okWide Try.prog W .any base t v := hval0
  have hW' := hW
  obtain ⟨p, q, hA0, hV, rfl, hfz, hnd⟩ := hW
  have hA : DataW.TrodAll enc Try.prog W 0 (fun _ => true) true Try.f5.params.toList args.toList ds p := hA0
  rw [Try.params5] at hA hval
  obtain ⟨v0, vs0, d0, ds0, p0, q0, hargs, rfl, rfl, h0, r0⟩ := trodAll_cons hA
  obtain ⟨v1, vs1, d1, ds1, p1, q1, rfl, rfl, rfl, h1, r1⟩ := trodAll_cons r0
  obtain ⟨v2, vs2, d2, ds2, p2, q2, rfl, rfl, rfl, h2, r2⟩ := trodAll_cons r1
  obtain ⟨v3, vs3, d3, ds3, p3, q3, rfl, rfl, rfl, h3, r3⟩ := trodAll_cons r2
  obtain ⟨v4, vs4, d4, ds4, p4, q4, rfl, rfl, rfl, h4, r4⟩ := trodAll_cons r3
  obtain ⟨rfl, rfl, rfl⟩ := trodAll_nil r4
  obtain rfl : args = #[v0, v1, v2, v3, v4] := by cases args; simp_all
  obtain ⟨rfl, rfl⟩ := trodVars_none hV
  obtain ⟨p0_, rfl, hq0⟩ := open_pol Try.underlying23 rfl rfl rfl rfl rfl rfl rfl rfl Try.underlying3 Try.underlying3 Try.underlying3 Try.underlying3 (by kernel_rfl) (by kernel_rfl) (by kernel_rfl) (by kernel_rfl) (by kernel_rfl) (hval 0 23 v0 rfl rfl) h0
  obtain ⟨c1_, rfl, hk1⟩ := open_clk Try.underlying25 rfl rfl rfl rfl rfl rfl Try.underlying3 Try.underlying3 Try.underlying3 (by kernel_rfl) (by kernel_rfl) (by kernel_rfl) (by kernel_rfl) (hval 1 25 v1 rfl rfl) h1
  obtain ⟨a2, rfl, rfl, rfl, w2⟩ := open_int Try.underlying32 (hval 2 32 v2 rfl rfl) h2
  obtain ⟨A3, n3, c3, us3, rfl, hn3, hnc3, hcm3, hs3, hu3⟩ := open_u16s Try.underlying33 Try.underlying36 (by kernel_rfl) (hval 3 33 v3 rfl rfl) h3
  obtain ⟨A4, n4, c4, fs4, rfl, hn4, hnc4, hcm4, hf4⟩ := open_flags Try.underlying34 Try.underlying4 (by kernel_rfl) (hval 4 34 v4 rfl rfl) h4
  refine (walk p0_ c1_ a2 A3 n3 c3 us3 A4 n4 c4 fs4 W hq0 hk1 w2 hn3 hnc3 hcm3 hs3 hu3 hn4 hnc4 hcm4 hf4).mono fun e W' ⟨he, hg⟩ => ?_
  subst he
  exact ⟨_, rfl, law_post hW' rfl (by kernel_rfl) (by kernel_rfl) (by kernel_rfl) Try.underlying4 rfl rfl rfl hg⟩

theorem over : Rows.clocksLimitRow.holds Try.pinned (OpenSpec.ofChange Rows.clocksLimitSpec) :=
  OpenClaim.holds_of_wide 5 Try.f5 rfl rfl rfl rfl rfl rfl rfl ⟨rfl, rfl, rfl, rfl, rfl⟩ rfl rfl rfl rfl rfl (by kernel_rfl) Try.func5 (by kernel_rfl)
    (of_decide_eq_true (by kernel_rfl)) (by unfold Func.isWrapper; first | (rw [if_pos (by decide +kernel)]; kernel_rfl) | (rw [if_neg (by decide +kernel)]; exact ⟨rfl, rfl⟩))
    (fun os started H enc _ => lifted os started H enc)

theorem proved : Rows.ClocksLimitSaid :=
  over
#print axioms proved

end Go.Proofs.Ytmihaigleembhaa.ClocksLimit
