/-
  SchedVersions: applied versions never fall; an older one is refused, and changes nothing (of 60 versions); it holds for every input, and the argument stays as it was. No condition.
-/
import Derived.Test.YtbfjakchgmdldaaSchVrs
import Derived.Test.YtbfjakchgmdldaaRows
import Derived.Test.YtbfjakchgmdldaaChecked
namespace Go.Proofs.Ytbfjakchgmdldaa.SchedVersions
open Go.ChangeShapes Go.WideShapes Go.ChangeAt Go.RowKit
set_option linter.unusedVariables false

attribute [local go_sem ↓] ldPol_eq
set_option maxRecDepth 100000 in
set_option maxHeartbeats 4000000 in
theorem walk (A : Option Addr) (n cap : Nat) (xs : List Int) (p q : Pol) (w : World) (hn : xs.length = n) (hnc : n ≤ cap) (hcm : cap ≤ maxLen) (hs : Seen w A (numsV xs)) (hu : ∀ x ∈ xs, In64 x) (hp : InP p) (hq : InP q) :
    Calls Try.prog 5 #[.slice A n cap, .agg #[.int .i64 p.re, .int .i64 p.we, .int .i64 p.li, .int .i64 p.bu], .agg #[.int .i64 q.re, .int .i64 q.we, .int .i64 q.li, .int .i64 q.bu]] w fun e w' => e = .returned (.bool true) ∧ Below w.heap.size w w' := by
  by_cases hin : n ≤ 60 ∧ rightP p = true ∧ rightP q = true
  · exact walkIn A n cap xs p q w hn hs hu hin.1 hp hq hin.2.1 hin.2.2
  have B1 := below_two w (.cells #[.int .i64 p.re, .int .i64 p.we, .int .i64 p.li, .int .i64 p.bu] 29) (.cells #[.int .i64 q.re, .int .i64 q.we, .int .i64 q.li, .int .i64 q.bu] 29)
  have X1 := heap_two0 w (.cells #[.int .i64 p.re, .int .i64 p.we, .int .i64 p.li, .int .i64 p.bu] 29) (.cells #[.int .i64 q.re, .int .i64 q.we, .int .i64 q.li, .int .i64 q.bu] 29)
  have Y1 := heap_two w (.cells #[.int .i64 p.re, .int .i64 p.we, .int .i64 p.li, .int .i64 p.bu] 29) (.cells #[.int .i64 q.re, .int .i64 q.we, .int .i64 q.li, .int .i64 q.bu] 29)
  have KP := Lib.hid (fun W => RRight_any p W)
  have KQ := Lib.hid (fun W => RRight_any q W)
  obtain ⟨bp, hbp⟩ : ∃ b, rightP p = b := ⟨_, rfl⟩
  obtain ⟨bq, hbq⟩ : ∃ b, rightP q = b := ⟨_, rfl⟩
  rw [hbp] at KP hin
  rw [hbq] at KQ hin
  have Hp := Lib.hid hp; have Hq := Lib.hid hq
  clear hs hu hn hp hq hbp hbq hnc hcm
  go_enter Try.func5, Try.ntmps5
  go_upto_region 1 with fail
  change Code.wp _ _ _ _ ((w.alloc (.cells #[.int .i64 p.re, .int .i64 p.we, .int .i64 p.li, .int .i64 p.bu] 29)).alloc (.cells #[.int .i64 q.re, .int .i64 q.we, .int .i64 q.li, .int .i64 q.bu] 29))
  generalize (w.alloc (.cells #[.int .i64 p.re, .int .i64 p.we, .int .i64 p.li, .int .i64 p.bu] 29)).alloc (.cells #[.int .i64 q.re, .int .i64 q.we, .int .i64 q.li, .int .i64 q.bu] 29) = w1 at B1 X1 Y1 ⊢
  have hld := ldPol_run (pol_of_row X1 Hp.out)
  have HB1 := Lib.hid B1; have HY1 := Lib.hid Y1
  clear B1 X1 Y1
  by_cases h60 : (60 : Int) < (n : Int)
  · clear hin
    go_wp2_with (go_at_call 8; refine (awake_any w1).mono ?_; rintro e w4 ⟨rfl, hb4⟩; have B4 := Lib.hid (HB1.out.trans (hb4.mono HB1.out.size)); clear hb4)
    go_ret
    exact ⟨rfl, B4.out⟩
  · have hle : n ≤ 60 := by omega
    cases bp with
    | false =>
      clear hin hle
      go_wp2_with (first
        | (go_at_call 8; refine (awake_any w2).mono ?_; rintro e w4 ⟨rfl, hb4⟩; have B4 := Lib.hid (HB2.out.trans (hb4.mono HB2.out.size)); clear hb4)
        | (go_at_call 10; refine (KP.out w1).mono ?_; rintro e w2 ⟨rfl, hb2⟩; have HB2 := Lib.hid (HB1.out.trans (hb2.mono HB1.out.size)); clear hb2 hld))
      go_ret
      exact ⟨rfl, B4.out⟩
    | true =>
      cases bq with
      | true => exact absurd ⟨hle, rfl, rfl⟩ hin
      | false =>
        clear hin hle
        go_wp2_with (first
          | (go_at_call 8; refine (awake_any w3).mono ?_; rintro e w4 ⟨rfl, hb4⟩; have B4 := Lib.hid (HB3.out.trans (hb4.mono HB3.out.size)); clear hb4)
          | (go_at_call 10; refine (KQ.out w2).mono ?_; rintro e w3 ⟨rfl, hb3⟩; have HB3 := Lib.hid (HB2.out.trans (hb3.mono HB2.out.size)); clear hb3 hld2)
          | (go_at_call 10; refine (KP.out w1).mono ?_; rintro e w2 ⟨rfl, hb2⟩; have HB2 := Lib.hid (HB1.out.trans (hb2.mono HB1.out.size)); have hld2 := ldPol_run (pol_of_row (row_keep HY1.out hb2) Hq.out); clear hb2 hld))
        go_ret
        exact ⟨rfl, B4.out⟩

/-! ### THE ROW -/
theorem own : ownKnob Try.prog.godebug = none := by kernel_rfl

set_option maxRecDepth 100000 in
theorem lifted (os : Os) (started : os.Started) (H : Type) (enc : TypeId × Value → H) :
    ReturnsInHanded {} Try.checked os 5 .any (Rows.schedVersionsSpec.pre6 enc Try.prog Try.f5 Rows.schedVersionsRow.domain false) (Rows.schedVersionsSpec.post enc Try.prog Try.f5 false true false false) := by
  refine returnsInHanded_of_change (C := Try.checked) own started (by kernel_rfl) Try.func5
    (ChangeSpec.witness6 (enc := enc) (C := Try.checked) false ⟨#[], #[.slice none 0 0, .agg #[.int .i64 0, .int .i64 0, .int .i64 0, .int .i64 0], .agg #[.int .i64 0, .int .i64 0, .int .i64 0, .int .i64 0]], []⟩ 8 (by kernel_rfl) (by kernel_rfl) (by kernel_rfl) (by kernel_rfl)) ?_
  intro W base args ds gs before hval0 hW hcnd _
  have hval : ∀ (j : Nat) t v, Try.f5.params[j]? = some t → args[j]? = some v → Value.okWide Try.prog W .any base t v := hval0
  have hW' := hW
  obtain ⟨p, q, hA0, hV, rfl, hfz, hnd⟩ := hW
  have hA : DataW.TrodAll enc Try.prog W 0 (fun _ => true) true Try.f5.params.toList args.toList ds p := hA0
  rw [Try.params5] at hA hval
  obtain ⟨v0, vs0, d0, ds0, p0, q0, hargs, rfl, rfl, h0, r0⟩ := trodAll_cons hA
  obtain ⟨v1, vs1, d1, ds1, p1, q1, rfl, rfl, rfl, h1, r1⟩ := trodAll_cons r0
  obtain ⟨v2, vs2, d2, ds2, p2, q2, rfl, rfl, rfl, h2, r2⟩ := trodAll_cons r1
  obtain ⟨rfl, rfl, rfl⟩ := trodAll_nil r2
  obtain rfl : args = #[v0, v1, v2] := by cases args; simp_all
  obtain ⟨rfl, rfl⟩ := trodVars_none hV
  obtain ⟨A0, n0, c0, us0, rfl, hn0, hnc0, hcm0, hs0, hu0⟩ := open_nums Try.underlying33 Try.underlying3 (by kernel_rfl) (hval 0 33 v0 rfl rfl) h0
  obtain ⟨p1_, rfl, hq1⟩ := open_pol Try.underlying29 rfl rfl rfl rfl rfl rfl rfl rfl Try.underlying3 Try.underlying3 Try.underlying3 Try.underlying3 (by kernel_rfl) (by kernel_rfl) (by kernel_rfl) (by kernel_rfl) (by kernel_rfl) (hval 1 29 v1 rfl rfl) h1
  obtain ⟨p2_, rfl, hq2⟩ := open_pol Try.underlying29 rfl rfl rfl rfl rfl rfl rfl rfl Try.underlying3 Try.underlying3 Try.underlying3 Try.underlying3 (by kernel_rfl) (by kernel_rfl) (by kernel_rfl) (by kernel_rfl) (by kernel_rfl) (hval 2 29 v2 rfl rfl) h2
  refine (walk A0 n0 c0 us0 p1_ p2_ W hn0 hnc0 hcm0 hs0 hu0 hq1 hq2).mono fun e W' ⟨he, hg⟩ => ?_
  subst he
  exact ⟨_, rfl, law_post hW' rfl (by kernel_rfl) (by kernel_rfl) (by kernel_rfl) Try.underlying4 rfl rfl rfl hg⟩

theorem over : Rows.schedVersionsRow.holds Try.pinned (OpenSpec.ofChange Rows.schedVersionsSpec) :=
  OpenClaim.holds_of_wide 5 Try.f5 rfl rfl rfl rfl rfl rfl rfl ⟨rfl, rfl, rfl, rfl, rfl⟩ rfl rfl rfl rfl rfl (by kernel_rfl) Try.func5 (by kernel_rfl)
    (of_decide_eq_true (by kernel_rfl)) (by unfold Func.isWrapper; first | (rw [if_pos (by decide +kernel)]; kernel_rfl) | (rw [if_neg (by decide +kernel)]; exact ⟨rfl, rfl⟩))
    (fun os started H enc _ => lifted os started H enc)

theorem proved : Rows.SchedVersionsSaid :=
  over
#print axioms proved

end Go.Proofs.Ytbfjakchgmdldaa.SchedVersions
