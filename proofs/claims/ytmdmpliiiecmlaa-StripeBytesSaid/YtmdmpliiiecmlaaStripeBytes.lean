/-
  StripeBytes: the blocks of a range of bytes have just its bytes in them, and no block more than is wanted; a wrong range is refused. For any two ints. No condition but what the row says.
-/
import Derived.Test.YtmdmpliiiecmlaaStrAwk
import Derived.Test.YtmdmpliiiecmlaaRows
import Derived.Test.YtmdmpliiiecmlaaLaw
import Derived.Test.YtmdmpliiiecmlaaChecked
namespace Go.Proofs.Ytmdmpliiiecmlaa.StripeBytes
open Go.ChangeShapes Go.WideShapes Go.ChangeAt Go.RowKit Go.Proofs.Ytmdmpliiiecmlaa
set_option linter.unusedVariables false

set_option maxRecDepth 100000 in
set_option maxHeartbeats 4000000 in
theorem walk (f m : Int) (w : World) (h0 : (Lit.int .i64 f).wf = true) (h1 : (Lit.int .i64 m).wf = true) :
    Calls Try.prog 5 #[.int .i64 f, .int .i64 m] w fun e w' => e = .returned (.bool true) ∧ Below w.heap.size w w' := by
  clear h0 h1
  by_cases hr : 0 ≤ f ∧ f ≤ 1099511627776 ∧ 1 ≤ m ∧ m ≤ 1048576
  · obtain ⟨a0, a1, a2, a3⟩ := hr
    have KB := Lib.hid (SBytes_yes f m w a0 a1 a2 a3)
    obtain ⟨q, hq⟩ : ∃ q, f / 16 = q := ⟨_, rfl⟩
    obtain ⟨r, hr⟩ : ∃ r, (f + m - 1) / 16 - f / 16 + 1 = r := ⟨_, rfl⟩
    rw [hr, hq] at KB
    have q0 : 0 ≤ q := by omega
    have q1 : q ≤ 1099511627776 := by omega
    have r0 : 1 ≤ r := by omega
    have r1 : r ≤ 1099511627776 := by omega
    have b0 : 16 * q ≤ f := by omega
    have b1 : f < 16 * (q + 1) := by omega
    have b2 : f + m ≤ 16 * (q + r) := by omega
    have b3 : 16 * (q + r - 1) < f + m := by omega
    clear hq hr
    go_enter Try.func5, Try.ntmps5
    go_wp2_with (first
      | (go_at_call 14; refine KB.out.mono ?_; rintro e w1 ⟨rfl, rfl⟩)
      | (go_at_call 12; refine (awake_any _).mono ?_; rintro e w6 ⟨rfl, hb6⟩; have Hb6 := Lib.hid hb6; clear hb6))
    all_goals first
      | (exfalso; omega)
      | (go_ret; exact ⟨rfl, Hb6.out⟩)
  · have hr' : f < 0 ∨ 1099511627776 < f ∨ m < 1 ∨ 1048576 < m := by omega
    have KB := Lib.hid (SBytes_no f m w hr')
    have Hr := Lib.hid hr'
    clear hr hr'
    go_enter Try.func5, Try.ntmps5
    go_wp2_with (first
      | (go_at_call 14; refine KB.out.mono ?_; rintro e w1 ⟨rfl, rfl⟩)
      | (go_at_call 12; refine (awake_any _).mono ?_; rintro e w6 ⟨rfl, hb6⟩; have Hb6 := Lib.hid hb6; clear hb6))
    all_goals first
      | (exfalso; have := Hr.out; omega)
      | (go_ret; exact ⟨rfl, Hb6.out⟩)
/-! ### THE ROW -/
theorem own : ownKnob Try.prog.godebug = none := by kernel_rfl

set_option maxRecDepth 100000 in
theorem lifted (os : Os) (started : os.Started) (H : Type) (enc : TypeId × Value → H) :
    ReturnsInHanded {} Try.checked os 5 .any (Rows.stripeBytesSpec.pre6 enc Try.prog Try.f5 Rows.stripeBytesRow.domain false) (Rows.stripeBytesSpec.post enc Try.prog Try.f5 false true false false) := by
  refine returnsInHanded_of_change (C := Try.checked) own started (by kernel_rfl) Try.func5
    (ChangeSpec.witness6 (enc := enc) (C := Try.checked) false ⟨#[], #[.int .i64 0, .int .i64 0], []⟩ 8 (by kernel_rfl) (by kernel_rfl) (by kernel_rfl) (by kernel_rfl)) ?_
  intro W base args ds gs before hval0 hW hcnd _
  have hval : ∀ (j : Nat) t v, Try.f5.params[j]? = some t → args[j]? = some v → Value.okWide Try.prog W .any base t v := hval0
  have hW' := hW
  obtain ⟨p, q, hA0, hV, rfl, hfz, hnd⟩ := hW
  have hA : DataW.TrodAll enc Try.prog W 0 (fun _ => true) true Try.f5.params.toList args.toList ds p := hA0
  rw [Try.params5] at hA hval
  obtain ⟨v0, vs0, d0, ds0, p0, q0, hargs, rfl, rfl, h0, r0⟩ := trodAll_cons hA
  obtain ⟨v1, vs1, d1, ds1, p1, q1, rfl, rfl, rfl, h1, r1⟩ := trodAll_cons r0
  obtain ⟨rfl, rfl, rfl⟩ := trodAll_nil r1
  obtain rfl : args = #[v0, v1] := by cases args; simp_all
  obtain ⟨rfl, rfl⟩ := trodVars_none hV
  obtain ⟨a0, rfl, rfl, rfl, w0⟩ := open_int Try.underlying3 (hval 0 3 v0 rfl rfl) h0
  obtain ⟨a1, rfl, rfl, rfl, w1⟩ := open_int Try.underlying3 (hval 1 3 v1 rfl rfl) h1
  refine (walk a0 a1 W w0 w1).mono fun e W' ⟨he, hg⟩ => ?_
  subst he
  exact ⟨_, rfl, law_post hW' rfl (by kernel_rfl) (by kernel_rfl) (by kernel_rfl) Try.underlying4 rfl rfl rfl hg⟩

theorem over : Rows.stripeBytesRow.holds Try.pinned (OpenSpec.ofChange Rows.stripeBytesSpec) :=
  OpenClaim.holds_of_wide 5 Try.f5 rfl rfl rfl rfl rfl rfl rfl ⟨rfl, rfl, rfl, rfl, rfl⟩ rfl rfl rfl rfl rfl (by kernel_rfl) Try.func5 (by kernel_rfl)
    (of_decide_eq_true (by kernel_rfl)) (by unfold Func.isWrapper; first | (rw [if_pos (by decide +kernel)]; kernel_rfl) | (rw [if_neg (by decide +kernel)]; exact ⟨rfl, rfl⟩))
    (fun os started H enc _ => lifted os started H enc)

theorem proved : Rows.StripeBytesSaid :=
  over
#print axioms proved

end Go.Proofs.Ytmdmpliiiecmlaa.StripeBytes
