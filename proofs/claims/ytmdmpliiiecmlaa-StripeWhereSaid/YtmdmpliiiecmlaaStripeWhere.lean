/-
  StripeWhere: a block is where its pieces say; each place is of one block. For any two numbers of 16 bits. No condition but what the row says.
-/
import Derived.Test.YtmdmpliiiecmlaaStrAwk
import Derived.Test.YtmdmpliiiecmlaaRows
import Derived.Test.YtmdmpliiiecmlaaLaw
import Derived.Test.YtmdmpliiiecmlaaChecked
namespace Go.Proofs.Ytmdmpliiiecmlaa.StripeWhere
open Go.ChangeShapes Go.WideShapes Go.ChangeAt Go.RowKit Go.Proofs.Ytmdmpliiiecmlaa
set_option linter.unusedVariables false

theorem u16_of {a : Int} (h : (Lit.int .u16 a).wf = true) : 0 ≤ a ∧ a ≤ 65535 := by
  simp [Lit.wf, IntKind.min, IntKind.max, IntKind.bits, IntKind.signed] at h; omega
set_option maxRecDepth 100000 in
set_option maxHeartbeats 4000000 in
theorem walk (a b : Int) (w : World) (h0 : (Lit.int .u16 a).wf = true) (h1 : (Lit.int .u16 b).wf = true) :
    Calls Try.prog 6 #[.int .u16 a, .int .u16 b] w fun e w' => e = .returned (.bool true) ∧ Below w.heap.size w w' := by
  obtain ⟨a0, a1⟩ := u16_of h0
  obtain ⟨b0, b1⟩ := u16_of h1
  clear h0 h1
  have KA := Lib.hid fun W => SWhere_yes a W a0 (by unfold inI; omega)
  have KB := Lib.hid fun W => SWhere_yes b W b0 (by unfold inI; omega)
  have KC := Lib.hid fun W => SCount (a + 1) W (by unfold inI; omega)
  have hc : countF (a + 1) = a / 8 + 1 := by unfold countF; rw [if_neg (by omega)]; omega
  rw [hc] at KC
  obtain ⟨qa, hqa⟩ : ∃ q, a / 8 = q := ⟨_, rfl⟩
  obtain ⟨ra, hra⟩ : ∃ q, a % 8 = q := ⟨_, rfl⟩
  obtain ⟨qb, hqb⟩ : ∃ q, b / 8 = q := ⟨_, rfl⟩
  obtain ⟨rb, hrb⟩ : ∃ q, b % 8 = q := ⟨_, rfl⟩
  rw [hqa] at KA KC
  rw [hra] at KA
  rw [hqb, hrb] at KB
  have e1 : 8 * qa + ra = a := by omega
  have e2 : 8 * qb + rb = b := by omega
  have c1 : 0 ≤ ra ∧ ra < 8 := by omega
  have c2 : 0 ≤ rb ∧ rb < 8 := by omega
  obtain ⟨c3, c4⟩ := c1
  obtain ⟨c5, c6⟩ := c2
  have c7 : 0 ≤ qa := by omega
  have c8 : qa ≤ 8191 := by omega
  have k1 : (qa == qb && ra == rb) = (a == b) := by
    rw [Bool.eq_iff_iff]; simp; omega
  have k2 : (8 * qa + ra == a) = true := by simpa using e1
  clear hc hqa hra hqb hrb e2 e1
  by_cases hq : qa = qb
  · have hqb : (qa == qb) = true := by simpa using hq
    rw [hqb, Bool.true_and] at k1
    clear hq
    go_enter Try.func6, Try.ntmps6
    go_wp2_with (first
      | (go_at_call_of 8 (Value.int .i64 a); refine (KA.out _).mono ?_; rintro e w1 ⟨rfl, rfl⟩)
      | (go_at_call_of 8 (Value.int .i64 b); refine (KB.out _).mono ?_; rintro e w1 ⟨rfl, rfl⟩)
      | (go_at_call 9; refine (KC.out _).mono ?_; rintro e w1 ⟨rfl, rfl⟩)
      | (go_at_call 12; refine (awake_any _).mono ?_; rintro e w6 ⟨rfl, hb6⟩; have Hb6 := Lib.hid hb6; clear hb6))
    go_ret
    exact ⟨rfl, Hb6.out⟩
  · have hqb : (qa == qb) = false := by simpa using hq
    rw [hqb, Bool.false_and] at k1
    have k3 := k1.symm
    clear hq k1
    go_enter Try.func6, Try.ntmps6
    go_wp2_with (first
      | (go_at_call_of 8 (Value.int .i64 a); refine (KA.out _).mono ?_; rintro e w1 ⟨rfl, rfl⟩)
      | (go_at_call_of 8 (Value.int .i64 b); refine (KB.out _).mono ?_; rintro e w1 ⟨rfl, rfl⟩)
      | (go_at_call 9; refine (KC.out _).mono ?_; rintro e w1 ⟨rfl, rfl⟩)
      | (go_at_call 12; refine (awake_any _).mono ?_; rintro e w6 ⟨rfl, hb6⟩; have Hb6 := Lib.hid hb6; clear hb6))
    go_ret
    exact ⟨rfl, Hb6.out⟩
/-! ### THE ROW -/
theorem own : ownKnob Try.prog.godebug = none := by kernel_rfl

set_option maxRecDepth 100000 in
theorem lifted (os : Os) (started : os.Started) (H : Type) (enc : TypeId × Value → H) :
    ReturnsInHanded {} Try.checked os 6 .any (Rows.stripeWhereSpec.pre6 enc Try.prog Try.f6 Rows.stripeWhereRow.domain false) (Rows.stripeWhereSpec.post enc Try.prog Try.f6 false true false false) := by
  refine returnsInHanded_of_change (C := Try.checked) own started (by kernel_rfl) Try.func6
    (ChangeSpec.witness6 (enc := enc) (C := Try.checked) false ⟨#[], #[.int .u16 0, .int .u16 0], []⟩ 8 (by kernel_rfl) (by kernel_rfl) (by kernel_rfl) (by kernel_rfl)) ?_
  intro W base args ds gs before hval0 hW hcnd _
  have hval : ∀ (j : Nat) t v, Try.f6.params[j]? = some t → args[j]? = some v → Value.okWide Try.prog W .any base t v := hval0
  have hW' := hW
  obtain ⟨p, q, hA0, hV, rfl, hfz, hnd⟩ := hW
  have hA : DataW.TrodAll enc Try.prog W 0 (fun _ => true) true Try.f6.params.toList args.toList ds p := hA0
  rw [Try.params6] at hA hval
  obtain ⟨v0, vs0, d0, ds0, p0, q0, hargs, rfl, rfl, h0, r0⟩ := trodAll_cons hA
  obtain ⟨v1, vs1, d1, ds1, p1, q1, rfl, rfl, rfl, h1, r1⟩ := trodAll_cons r0
  obtain ⟨rfl, rfl, rfl⟩ := trodAll_nil r1
  obtain rfl : args = #[v0, v1] := by cases args; simp_all
  obtain ⟨rfl, rfl⟩ := trodVars_none hV
  obtain ⟨a0, rfl, rfl, rfl, w0⟩ := open_int Try.underlying34 (hval 0 34 v0 rfl rfl) h0
  obtain ⟨a1, rfl, rfl, rfl, w1⟩ := open_int Try.underlying34 (hval 1 34 v1 rfl rfl) h1
  refine (walk a0 a1 W w0 w1).mono fun e W' ⟨he, hg⟩ => ?_
  subst he
  exact ⟨_, rfl, law_post hW' rfl (by kernel_rfl) (by kernel_rfl) (by kernel_rfl) Try.underlying4 rfl rfl rfl hg⟩

theorem over : Rows.stripeWhereRow.holds Try.pinned (OpenSpec.ofChange Rows.stripeWhereSpec) :=
  OpenClaim.holds_of_wide 6 Try.f6 rfl rfl rfl rfl rfl rfl rfl ⟨rfl, rfl, rfl, rfl, rfl⟩ rfl rfl rfl rfl rfl (by kernel_rfl) Try.func6 (by kernel_rfl)
    (of_decide_eq_true (by kernel_rfl)) (by unfold Func.isWrapper; first | (rw [if_pos (by decide +kernel)]; kernel_rfl) | (rw [if_neg (by decide +kernel)]; exact ⟨rfl, rfl⟩))
    (fun os started H enc _ => lifted os started H enc)

theorem proved : Rows.StripeWhereSaid :=
  over
#print axioms proved

end Go.Proofs.Ytmdmpliiiecmlaa.StripeWhere
