/- For any three numbers of 32 bits and any count of 8 bits, FixnumAdds returns true: sums go on in any order, a product is the sum taken so many times, and a tick's tag is 65,536 times it. Conditions: none. -/
import Derived.Test.YtmpiemiplopmdaaRows
import Derived.WalkKit
import Derived.ProofKit
import Derived.OpenShut
import Derived.Test.YtmpiemiplopmdaaFix
namespace Go.Proofs.Ytmpiemiplopmdaa.fixnumAdds
open Go.ChangeShapes Go.WideShapes Go.ChangeAt Go.RowKit
set_option linter.unusedVariables false      -- a walk need not use every 'w<i>' (that an integer argument fits its kind)

theorem own : ownKnob Try.prog.godebug = none := by kernel_rfl

theorem hold_id (a : Int) (h1 : 0 ≤ a) (h2 : a ≤ 2305843009213693952) : holdF a = a := by unfold holdF; omega
theorem add_id (a b : Int) (h1 : 0 ≤ a) (h2 : a ≤ 1152921504606846976) (h3 : 0 ≤ b) (h4 : b ≤ 1152921504606846976) : addF a b = a + b := by
  unfold addF; rw [hold_id a h1 (by omega), hold_id b h3 (by omega)]; omega
theorem step (x : Int) (k : Nat) (h1 : 0 ≤ x) (h2 : x ≤ 4294967295) (hk : k ≤ 255) : addF (k * x) x = (((k + 1 : Nat) : Int)) * x := by
  have e : (((k + 1 : Nat) : Int)) * x = k * x + x := by rw [Int.natCast_add, Int.add_mul]; omega
  have m0 : 0 ≤ (k : Int) * x := Int.mul_nonneg (by omega) h1
  have m1 : (k : Int) * x ≤ 255 * x := Int.mul_le_mul_of_nonneg_right (by omega) h1
  rw [e, add_id _ _ m0 (by omega) h1 (by omega)]
theorem kx_in (x : Int) (k : Nat) (h1 : 0 ≤ x) (h2 : x ≤ 4294967295) (hk : k ≤ 255) : inI (k * x) := by
  have m0 : 0 ≤ (k : Int) * x := Int.mul_nonneg (by omega) h1
  have m1 : (k : Int) * x ≤ 255 * x := Int.mul_le_mul_of_nonneg_right (by omega) h1
  exact ⟨by omega, by omega⟩
theorem times_id (x n : Int) (h1 : 0 ≤ x) (h2 : x ≤ 4294967295) (h3 : 0 ≤ n) (h4 : n ≤ 255) : timesF x n = n * x := by
  have m0 : 0 ≤ n * x := Int.mul_nonneg (by omega) h1
  have m1 : n * x ≤ 255 * x := Int.mul_le_mul_of_nonneg_right (by omega) h1
  unfold timesF; rw [hold_id x h1 (by omega), hold_id n h3 (by omega), Int.mul_comm x n]; omega
theorem u32_of {a : Int} (h : (Lit.int .u32 a).wf = true) : 0 ≤ a ∧ a ≤ 4294967295 := by
  simp [Lit.wf, IntKind.min, IntKind.max, IntKind.bits, IntKind.signed] at h; omega
theorem u8_of {a : Int} (h : (Lit.int .u8 a).wf = true) : 0 ≤ a ∧ a ≤ 255 := by
  simp [Lit.wf, IntKind.min, IntKind.max, IntKind.bits, IntKind.signed] at h; omega
theorem add_sm (a b : Int) (w : World) (h1 : 0 ≤ a) (h2 : a ≤ 1152921504606846976) (h3 : 0 ≤ b) (h4 : b ≤ 1152921504606846976) :
    Calls Try.prog 7 #[.int .i64 a, .int .i64 b] w fun e w' => e = .returned (.int .i64 (a + b)) ∧ w = w' := by
  have h := add_any a b w ⟨by omega, by omega⟩ ⟨by omega, by omega⟩
  rw [add_id a b h1 h2 h3 h4] at h; exact h
theorem times_sm (x n : Int) (w : World) (h1 : 0 ≤ x) (h2 : x ≤ 4294967295) (h3 : 0 ≤ n) (h4 : n ≤ 255) :
    Calls Try.prog 9 #[.int .i64 x, .int .i64 n] w fun e w' => e = .returned (.int .i64 (n * x)) ∧ w = w' := by
  have h := times_any x n w ⟨by omega, by omega⟩ ⟨by omega, by omega⟩
  rw [times_id x n h1 h2 h3 h4] at h; exact h

/-! ### STEP 1: THE WALK: the Go text returns true. 'Grown w w'': the world has at most new blocks (Derived/RowKit3.lean). Part the cases AHEAD of 'go_enter' where a test parts the walk; take each callee by a contract of your own. -/
theorem walk (a0 : Int) (a1 : Int) (a2 : Int) (a3 : Int) (w0 : (Lit.int .u32 a0).wf = true) (w1 : (Lit.int .u32 a1).wf = true) (w2 : (Lit.int .u32 a2).wf = true) (w3 : (Lit.int .u8 a3).wf = true) (w : World) :
    Calls Try.prog 6 #[.int .u32 a0, .int .u32 a1, .int .u32 a2, .int .u8 a3] w fun e w' => e = .returned (.bool true) ∧ Grown w w' := by
  obtain ⟨p1, p2⟩ := u32_of w0; obtain ⟨p3, p4⟩ := u32_of w1; obtain ⟨p5, p6⟩ := u32_of w2; obtain ⟨p7, p8⟩ := u8_of w3
  clear w0 w1 w2 w3
  have i0 : inI a0 := ⟨by omega, by omega⟩; have i1 : inI a1 := ⟨by omega, by omega⟩; have i2 : inI a2 := ⟨by omega, by omega⟩; have i3 : inI a3 := ⟨by omega, by omega⟩
  obtain ⟨n, rfl⟩ : ∃ n : Nat, a3 = n := ⟨a3.toNat, by omega⟩
  have t1 : (a0 + a1 + a2 == a0 + (a2 + a1)) = true := by simp; omega
  go_enter Try.func6, Try.ntmps6
  go_wp2
  go_loop [12, 13] (fun s i => ∃ k : Nat, k ≤ n ∧ i = .int .i64 k ∧ s = .int .i64 (k * a0)) (fun _ i => n - (intOf i).toNat)
  case atStart => exact ⟨0, Nat.zero_le _, rfl, by go_num⟩
  case round =>
    obtain ⟨k, hk, rfl, rfl⟩ := hrel
    have HS := Lib.hid (step a0 k p1 p2 (by omega))
    have kin := kx_in a0 k p1 p2 (by omega)
    by_cases hlt : k < n
    · go_wp2_with (go_at_call 7; refine (add_any _ _ _ (by assumption) (by assumption)).mono ?_; rw [HS.out]; rintro e w' ⟨rfl, rfl⟩)
      go_round
      case rel => exact ⟨k + 1, by omega, by go_num, rfl⟩
      case measure => simp [intOf]; omega
    · obtain rfl : k = n := by omega
      go_wp2_with (first | (go_at_call 7; refine (add_sm _ _ _ (by omega) (by omega) (by omega) (by omega)).mono ?_; rintro e w' ⟨rfl, rfl⟩) | (go_at_call 9; (first | refine (times_sm _ _ _ (by omega) (by omega) (by omega) (by omega)).mono ?_ | refine (times_any _ _ _ (by assumption) (by unfold inI; omega)).mono ?_); rintro e w' ⟨rfl, rfl⟩) | (go_at_call 11; refine (at_any _ _ (by assumption)).mono ?_; rintro e w' ⟨rfl, rfl⟩) | (go_at_call 18; refine (awake_any _).mono ?_; rintro e w' ⟨rfl, rfl⟩))
      go_ret
      exact ⟨rfl, Grown.refl _⟩

/-! ### THE ROW's STEP: WRITTEN OUT: LEAVE IT -/
set_option maxRecDepth 100000 in
theorem lifted (os : Os) (started : os.Started) (H : Type) (enc : TypeId × Value → H) :
    ReturnsInHanded {} Try.checked os 6 .any (Rows.fixnumAddsSpec.pre6 enc Try.prog Try.f6 Rows.fixnumAddsRow.domain false) (Rows.fixnumAddsSpec.post enc Try.prog Try.f6 false true false false) := by
  refine returnsInHanded_of_change (C := Try.checked) own started (by kernel_rfl) Try.func6
    (ChangeSpec.witness6 (enc := enc) (C := Try.checked) false ⟨#[], #[.int .u32 0, .int .u32 0, .int .u32 0, .int .u8 0], []⟩ 8 (by kernel_rfl) (by kernel_rfl) (by kernel_rfl) (by kernel_rfl)) ?_
  intro W base args ds gs before hval0 hW hcnd _
  have hval : ∀ (j : Nat) t v, Try.f6.params[j]? = some t → args[j]? = some v → Value.okWide Try.prog W .any base t v := hval0
  have hW' := hW
  obtain ⟨p, q, hA0, hV, rfl, hfz, hnd⟩ := hW
  have hA : DataW.TrodAll enc Try.prog W 0 (fun _ => true) true Try.f6.params.toList args.toList ds p := hA0
  rw [Try.params6] at hA hval
  obtain ⟨v0, vs0, d0, ds0, p0, q0, hargs, rfl, rfl, h0, r0⟩ := trodAll_cons hA
  obtain ⟨v1, vs1, d1, ds1, p1, q1, rfl, rfl, rfl, h1, r1⟩ := trodAll_cons r0
  obtain ⟨v2, vs2, d2, ds2, p2, q2, rfl, rfl, rfl, h2, r2⟩ := trodAll_cons r1
  obtain ⟨v3, vs3, d3, ds3, p3, q3, rfl, rfl, rfl, h3, r3⟩ := trodAll_cons r2
  obtain ⟨rfl, rfl, rfl⟩ := trodAll_nil r3
  obtain rfl : args = #[v0, v1, v2, v3] := by cases args; simp_all
  obtain ⟨rfl, rfl⟩ := trodVars_none hV
  obtain ⟨a0, rfl, rfl, rfl, w0⟩ := open_int Try.underlying28 (hval 0 28 v0 rfl rfl) h0
  obtain ⟨a1, rfl, rfl, rfl, w1⟩ := open_int Try.underlying28 (hval 1 28 v1 rfl rfl) h1
  obtain ⟨a2, rfl, rfl, rfl, w2⟩ := open_int Try.underlying28 (hval 2 28 v2 rfl rfl) h2
  obtain ⟨a3, rfl, rfl, rfl, w3⟩ := open_int Try.underlying5 (hval 3 5 v3 rfl rfl) h3
  clear hA0 hval0
  simp only [List.append_nil] at hW'
  refine (walk a0 a1 a2 a3 w0 w1 w2 w3 W).mono fun e W' ⟨he, hg⟩ => ?_
  subst he
  exact ⟨_, rfl, post_of_same (pa := []) (pv := []) hW' (fun _ _ _ => (trodAll_cons_mk (shut_bool Try.underlying4 _) trodAll_mk0)) (fun sp _ => (trodAll_cons_mk (shut_int Try.underlying28 w0) (trodAll_cons_mk (shut_int Try.underlying28 w1) (trodAll_cons_mk (shut_int Try.underlying28 w2) (trodAll_cons_mk (shut_int Try.underlying5 w3) trodAll_mk0))))) (fun _ _ => rfl) rfl
    (hg.frame _) hg.2.1 (ok_one (by kernel_rfl) rfl (okWide_bool_mk Try.underlying4 _))⟩

theorem over : Rows.fixnumAddsRow.holds Try.pinned (OpenSpec.ofChange Rows.fixnumAddsSpec) :=
  OpenClaim.holds_of_wide 6 Try.f6 rfl rfl rfl rfl rfl rfl rfl ⟨rfl, rfl, rfl, rfl, rfl⟩ rfl rfl rfl rfl rfl (by kernel_rfl) Try.func6 (by kernel_rfl)
    (of_decide_eq_true (by kernel_rfl)) (by unfold Func.isWrapper; first | (rw [if_pos (by decide +kernel)]; kernel_rfl) | (rw [if_neg (by decide +kernel)]; exact ⟨rfl, rfl⟩))
    (fun os started H enc _ => lifted os started H enc)

/-- ████ THE STATEMENT ████ -/
theorem proved : Rows.FixnumAddsSaid :=
  over
#print axioms proved
end Go.Proofs.Ytmpiemiplopmdaa.fixnumAdds
