/- For every rate (any int), FixnumRooms returns true: in a second there is room for as many operations as the rate says, at least by Space, at most by Wide, and one. Conditions: none. -/
import Derived.Test.YtmpiemiplopmdaaRows
import Derived.WalkKit
import Derived.ProofKit
import Derived.OpenShut
import Derived.Test.YtmpiemiplopmdaaFix
namespace Go.Proofs.Ytmpiemiplopmdaa.fixnumRooms
open Go.ChangeShapes Go.WideShapes Go.ChangeAt Go.RowKit
set_option linter.unusedVariables false      -- a walk need not use every 'w<i>' (that an integer argument fits its kind)

theorem own : ownKnob Try.prog.godebug = none := by kernel_rfl

theorem arith (a : Int) (h1 : 1 ≤ a) (h2 : a ≤ 1048576) :
    62 ≤ 65536000 / a ∧ 65536000 / a ≤ 65536000 ∧ 65536000 / a ≤ 65535999 / a + 1 ∧ 65535999 / a + 1 ≤ 65536000 / a + 1 ∧ a ≤ 65536000 / (65536000 / a) ∧ 65536000 / (65535999 / a + 1) ≤ a := by
  have q0 : 62 ≤ 65536000 / a := (Int.le_ediv_iff_mul_le (by omega)).2 (by omega)
  have q1 : 65536000 / a ≤ 65536000 := Int.ediv_le_self _ (by omega)
  have q2 : 65536000 / a * a ≤ 65536000 := Int.ediv_mul_le _ (by omega)
  have hu := up_div 65536000 a h1
  have e : (65536000 : Int) - 1 = 65535999 := rfl
  rw [e] at hu
  have hlt : 65536000 < (65536000 / a + 1) * a := by
    have := Int.lt_ediv_add_one_mul_self 65536000 (show 0 < a by omega); exact this
  have r1 : a ≤ 65536000 / (65536000 / a) := (Int.le_ediv_iff_mul_le (by omega)).2 (by rw [Int.mul_comm]; exact q2)
  have r2 : 65536000 / (65535999 / a + 1) ≤ a := by
    have hw : 1 ≤ 65535999 / a + 1 := by split at hu <;> omega
    have : 65536000 / (65535999 / a + 1) < a + 1 := by
      refine (Int.ediv_lt_iff_lt_mul (by omega)).2 ?_
      rw [hu]; split
      · have hm : (a + 1) * (65536000 / a + 1) = (65536000 / a + 1) * a + (65536000 / a + 1) := by rw [Int.add_mul, Int.mul_comm a]; omega
        omega
      · have hm : (a + 1) * (65536000 / a) = 65536000 / a * a + 65536000 / a := by rw [Int.add_mul, Int.mul_comm a]; omega
        omega
    omega
  refine ⟨q0, q1, ?_, ?_, r1, r2⟩ <;> (rw [hu]; split <;> omega)

/-! ### STEP 1: THE WALK: the Go text returns true. 'Grown w w'': the world has at most new blocks (Derived/RowKit3.lean). Part the cases AHEAD of 'go_enter' where a test parts the walk; take each callee by a contract of your own. -/
theorem walk (a0 : Int) (w0 : (Lit.int .i64 a0).wf = true) (w : World) :
    Calls Try.prog 4 #[.int .i64 a0] w fun e w' => e = .returned (.bool true) ∧ Grown w w' := by
  by_cases h : rated a0
  · have hs : spaceF a0 = 65536000 / a0 := if_pos h
    have hw : wideF a0 = 65535999 / a0 + 1 := if_pos h
    obtain ⟨h1, h2⟩ := h
    obtain ⟨q0, q1, q2, q3, q4, q5⟩ := arith a0 h1 h2
    have HS := Lib.hid hs; have HW := Lib.hid hw; clear hs hw
    have z1 : (65536000 / a0 == 0) = false := by simp; omega
    have z2 : (65535999 / a0 + 1 == 0) = false := by simp; omega
    go_enter Try.func4, Try.ntmps4
    go_wp2_with (first | (go_at_call 12; refine (space_any _ _).mono ?_; rw [HS.out]; rintro e w' ⟨rfl, rfl⟩) | (go_at_call 14; refine (wide_any _ _).mono ?_; rw [HW.out]; rintro e w' ⟨rfl, rfl⟩) | (go_at_call 18; refine (awake_any _).mono ?_; rintro e w' ⟨rfl, rfl⟩))
    go_ret
    exact ⟨rfl, Grown.refl _⟩
  · have hs : spaceF a0 = 0 := if_neg h
    have hw : wideF a0 = 0 := if_neg h
    have HS := Lib.hid hs; have HW := Lib.hid hw; clear hs hw
    have h' : a0 < 1 ∨ 1048576 < a0 := by unfold rated at h; omega
    rcases h' with h' | h'
    · go_enter Try.func4, Try.ntmps4
      go_wp2_with (first | (go_at_call 12; refine (space_any _ _).mono ?_; rw [HS.out]; rintro e w' ⟨rfl, rfl⟩) | (go_at_call 14; refine (wide_any _ _).mono ?_; rw [HW.out]; rintro e w' ⟨rfl, rfl⟩) | (go_at_call 18; refine (awake_any _).mono ?_; rintro e w' ⟨rfl, rfl⟩))
      go_ret
      exact ⟨rfl, Grown.refl _⟩
    · have h3 : ¬ a0 < 1 := by omega
      go_enter Try.func4, Try.ntmps4
      go_wp2_with (first | (go_at_call 12; refine (space_any _ _).mono ?_; rw [HS.out]; rintro e w' ⟨rfl, rfl⟩) | (go_at_call 14; refine (wide_any _ _).mono ?_; rw [HW.out]; rintro e w' ⟨rfl, rfl⟩) | (go_at_call 18; refine (awake_any _).mono ?_; rintro e w' ⟨rfl, rfl⟩))
      go_ret
      exact ⟨rfl, Grown.refl _⟩

/-! ### THE ROW's STEP: WRITTEN OUT: LEAVE IT -/
set_option maxRecDepth 100000 in
theorem lifted (os : Os) (started : os.Started) (H : Type) (enc : TypeId × Value → H) :
    ReturnsInHanded {} Try.checked os 4 .any (Rows.fixnumRoomsSpec.pre6 enc Try.prog Try.f4 Rows.fixnumRoomsRow.domain false) (Rows.fixnumRoomsSpec.post enc Try.prog Try.f4 false true false false) := by
  refine returnsInHanded_of_change (C := Try.checked) own started (by kernel_rfl) Try.func4
    (ChangeSpec.witness6 (enc := enc) (C := Try.checked) false ⟨#[], #[.int .i64 0], []⟩ 8 (by kernel_rfl) (by kernel_rfl) (by kernel_rfl) (by kernel_rfl)) ?_
  intro W base args ds gs before hval0 hW hcnd _
  have hval : ∀ (j : Nat) t v, Try.f4.params[j]? = some t → args[j]? = some v → Value.okWide Try.prog W .any base t v := hval0
  have hW' := hW
  obtain ⟨p, q, hA0, hV, rfl, hfz, hnd⟩ := hW
  have hA : DataW.TrodAll enc Try.prog W 0 (fun _ => true) true Try.f4.params.toList args.toList ds p := hA0
  rw [Try.params4] at hA hval
  obtain ⟨v0, vs0, d0, ds0, p0, q0, hargs, rfl, rfl, h0, r0⟩ := trodAll_cons hA
  obtain ⟨rfl, rfl, rfl⟩ := trodAll_nil r0
  obtain rfl : args = #[v0] := by cases args; simp_all
  obtain ⟨rfl, rfl⟩ := trodVars_none hV
  obtain ⟨a0, rfl, rfl, rfl, w0⟩ := open_int Try.underlying3 (hval 0 3 v0 rfl rfl) h0
  clear hA0 hval0
  simp only [List.append_nil] at hW'
  refine (walk a0 w0 W).mono fun e W' ⟨he, hg⟩ => ?_
  subst he
  exact ⟨_, rfl, post_of_same (pa := []) (pv := []) hW' (fun _ _ _ => (trodAll_cons_mk (shut_bool Try.underlying4 _) trodAll_mk0)) (fun sp _ => (trodAll_cons_mk (shut_int Try.underlying3 w0) trodAll_mk0)) (fun _ _ => rfl) rfl
    (hg.frame _) hg.2.1 (ok_one (by kernel_rfl) rfl (okWide_bool_mk Try.underlying4 _))⟩

theorem over : Rows.fixnumRoomsRow.holds Try.pinned (OpenSpec.ofChange Rows.fixnumRoomsSpec) :=
  OpenClaim.holds_of_wide 4 Try.f4 rfl rfl rfl rfl rfl rfl rfl ⟨rfl, rfl, rfl, rfl, rfl⟩ rfl rfl rfl rfl rfl (by kernel_rfl) Try.func4 (by kernel_rfl)
    (of_decide_eq_true (by kernel_rfl)) (by unfold Func.isWrapper; first | (rw [if_pos (by decide +kernel)]; kernel_rfl) | (rw [if_neg (by decide +kernel)]; exact ⟨rfl, rfl⟩))
    (fun os started H enc _ => lifted os started H enc)

/-- ████ THE STATEMENT ████ -/
theorem proved : Rows.FixnumRoomsSaid :=
  over
#print axioms proved
end Go.Proofs.Ytmpiemiplopmdaa.fixnumRooms
