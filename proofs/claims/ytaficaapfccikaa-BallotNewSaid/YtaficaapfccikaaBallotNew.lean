/-
  BallotNew: of two logs one is as new as the other; both only, if they end alike; it goes on over three; it holds for every input, and the arguments stay as they were. No condition.
-/
import Derived.Test.YtaficaapfccikaaBalAwk
import Derived.Test.YtaficaapfccikaaQuietB
import Derived.Test.YtaficaapfccikaaLaw
import Derived.Test.YtaficaapfccikaaRows
import Derived.Test.YtaficaapfccikaaChecked
namespace Go.Proofs.Ytaficaapfccikaa.BallotNew
open Go.ChangeShapes Go.WideShapes Go.ChangeAt Go.RowKit
set_option linter.unusedVariables false

theorem new_total {a b c d : Int} : NewB a b c d ∨ NewB c d a b := by unfold NewB; omega
theorem new_both {a b c d : Int} : NewB a b c d ∧ NewB c d a b ↔ a = c ∧ b = d := by unfold NewB; omega
theorem new_trans {a b c d e f : Int} (h : NewB a b c d) (k : NewB c d e f) : NewB a b e f := by unfold NewB at *; omega

/-- the pair (x, y) at ⟨g, 0⟩, a row of its own -/
def PairAt2 (w : World) (g : Nat) (x y : Int) : Prop := w.heap[g]? = some (.cells #[.int .i64 x, .int .i64 y] 38 (0, 0))
theorem pr_info : (Try.prog.info? 38).map (·.size) = some 2 := by kernel_rfl
def ldPr (p : Value) : Sem Value := Instr.loadAt 38 p
theorem ldPr_eq (p : Value) : Instr.loadAt 38 p = ldPr p := rfl
theorem ldPr_run {w : World} {g : Nat} {x y : Int} (h : PairAt2 w g x y) : (ldPr (.pointer (some ⟨g, 0, none⟩))).run Try.prog w = .ok (.agg #[.int .i64 x, .int .i64 y]) w := by
  have hr : w.rangeAt g 0 [.int .i64 x, .int .i64 y] := fun j v hv => by
    match j, hv with
    | 0, hv => simp at hv; subst hv; exact row_cell h 0
    | 1, hv => simp at hv; subst hv; exact row_cell h 1
  exact run_loadAt_mid w g 0 38 [.int .i64 x, .int .i64 y] _ hr Try.underlying38 rfl pr_info
theorem size_int (w : World) : (sizeOf 3).run Try.prog w = .ok 1 w := by kernel_rfl
theorem eq2 (a0 a1 b0 b1 : Int) (w : World) :
    (Op.equalIn 10000 38 (.agg #[.int .i64 a0, .int .i64 a1]) (.agg #[.int .i64 b0, .int .i64 b1])).run Try.prog w = .ok (a0 == b0 && a1 == b1) w := by
  rw [Op.equalIn]
  simp only [Sem.run_bind, run_underlying Try.underlying38, Result.andThen_ok, size_int, Std.Legacy.Range.forIn_eq_forIn_range']
  simp [List.range', Sem.run_bind, part]
  have h : ∀ a b w, (Op.equalIn 9999 3 (.int .i64 a) (.int .i64 b)).run Try.prog w = .ok (a == b) w := fun a b w => run_equalIn_int w 9998 3 .i64 .i64 a b Try.underlying3
  simp only [h, Result.andThen_ok]
  by_cases e0 : a0 = b0 <;> by_cases e1 : a1 = b1 <;> simp [e0, e1]

attribute [local go_sem ↓] ldPr_eq
attribute [local irreducible] wpQuiet
set_option maxRecDepth 100000 in
set_option maxHeartbeats 4000000 in
theorem walk (a0 a1 b0 b1 c0 c1 : Int) (w : World) (hx0 : In64 a0) (hy0 : In64 a1) (hx1 : In64 b0) (hy1 : In64 b1) (hx2 : In64 c0) (hy2 : In64 c1) :
    Calls Try.prog 6 #[.agg #[.int .i64 a0, .int .i64 a1], .agg #[.int .i64 b0, .int .i64 b1], .agg #[.int .i64 c0, .int .i64 c1]] w fun e w' => e = .returned (.bool true) ∧ Below w.heap.size w w' := by
  clear hx0 hy0 hx1 hy1 hx2 hy2
  have K1 := fun w => AsNew_below a0 a1 b0 b1 w
  have K2 := fun w => AsNew_below b0 b1 a0 a1 w
  have K3 := fun w => AsNew_any b0 b1 c0 c1 w
  have K4 := fun w => AsNew_any a0 a1 c0 c1 w
  have m1 : (decide (NewB a0 a1 b0 b1) || decide (NewB b0 b1 a0 a1)) = true := by simpa using new_total
  have m2 : (a0 == b0 && a1 == b1) = (decide (NewB a0 a1 b0 b1) && decide (NewB b0 b1 a0 a1)) := by
    rw [Bool.eq_iff_iff]; simpa using new_both.symm
  have m3 : (decide (NewB a0 a1 b0 b1) && decide (NewB b0 b1 c0 c1)) = true → decide (NewB a0 a1 c0 c1) = true := by
    simpa using fun h k => new_trans h k
  have he := fun w => eq2 a0 a1 b0 b1 w
  rw [m2] at he
  clear m2
  generalize decide (NewB a0 a1 b0 b1) = v1 at *
  generalize decide (NewB b0 b1 a0 a1) = v2 at *
  generalize decide (NewB b0 b1 c0 c1) = v3 at *
  generalize decide (NewB a0 a1 c0 c1) = v4 at *
  have K1 := Lib.hid K1; have K2 := Lib.hid K2; have K3 := Lib.hid K3; have K4 := Lib.hid K4
  have M1 := Lib.hid m1; have M3 := Lib.hid m3
  clear m1 m3
  obtain ⟨W, hW⟩ : ∃ W, ((w.alloc (.cells #[.int .i64 a0, .int .i64 a1] 38)).alloc (.cells #[.int .i64 b0, .int .i64 b1] 38)).alloc (.cells #[.int .i64 c0, .int .i64 c1] 38) = W := ⟨_, rfl⟩
  have B2 := below_two w (.cells #[.int .i64 a0, .int .i64 a1] 38) (.cells #[.int .i64 b0, .int .i64 b1] 38)
  have B3 := below_box ((w.alloc (.cells #[.int .i64 a0, .int .i64 a1] 38)).alloc (.cells #[.int .i64 b0, .int .i64 b1] 38)) (.cells #[.int .i64 c0, .int .i64 c1] 38)
  have P1 : PairAt2 W w.heap.size a0 a1 := by rw [← hW]; exact row_below (row_below (heap_alloc_new _ _) (below_box _ _)) B3
  have P2 : PairAt2 W (w.heap.size + 1) b0 b1 := by rw [← hW]; exact row_below (heap_two _ _ _) B3
  have P3 : PairAt2 W (w.heap.size + 1 + 1) c0 c1 := by
    have h := heap_alloc_new ((w.alloc (.cells #[.int .i64 a0, .int .i64 a1] 38)).alloc (.cells #[.int .i64 b0, .int .i64 b1] 38)) (.cells #[.int .i64 c0, .int .i64 c1] 38)
    rw [size_box, size_box, hW] at h
    exact h
  have HB : Hid (Below w.heap.size w W) := Lib.hid (by rw [← hW]; exact B2.trans (B3.mono B2.size))
  have HP1 := Lib.hid P1; have HP2 := Lib.hid P2; have HP3 := Lib.hid P3
  have d1 : ∀ p : BelowOf W, p.v.cell? ⟨w.heap.size, 0, none⟩ = some (.int .i64 a0) := fun p => row_cell (row_below HP1.out p.h) 0
  have d2 : ∀ p : BelowOf W, p.v.cell? ⟨w.heap.size, 1, none⟩ = some (.int .i64 a1) := fun p => row_cell (row_below HP1.out p.h) 1
  have d3 : ∀ p : BelowOf W, p.v.cell? ⟨w.heap.size + 1, 0, none⟩ = some (.int .i64 b0) := fun p => row_cell (row_below HP2.out p.h) 0
  have d4 : ∀ p : BelowOf W, p.v.cell? ⟨w.heap.size + 1, 1, none⟩ = some (.int .i64 b1) := fun p => row_cell (row_below HP2.out p.h) 1
  clear B2 B3 P1 P2 P3
  go_enter Try.func6, Try.ntmps6
  go_upto_region 1 with fail
  refine wp_region_quiet_below (by kernel_rfl) (by kernel_rfl) ?_
  repeat (quiet_step (fail))
  quiet_step (exact Calls.below_of (K1.out _))
  repeat (quiet_step (fail))
  quiet_step (exact Calls.below_of (K2.out _))
  repeat (quiet_step (fail))
  refine wpQuiet_nil ?_
  rintro w9 ⟨⟨w9', hb9⟩, h9⟩
  simp only at h9 hb9
  subst h9
  have hQ1 : PairAt2 w9 w.heap.size a0 a1 := row_below HP1.out hb9
  have hQ2 : PairAt2 w9 (w.heap.size + 1) b0 b1 := row_below HP2.out hb9
  have hQ3 : PairAt2 w9 (w.heap.size + 1 + 1) c0 c1 := row_below HP3.out hb9
  have HB9 := Lib.hid (HB.out.trans (hb9.mono HB.out.size))
  have ld1 := ldPr_run hQ1
  have ld2 := ldPr_run hQ2
  have e1 : w9.cell? ⟨w.heap.size, 0, none⟩ = some (.int .i64 a0) := row_cell hQ1 0
  have e2 : w9.cell? ⟨w.heap.size, 1, none⟩ = some (.int .i64 a1) := row_cell hQ1 1
  have e3 : w9.cell? ⟨w.heap.size + 1, 0, none⟩ = some (.int .i64 b0) := row_cell hQ2 0
  have e4 : w9.cell? ⟨w.heap.size + 1, 1, none⟩ = some (.int .i64 b1) := row_cell hQ2 1
  have e5 : w9.cell? ⟨w.heap.size + 1 + 1, 0, none⟩ = some (.int .i64 c0) := row_cell hQ3 0
  have e6 : w9.cell? ⟨w.heap.size + 1 + 1, 1, none⟩ = some (.int .i64 c1) := row_cell hQ3 1
  clear d1 d2 d3 d4 hb9 hQ1 hQ2 hQ3 hW
  have fin : ∀ w', Below w9.heap.size w9 w' → Below w.heap.size w w' := fun w' h => HB9.out.trans (h.mono HB9.out.size)
  have Fin := Lib.hid fin; clear fin
  cases v1 with
  | false =>
    obtain rfl : v2 = true := by have := M1.out; simpa using this
    go_wp2_with (go_at_call 14; refine (awake_any _).mono ?_; rintro e w10 ⟨rfl, hz⟩; have Hz := Lib.hid hz; clear hz)
    go_ret
    exact ⟨rfl, Fin.out _ Hz.out⟩
  | true =>
    cases v3 with
    | false =>
      cases v2
      all_goals
        go_wp2_with (first
          | (go_at_call 14; refine (awake_any _).mono ?_; rintro e w10 ⟨rfl, hz⟩; have Hz := Lib.hid hz; clear hz)
          | (go_at_call 13; refine (K3.out _).mono ?_; rintro e w8 ⟨rfl, rfl⟩))
        go_ret
        exact ⟨rfl, Fin.out _ Hz.out⟩
    | true =>
      obtain rfl : v4 = true := M3.out rfl
      cases v2
      all_goals
        go_upto_region 4 with fail
        go_wp2_with (first
          | (go_at_call 14; refine (awake_any _).mono ?_; rintro e w10 ⟨rfl, hz⟩; have Hz := Lib.hid hz; clear hz)
          | (go_at_call_of 13 (Value.int .i64 a0); refine (K4.out _).mono ?_; rintro e w8 ⟨rfl, rfl⟩)
          | (go_at_call 13; refine (K3.out _).mono ?_; rintro e w8 ⟨rfl, rfl⟩))
        go_ret
        exact ⟨rfl, Fin.out _ Hz.out⟩

/-! ### THE ROW -/
theorem own : ownKnob Try.prog.godebug = none := by kernel_rfl

set_option maxRecDepth 100000 in
theorem lifted (os : Os) (started : os.Started) (H : Type) (enc : TypeId × Value → H) :
    ReturnsInHanded {} Try.checked os 6 .any (Rows.ballotNewSpec.pre6 enc Try.prog Try.f6 Rows.ballotNewRow.domain false) (Rows.ballotNewSpec.post enc Try.prog Try.f6 false true false false) := by
  refine returnsInHanded_of_change (C := Try.checked) own started (by kernel_rfl) Try.func6
    (ChangeSpec.witness6 (enc := enc) (C := Try.checked) false ⟨#[], #[.agg #[.int .i64 0, .int .i64 0], .agg #[.int .i64 0, .int .i64 0], .agg #[.int .i64 0, .int .i64 0]], []⟩ 8 (by kernel_rfl) (by kernel_rfl) (by kernel_rfl) (by kernel_rfl)) ?_
  intro W base args ds gs before hval0 hW hcnd _
  have hval : ∀ (j : Nat) t v, Try.f6.params[j]? = some t → args[j]? = some v → Value.okWide Try.prog W .any base t v := hval0
  have hW' := hW
  obtain ⟨p, q, hA0, hV, rfl, hfz, hnd⟩ := hW
  have hA : DataW.TrodAll enc Try.prog W 0 (fun _ => true) true Try.f6.params.toList args.toList ds p := hA0
  rw [Try.params6] at hA hval
  obtain ⟨v0, vs0, d0, ds0, p0, q0, hargs, rfl, rfl, h0, r0⟩ := trodAll_cons hA
  obtain ⟨v1, vs1, d1, ds1, p1, q1, rfl, rfl, rfl, h1, r1⟩ := trodAll_cons r0
  obtain ⟨v2, vs2, d2, ds2, p2, q2, rfl, rfl, rfl, h2, r2⟩ := trodAll_cons r1
  obtain ⟨rfl, rfl, rfl⟩ := trodAll_nil r2
  obtain rfl : args = #[v0, v1, v2] := by cases args; simp_all
  obtain ⟨rfl, rfl⟩ := trodVars_none hV
  obtain ⟨x0, y0, rfl, hx0, hy0⟩ := open_pair Try.underlying38 Try.underlying3 (by kernel_rfl) (by kernel_rfl) (hval 0 38 v0 rfl rfl) h0
  obtain ⟨x1, y1, rfl, hx1, hy1⟩ := open_pair Try.underlying38 Try.underlying3 (by kernel_rfl) (by kernel_rfl) (hval 1 38 v1 rfl rfl) h1
  obtain ⟨x2, y2, rfl, hx2, hy2⟩ := open_pair Try.underlying38 Try.underlying3 (by kernel_rfl) (by kernel_rfl) (hval 2 38 v2 rfl rfl) h2
  refine (walk x0 y0 x1 y1 x2 y2 W hx0 hy0 hx1 hy1 hx2 hy2).mono fun e W' ⟨he, hg⟩ => ?_
  subst he
  exact ⟨_, rfl, law_post hW' rfl (by kernel_rfl) (by kernel_rfl) (by kernel_rfl) Try.underlying4 rfl rfl rfl hg⟩

theorem over : Rows.ballotNewRow.holds Try.pinned (OpenSpec.ofChange Rows.ballotNewSpec) :=
  OpenClaim.holds_of_wide 6 Try.f6 rfl rfl rfl rfl rfl rfl rfl ⟨rfl, rfl, rfl, rfl, rfl⟩ rfl rfl rfl rfl rfl (by kernel_rfl) Try.func6 (by kernel_rfl)
    (of_decide_eq_true (by kernel_rfl)) (by unfold Func.isWrapper; first | (rw [if_pos (by decide +kernel)]; kernel_rfl) | (rw [if_neg (by decide +kernel)]; exact ⟨rfl, rfl⟩))
    (fun os started H enc _ => lifted os started H enc)

theorem proved : Rows.BallotNewSaid :=
  over
#print axioms proved

end Go.Proofs.Ytaficaapfccikaa.BallotNew
