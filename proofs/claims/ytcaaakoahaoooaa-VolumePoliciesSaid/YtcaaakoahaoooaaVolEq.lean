/-
  Two commands compared. No condition.
-/
import Derived.Test.YtcaaakoahaoooaaVolAw2
import Derived.Test.YtcaaakoahaoooaaVolOpen
import Derived.Laws.StructEq
namespace Go.Proofs.Ytcaaakoahaoooaa
open Go.ChangeShapes Go.WideShapes Go.ChangeAt Go.RowKit
set_option linter.unusedVariables false
set_option linter.unusedSimpArgs false

deriving instance DecidableEq for Cmd
set_option maxRecDepth 100000 in
theorem eqPol_in (d : Nat) (p q : Pol) (w : World) : (Op.equalIn (d + 2) 29 (.agg #[.int .i64 p.re, .int .i64 p.we, .int .i64 p.li, .int .i64 p.bu]) (.agg #[.int .i64 q.re, .int .i64 q.we, .int .i64 q.li, .int .i64 q.bu])).run Try.prog w = .ok (decide (p = q)) w := by
  rw [run_equalIn_struct w (d + 1) _ _ _ (by unfold Program.fieldsOf; rw [Try.underlying29]) (by kernel_rfl)]
  unfold Program.fieldsOf
  rw [Try.underlying29]
  simp only [Op.eqFields]
  go_simp
  obtain ⟨a1, a2, a3, a4⟩ := p
  obtain ⟨b1, b2, b3, b4⟩ := q
  simp only [Pol.mk.injEq]
  by_cases h1 : a1 = b1 <;> by_cases h2 : a2 = b2 <;> by_cases h3 : a3 = b3 <;> by_cases h4 : a4 = b4 <;> simp [h1, h2, h3, h4]
set_option maxRecDepth 100000 in
theorem eqCmd_in (d : Nat) (p q : Cmd) (w : World) : (Op.equalIn (d + 3) 36 (cmdA p) (cmdA q)).run Try.prog w = .ok (decide (p = q)) w := by
  have hp := eqPol_in d p.p q.p
  have hu := Try.underlying29
  unfold cmdA
  rw [run_equalIn_struct w (d + 2) _ _ _ (by unfold Program.fieldsOf; rw [Try.underlying36]) (by kernel_rfl)]
  unfold Program.fieldsOf
  rw [Try.underlying36]
  simp only [Op.eqFields]
  go_simp
  obtain ⟨a1, a2, a3, a4, a5⟩ := p
  obtain ⟨b1, b2, b3, b4, b5⟩ := q
  simp only [Cmd.mk.injEq]
  by_cases h1 : a1 = b1 <;> by_cases h2 : a2 = b2 <;> by_cases h3 : a3 = b3 <;> by_cases h4 : a4 = b4 <;> by_cases h5 : a5 = b5 <;> simp [h1, h2, h3, h4, h5]
theorem eqCmd_run (p q : Cmd) (w : World) : (binOp .eql 36 (cmdA p) (cmdA q)).run Try.prog w = .ok (.bool (decide (p = q))) w := by
  have h := eqCmd_in 9997 p q w
  unfold cmdA at h ⊢
  rw [run_eql_struct, h]
  rfl
theorem eqGuard_cmd (x y : Operand) (p q : Cmd) (w : World) : (eqGuard .eql 36 x y (cmdA p) (cmdA q)).run Try.prog w = .ok () w := by
  unfold cmdA
  exact run_eqGuard_agg w .eql _ x y _ _ (by kernel_rfl)
end Go.Proofs.Ytcaaakoahaoooaa
