/-
  A piece loaded whole; two pieces compared; contract of law20's awake. No condition but what each names.
-/
import Derived.Test.YtmdmpliiiecmlaaStrRef
import Derived.Laws.StructEq
namespace Go.Proofs.Ytmdmpliiiecmlaa
open Go.ChangeShapes Go.WideShapes Go.ChangeAt Go.RowKit
set_option linter.unusedVariables false
set_option linter.unusedSimpArgs false

def pcA (p : Pc) : Value := .agg #[.int .i64 p.ch, .int .i64 p.pa, .int .i64 p.ma, .int .i64 p.pf]
/-- the slice at A reads as l -/
def PcsAt (w : World) (A : Option Addr) (l : List Pc) : Prop := Seen w A (pcsV l)
theorem PcsAt.get {w : World} {A : Option Addr} {l : List Pc} (h : PcsAt w A l) {j : Nat} {p : Pc} (hj : l[j]? = some p) :
    ∃ g o, A = some ⟨g, o, none⟩ ∧ w.rangeAt g (o + j * 4) [.int .i64 p.ch, .int .i64 p.pa, .int .i64 p.ma, .int .i64 p.pf] := by
  obtain ⟨e0, e1, e2, e3⟩ := pcsV_get hj
  rcases h with h | ⟨g, o, hA, hc⟩
  · rw [h] at e0; simp at e0
  · refine ⟨g, o, hA, fun q v hv => ?_⟩
    match q, hv with
    | 0, hv => simp at hv; subst hv; exact hc _ _ e0
    | 1, hv => simp at hv; subst hv; have := hc _ _ e1; rwa [← Nat.add_assoc] at this
    | 2, hv => simp at hv; subst hv; have := hc _ _ e2; rwa [← Nat.add_assoc] at this
    | 3, hv => simp at hv; subst hv; have := hc _ _ e3; rwa [← Nat.add_assoc] at this
theorem pc_size : (Try.prog.info? 33).map (·.size) = some 4 := by kernel_rfl
def ldPc (p : Value) : Sem Value := Instr.loadAt 33 p
theorem ldPc_eq (p : Value) : Instr.loadAt 33 p = ldPc p := rfl
theorem ldPc_run {w : World} {g o : Nat} {p : Pc} (h : w.rangeAt g o [.int .i64 p.ch, .int .i64 p.pa, .int .i64 p.ma, .int .i64 p.pf]) :
    (ldPc (.pointer (some ⟨g, o, none⟩))).run Try.prog w = .ok (.agg #[.int .i64 p.ch, .int .i64 p.pa, .int .i64 p.ma, .int .i64 p.pf]) w :=
  run_loadAt_mid w g o 33 [.int .i64 p.ch, .int .i64 p.pa, .int .i64 p.ma, .int .i64 p.pf] _ h Try.underlying33 rfl pc_size
set_option maxRecDepth 100000 in
theorem eqPc_in (d : Nat) (p : Pc) (w : World) : (Op.equalIn (d + 2) 33 (.agg #[.int .i64 p.ch, .int .i64 p.pa, .int .i64 p.ma, .int .i64 p.pf]) (.agg #[.int .i64 p.ch, .int .i64 p.pa, .int .i64 p.ma, .int .i64 p.pf])).run Try.prog w = .ok true w := by
  rw [run_equalIn_struct w (d + 1) _ _ _ (by unfold Program.fieldsOf; rw [Try.underlying33]) (by kernel_rfl)]
  unfold Program.fieldsOf
  rw [Try.underlying33]
  simp only [Op.eqFields]
  go_simp
theorem eqPc_run (a b c d : Int) (w : World) : (binOp .eql 33 (.agg #[.int .i64 a, .int .i64 b, .int .i64 c, .int .i64 d]) (.agg #[.int .i64 a, .int .i64 b, .int .i64 c, .int .i64 d])).run Try.prog w = .ok (.bool true) w := by
  rw [run_eql_struct, eqPc_in 9998 ⟨a, b, c, d⟩ w]
  rfl
theorem neqPc_run (p : Pc) (w : World) : (binOp .neq 33 (.agg #[.int .i64 p.ch, .int .i64 p.pa, .int .i64 p.ma, .int .i64 p.pf]) (.agg #[.int .i64 p.ch, .int .i64 p.pa, .int .i64 p.ma, .int .i64 p.pf])).run Try.prog w = .ok (.bool false) w := by
  rw [run_neq_struct, eqPc_in 9998 p w]
  rfl
theorem eqGuard_pc (op : BinOp) (x y : Operand) (p q : Array Value) (w : World) : (eqGuard op 33 x y (.agg p) (.agg q)).run Try.prog w = .ok () w :=
  run_eqGuard_agg w op _ x y _ _ (by kernel_rfl)
theorem ex_pcs : pcsF 6 (6 + 5) = [⟨0, 6, 2, 0⟩, ⟨1, 0, 3, 2⟩] := by
  simp [pcsF, pcsTo, pcAt, List.range_succ]
attribute [local go_sem ↓] ldPc_eq
attribute [local irreducible] wpQuiet
set_option maxRecDepth 100000 in
set_option maxHeartbeats 2000000 in
theorem awake_any (w : World) : Calls Try.prog 12 #[] w fun e w' => e = .returned (.bool true) ∧ Below w.heap.size w w' := by
  have K := SSplit_yes 20 6 5 w (by omega) (by omega) (by omega)
  rw [ex_pcs] at K
  have k1 := fun W => eqPc_run 0 6 2 0 W
  have k2 := fun W => eqPc_run 1 0 3 2 W
  have q1 := fun op x y p q W => eqGuard_pc op x y p q W
  go_enter Try.func12, Try.ntmps12
  go_wp2_with (go_at_call 7; refine K.mono ?_; rintro e w1 ⟨A1, c1, rfl, h1, b1⟩; obtain ⟨g1, o1, rfl, r1⟩ := PcsAt.get (own_seenM h1) (j := 0) (p := ⟨0, 6, 2, 0⟩) rfl; obtain ⟨g2, o2, e2, r2⟩ := PcsAt.get (own_seenM h1) (j := 1) (p := ⟨1, 0, 3, 2⟩) rfl; injection e2 with e2; injection e2 with e2 e3; subst e2; subst e3; rw [Nat.zero_mul, Nat.add_zero] at r1; rw [Nat.one_mul] at r2; have l1 := ldPc_run r1; have l2 := ldPc_run r2; clear h1 r1 r2; simp only [List.length_cons, List.length_nil])
  go_ret
  exact ⟨rfl, b1⟩
end Go.Proofs.Ytmdmpliiiecmlaa
