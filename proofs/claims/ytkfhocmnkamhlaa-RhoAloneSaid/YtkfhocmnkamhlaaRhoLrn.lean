/-
  Contract of (*rho.Tracker).learn. Conditions: what each names.
-/
import Derived.Test.YtkfhocmnkamhlaaRhoFn
import Derived.RegionTactic
import Derived.Deep.RegionHeld3
import Derived.WalkSpells
import Derived.Carry
namespace Go.Proofs.Ytkfhocmnkamhlaa
open Go.ChangeShapes Go.WideShapes Go.ChangeAt Go.RowKit Go.Maps
set_option linter.unusedVariables false

/-- what a call that only turns a tracker hands back -/
def LearnRet (B g n : Nat) (m : Option Nat) (t : Cn) (f : Int → Cn) (w : World) (en : Ending) (w' : World) : Prop :=
  en = .returned (.tuple #[]) ∧ ∃ m', TrkAt w' B g n m' t f ∧ Turned (FootT g m) w w' ∧ ∀ k, FootT g m' k → FootT g m k ∨ w.heap.size ≤ k
theorem new_cn (w : World) (a b : Int) : (w.alloc (.cells #[.int .i64 a, .int .i64 b] 25)).cell? ⟨w.heap.size, 0, none⟩ = some (.int .i64 a) ∧ (w.alloc (.cells #[.int .i64 a, .int .i64 b] 25)).cell? ⟨w.heap.size, 1, none⟩ = some (.int .i64 b) :=
  ⟨row_cell (heap_alloc_new w (.cells #[.int .i64 a, .int .i64 b] 25)) 0, row_cell (heap_alloc_new w (.cells #[.int .i64 a, .int .i64 b] 25)) 1⟩
/-- a tracker whose map was written -/
theorem TrkAt.put {w w' : World} {B g n b : Nat} {t : Cn} {f : Int → Cn} {s : Int} {c : Cn} {ks : List Int} (h : TrkAt w B g n (some b) t f) (hk : MapC w B (some b) ks f) (hn : ks.length ≤ n) (hm : CntsAt w' b (putK ks s) (updC f s c)) (ht : Turned (fun k => k = b) w w') (hg : GoodT (n + 1) t (updC f s c)) :
    TrkAt w' B g (n + 1) (some b) t (updC f s c) := by
  refine ⟨h.base, ht.heap h.row (fun e => h.apart rfl e.symm), ⟨putK ks s, ⟨fun k hk2 => ?_, .inr ⟨b, rfl, ?_, hm⟩⟩, ?_⟩, hg⟩
  · have h1 : k ≠ s := fun e => hk2 (mem_putK.2 (.inl e))
    rw [updC_other h1]
    exact hk.1 k fun e => hk2 (mem_putK.2 (.inr e))
  · exact (h.spares (.inr rfl)).1
  · exact Nat.le_trans (putK_length ks s) (by omega)

/-- three cells of two blocks -/
def Cells3 (w : World) (g h : Nat) (u0 u1 u2 : Value) : Prop := w.cell? ⟨g, 2, none⟩ = some u0 ∧ w.cell? ⟨h, 0, none⟩ = some u1 ∧ w.cell? ⟨h, 1, none⟩ = some u2
theorem kept3 {w w' : World} {g h : Nat} {u0 u1 u2 : Value} (H : Cells3 w g h u0 u1 u2) (hb : Below w.heap.size w w') : Cells3 w' g h u0 u1 u2 :=
  ⟨(hb.cell (block_lt_of_cell H.1)).trans H.1, (hb.cell (block_lt_of_cell H.2.1)).trans H.2.1, (hb.cell (block_lt_of_cell H.2.2)).trans H.2.2⟩
theorem kept3T {p : Nat → Prop} {w w' : World} {g h : Nat} {u0 u1 u2 : Value} (H : Cells3 w g h u0 u1 u2) (ht : Turned p w w') (hg : ¬ p g) (hh : ¬ p h) : Cells3 w' g h u0 u1 u2 := ⟨ht.cell H.1 hg, ht.cell H.2.1 hh, ht.cell H.2.2 hh⟩
section
variable {P : Program} {w : World} {ops : Array Oper} {o : Oper} {a : Act} {K : Act → World → Prop} {Q : Exit → Act → World → Prop} {E : Prop}
/-- m[k], at a step of a region whose order is drawn -/
theorem step_get (hgd : o.guard = none) (m x : Operand) (T : TypeId) (ho : o.op = Op.lookup T m x false) (v : Value) (hrun : (Instr.lookup T (a.eval m) (a.eval x) false).run P w = .ok v w) (h : K (a.put o.dst v) w) :
    if Region.wanted o (yielded ops a.tmps) = true then Oper.wp P o a w K Q else E := by
  have hw : Region.wanted o (yielded ops a.tmps) = true := by simp [Region.wanted, hgd]
  rw [if_pos hw]
  unfold Oper.wp
  simp [execOp, ho, hrun, Result.andThen]
  exact h
/-- m[k] = v, at a step of a region whose order is drawn -/
theorem step_put (hgd : o.guard = none) (m x v : Operand) (T : TypeId) (ho : o.op = Op.mapUpdate T m x v) (w' : World) (hrun : (Instr.mapUpdate T (a.eval m) (a.eval x) (a.eval v)).run P w = .ok () w') (h : K (a.put o.dst undef) w') :
    if Region.wanted o (yielded ops a.tmps) = true then Oper.wp P o a w K Q else E := by
  have hw : Region.wanted o (yielded ops a.tmps) = true := by simp [Region.wanted, hgd]
  rw [if_pos hw]
  unfold Oper.wp
  simp [execOp, ho, hrun, Result.andThen]
  exact h
end

set_option maxRecDepth 100000 in
set_option maxHeartbeats 4000000 in
theorem learn_some (B g n b : Nat) (t : Cn) (f : Int → Cn) (s : Int) (c : Cn) (w : World) (H : TrkAt w B g n (some b) t f) (hs : -9223372036854775808 ≤ s ∧ s ≤ 9223372036854775807) (hn : n ≤ 100000) (hc : GoodT (n + 1) t (updC f s (addC (f s) c))) (hcs : SmallC c) (h0 : (c.1 == 0) = false) :
    Calls Try.prog 14 #[.pointer (some ⟨g, 0, none⟩), .int .i64 s, .agg #[.int .i64 c.1, .int .i64 c.2]] w (LearnRet B g (n + 1) (some b) t (updC f s (addC (f s) c)) w) := by
  obtain ⟨W1, hW1⟩ : ∃ W1, w.alloc (.cells #[.int .i64 c.1, .int .i64 c.2] 25) = W1 := ⟨_, rfl⟩
  have hb1 : Below w.heap.size w W1 := by rw [← hW1]; exact below_boxT _ _
  have x0 : W1.cell? ⟨w.heap.size, 0, none⟩ = some (.int .i64 c.1) := by rw [← hW1]; exact (new_cn _ _ _).1
  have x1 : W1.cell? ⟨w.heap.size, 1, none⟩ = some (.int .i64 c.2) := by rw [← hW1]; exact (new_cn _ _ _).2
  have H1 := H.below hb1
  obtain ⟨ks, hk, hkl⟩ := H1.map
  have a2 : W1.cell? ⟨g, 2, none⟩ = some (.map (some b)) := row_cell H1.row 2
  have hl : (Instr.lookup 26 (.map (some b)) (.int .i64 s) false).run Try.prog W1.drew = .ok (.agg #[.int .i64 (f s).1, .int .i64 (f s).2]) W1.drew := (hk.below (Below.refl _ _).drew).get hs.1 hs.2
  have hsm : SmallC (f s) := by have := H.good.bd s; unfold SmallC; omega
  have Hn := Lib.hid hn; have Hs := Lib.hid hs; have H1' := Lib.hid H1; have Hk := Lib.hid hk; have Hkl := Lib.hid (show ks.length ≤ 1000000 by omega); have Hkl0 := Lib.hid hkl; have Hb1 := Lib.hid hb1; have Hc := Lib.hid hc; have Hcs := Lib.hid hcs; have Hsm := Lib.hid hsm; have H' := Lib.hid H
  have Kp := Lib.hid (fun w => plus_any (f s) c w hsm hcs)
  have hkb : CntsAt W1.drew b ks f := by
    rcases hk with ⟨_, ⟨e, _⟩ | ⟨b', e, _, h⟩⟩
    · cases e
    · injection e with e; subst e; exact h
  have Hkb := Lib.hid hkb
  clear hn hkb hs H1 hk hkl hb1 hc hcs hsm H
  have q25 : ∀ (w : World) (r : Option Nat), (binOp .eql 26 (.map r) (.map none)).run Try.prog w = .ok (.bool r.isNone) w := fun w r => run_eql_map_nil w _ _ _ r Try.underlying26
  go_enter Try.func14, Try.ntmps14
  go_wp2
  clear hW1
  have Ha := Lib.hid (And.intro a2 (And.intro x0 x1))
  have Hgs := Lib.hid (show g ≠ w.heap.size ∧ b ≠ g ∧ b < w.heap.size from ⟨fun e => by have := (H'.out.spares (.inl rfl)).2; omega, H'.out.apart rfl, (H'.out.spares (.inr rfl)).2⟩)
  go_region_held3 (fun w' => w'.cell? ⟨g, 2, none⟩ = some (.map (some b)) ∧ w'.cell? ⟨w.heap.size, 0, none⟩ = some (.int .i64 c.1) ∧ w'.cell? ⟨w.heap.size, 1, none⟩ = some (.int .i64 c.2))
    (first | exact Ha.out | exact Y2.out | exact Y3.out)
    (first
      | (go_at_call 16; refine (Kp.out W1.drew).mono ?_; rintro e w2 ⟨rfl, hb2⟩; obtain ⟨w3, hr3, hm3, ht3⟩ := put_run ((f s).1 + c.1, (f s).2 + c.2) (CntsAt.below (w := W1.drew) Hkb.out hb2) Hs.out.1 Hs.out.2 Hkl.out; have Y2 := Lib.hid (kept3 (w := W1.drew) Ha.out hb2); have Y3 := Lib.hid (kept3T Y2.out ht3 (fun e => Hgs.out.2.1 e.symm) (fun e => by have := Hgs.out.2.2; omega)); have Hb2 := Lib.hid hb2; have Hm3 := Lib.hid hm3; have Ht3 := Lib.hid ht3; clear hb2 hm3 ht3))
  all_goals
    go_end0
    unfold LearnRet
    refine ⟨rfl, some b, TrkAt.put (w := w2) (TrkAt.below (w := W1.drew) (H1'.out.below (Below.refl _ _).drew) Hb2.out) (MapC.below (w := W1.drew) (Hk.out.below (Below.refl _ _).drew) Hb2.out) Hkl0.out Hm3.out Ht3.out Hc.out, ?_, fun k hk => .inl hk⟩
    exact (((Turned.of_below (p := FootT g (some b)) Hb1.out).trans (.of_below (p := fun _ => False) (Below.refl _ _).drew) (fun _ e => e) (fun _ _ e => e.elim)).trans (.of_below (p := fun _ => False) Hb2.out) (fun _ e => e) (fun _ _ e => e.elim)).trans Ht3.out (fun _ e => e) (fun k _ e => .inr (by rw [e]))

theorem makes (w : World) (B g n : Nat) (t : Cn) (f : Int → Cn) (H : TrkAt w B g n none t f) (hB : B ≤ w.heap.size) :
    TrkAt ((w.alloc (.map #[] 0)).setCell ⟨g, 2, none⟩ (.map (some w.heap.size))) B g n (some w.heap.size) t f ∧ MapC ((w.alloc (.map #[] 0)).setCell ⟨g, 2, none⟩ (.map (some w.heap.size))) B (some w.heap.size) [] f ∧
      CntsAt ((w.alloc (.map #[] 0)).setCell ⟨g, 2, none⟩ (.map (some w.heap.size))) w.heap.size [] f ∧ Turned (fun k => k = g) w ((w.alloc (.map #[] 0)).setCell ⟨g, 2, none⟩ (.map (some w.heap.size))) := by
  have hg := (H.spares (.inl rfl)).2
  have hr := (below_boxT w (.map #[] 0)).block g hg
  have h1 : (w.alloc (.map #[] 0)).heap[g]? = some (.cells #[.int .i64 t.1, .int .i64 t.2, .map none] 28 (0, 0)) := by rw [hr]; exact H.row
  have h2 := row_set h1 2 (.map (some w.heap.size))
  have h0 : ∀ k, f k = (0, 0) := fun k => by
    obtain ⟨ks, ⟨h0, ⟨_, rfl⟩ | ⟨b, e, _⟩⟩, _⟩ := H.map
    · exact h0 k (by simp)
    · cases e
  have hc : CntsAt (w.alloc (.map #[] 0)) w.heap.size [] f := CntsAt.made w f
  have hc2 : CntsAt ((w.alloc (.map #[] 0)).setCell ⟨g, 2, none⟩ (.map (some w.heap.size))) w.heap.size [] f := hc.turned ((Turned.refl (fun k => k = g) _).setCell (b := ⟨g, 2, none⟩) (fun _ => rfl) _) (by omega)
  have hm : MapC ((w.alloc (.map #[] 0)).setCell ⟨g, 2, none⟩ (.map (some w.heap.size))) B (some w.heap.size) [] f := ⟨fun k _ => h0 k, .inr ⟨_, rfl, hB, hc2⟩⟩
  refine ⟨⟨H.base, h2, ⟨[], hm, by simp⟩, H.good⟩, hm, hc2, ?_⟩
  exact ((Turned.of_below (p := fun k => k = g) (below_boxT w (.map #[] 0)))).setCell (b := ⟨g, 2, none⟩) (fun _ => rfl) _
set_option maxRecDepth 100000 in
set_option maxHeartbeats 4000000 in
theorem learn_none (B g n : Nat) (t : Cn) (f : Int → Cn) (s : Int) (c : Cn) (w : World) (H : TrkAt w B g n none t f) (hB : B ≤ w.heap.size) (hs : -9223372036854775808 ≤ s ∧ s ≤ 9223372036854775807) (hn : n ≤ 100000) (hc : GoodT (n + 1) t (updC f s (addC (f s) c))) (hcs : SmallC c) (h0 : (c.1 == 0) = false) :
    Calls Try.prog 14 #[.pointer (some ⟨g, 0, none⟩), .int .i64 s, .agg #[.int .i64 c.1, .int .i64 c.2]] w (LearnRet B g (n + 1) none t (updC f s (addC (f s) c)) w) := by
  obtain ⟨W1, hW1⟩ : ∃ W1, w.alloc (.cells #[.int .i64 c.1, .int .i64 c.2] 25) = W1 := ⟨_, rfl⟩
  have hb1 : Below w.heap.size w W1 := by rw [← hW1]; exact below_boxT _ _
  have x0 : W1.cell? ⟨w.heap.size, 0, none⟩ = some (.int .i64 c.1) := by rw [← hW1]; exact (new_cn _ _ _).1
  have x1 : W1.cell? ⟨w.heap.size, 1, none⟩ = some (.int .i64 c.2) := by rw [← hW1]; exact (new_cn _ _ _).2
  have H0 := H.below hb1
  obtain ⟨b, hbz⟩ : ∃ b, W1.heap.size = b := ⟨_, rfl⟩
  have hbw : b = w.heap.size + 1 := by rw [← hbz, ← hW1]; simp
  have hn2 : W1.cell? ⟨g, 2, none⟩ = some (.map none) := row_cell H0.row 2
  have hz2 : W1.frozen? ⟨g, 2, none⟩ = false := row_frozen H0.row 2
  obtain ⟨W0, hW0⟩ : ∃ W0, W1.alloc (.map #[] 0) = W0 := ⟨_, rfl⟩
  have hn3 : W0.cell? ⟨g, 2, none⟩ = some (.map none) := by rw [← hW0]; exact ((below_boxT W1 _).cell (block_lt_of_cell hn2)).trans hn2
  have hz3 : W0.frozen? ⟨g, 2, none⟩ = false := by rw [← hW0]; exact row_frozen (((below_boxT W1 (.map #[] 0)).block g (block_lt_of_cell hn2)).trans H0.row) 2
  obtain ⟨W3, hW3⟩ : ∃ W3, W0.setCell ⟨g, 2, none⟩ (.map (some b)) = W3 := ⟨_, rfl⟩
  obtain ⟨H1, hk, hkc, ht1⟩ := makes W1 B g n t f H0 (Nat.le_trans hB hb1.size)
  rw [hbz, hW0, hW3] at H1 hk hkc ht1
  have hmm := @run_makeMap Try.prog
  have hkl : ([] : List Int).length ≤ n := by simp
  have hgw := (H.spares (.inl rfl)).2
  have y0 : W3.cell? ⟨w.heap.size, 0, none⟩ = some (.int .i64 c.1) := ht1.cell x0 (by show ¬ w.heap.size = g; omega)
  have y1 : W3.cell? ⟨w.heap.size, 1, none⟩ = some (.int .i64 c.2) := ht1.cell x1 (by show ¬ w.heap.size = g; omega)
  have Ht1 := Lib.hid ht1; clear ht1
  have a2 : W3.cell? ⟨g, 2, none⟩ = some (.map (some b)) := row_cell H1.row 2
  have hl : (Instr.lookup 26 (.map (some b)) (.int .i64 s) false).run Try.prog W3.drew = .ok (.agg #[.int .i64 (f s).1, .int .i64 (f s).2]) W3.drew := (hk.below (Below.refl _ _).drew).get hs.1 hs.2
  have hsm : SmallC (f s) := by have := H.good.bd s; unfold SmallC; omega
  have Hn := Lib.hid hn; have Hs := Lib.hid hs; have H1' := Lib.hid H1; have Hk := Lib.hid hk; have Hkl := Lib.hid (show ([] : List Int).length ≤ 1000000 by omega); have Hkl0 := Lib.hid hkl; have Hb1 := Lib.hid hb1; have Hc := Lib.hid hc; have Hcs := Lib.hid hcs; have Hsm := Lib.hid hsm; have H' := Lib.hid H
  have Kp := Lib.hid (fun w => plus_any (f s) c w hsm hcs)
  have hkb : CntsAt W3.drew b [] f := hkc
  have Hbw := Lib.hid hbw; have Hgw := Lib.hid hgw; have HBw := Lib.hid hB
  clear hkc H0 hbw hgw hB
  have Hkb := Lib.hid hkb
  clear hn hkb hs H1 hk hkl hb1 hc hcs hsm H
  have q25 : ∀ (w : World) (r : Option Nat), (binOp .eql 26 (.map r) (.map none)).run Try.prog w = .ok (.bool r.isNone) w := fun w r => run_eql_map_nil w _ _ _ r Try.underlying26
  go_enter Try.func14, Try.ntmps14
  go_wp2
  clear hW1 hW3 hW0 hn2 hn3 hz2 hz3 hmm hbz
  try clear x0 x1
  have Ha := Lib.hid (And.intro a2 (And.intro y0 y1))
  have Hgs := Lib.hid (show g ≠ w.heap.size ∧ b ≠ g ∧ ¬ b = w.heap.size from ⟨fun e => by have := Hgw.out; omega, fun e => by have := Hgw.out; have := Hbw.out; omega, by have := Hbw.out; omega⟩)
  go_region_held3 (fun w' => w'.cell? ⟨g, 2, none⟩ = some (.map (some b)) ∧ w'.cell? ⟨w.heap.size, 0, none⟩ = some (.int .i64 c.1) ∧ w'.cell? ⟨w.heap.size, 1, none⟩ = some (.int .i64 c.2))
    (first | exact Ha.out | exact Y2.out | exact Y3.out)
    (first
      | (go_at_call 16; refine (Kp.out W3.drew).mono ?_; rintro e w2 ⟨rfl, hb2⟩; obtain ⟨w3, hr3, hm3, ht3⟩ := put_run ((f s).1 + c.1, (f s).2 + c.2) (CntsAt.below (w := W3.drew) Hkb.out hb2) Hs.out.1 Hs.out.2 Hkl.out; have Y2 := Lib.hid (kept3 (w := W3.drew) Ha.out hb2); have Y3 := Lib.hid (kept3T Y2.out ht3 (fun e => Hgs.out.2.1 e.symm) (fun e => Hgs.out.2.2 e.symm)); have Hb2 := Lib.hid hb2; have Hm3 := Lib.hid hm3; have Ht3 := Lib.hid ht3; clear hb2 hm3 ht3))
  all_goals
    go_end0
    unfold LearnRet
    refine ⟨rfl, some b, TrkAt.put (w := w2) (TrkAt.below (w := W3.drew) (H1'.out.below (Below.refl _ _).drew) Hb2.out) (MapC.below (w := W3.drew) (Hk.out.below (Below.refl _ _).drew) Hb2.out) Hkl0.out Hm3.out Ht3.out Hc.out, ?_, fun k hk => by
      rcases hk with e | e
      · exact .inl (.inl e)
      · injection e with e
        have h1 := Hbw.out
        exact .inr (by omega)⟩
    exact ((((Turned.of_below (p := FootT g none) Hb1.out).trans Ht1.out (fun _ e => e) (fun k _ e => .inl e)).trans (.of_below (p := fun _ => False) (Below.refl _ _).drew) (fun _ e => e) (fun _ _ e => e.elim)).trans (.of_below (p := fun _ => False) Hb2.out) (fun _ e => e) (fun _ _ e => e.elim)).trans Ht3.out (fun _ e => e) (fun k hk e => by
      have h1 := Hbw.out
      omega)

theorem learn_any (B g n : Nat) (m : Option Nat) (t : Cn) (f : Int → Cn) (s : Int) (c : Cn) (w : World) (H : TrkAt w B g n m t f) (hB : B ≤ w.heap.size) (hs : -9223372036854775808 ≤ s ∧ s ≤ 9223372036854775807) (hn : n ≤ 100000) (hc : GoodT (n + 1) t (updC f s (addC (f s) c))) (hcs : SmallC c) (hz : c.1 = 0 → c.2 = 0) :
    Calls Try.prog 14 #[.pointer (some ⟨g, 0, none⟩), .int .i64 s, .agg #[.int .i64 c.1, .int .i64 c.2]] w (LearnRet B g (n + 1) m t (updC f s (addC (f s) c)) w) := by
  by_cases h0 : c.1 = 0
  · have e : c = (0, 0) := Prod.ext h0 (hz h0)
    subst e
    have e2 : updC f s (addC (f s) (0, 0)) = f := by
      have : addC (f s) (0, 0) = f s := by unfold addC; simp
      rw [this, updC_id]
    rw [e2]
    have Hb := Lib.hid (fun a => below_boxT w a)
    have H' := Lib.hid H
    clear H hc hcs hz h0 e2
    go_enter Try.func14, Try.ntmps14
    go_wp2
    go_end0
    exact ⟨rfl, m, (H'.out.below (Hb.out _)).mono (by omega), .of_below (Hb.out _), fun k hk => .inl hk⟩
  · have h1 : (c.1 == 0) = false := by simpa using h0
    cases m with
    | none => exact learn_none B g n t f s c w H hB hs hn hc hcs h1
    | some b => exact learn_some B g n b t f s c w H hs hn hc hcs h1
end Go.Proofs.Ytkfhocmnkamhlaa
