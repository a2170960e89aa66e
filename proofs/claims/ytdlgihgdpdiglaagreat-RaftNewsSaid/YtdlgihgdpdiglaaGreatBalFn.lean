/-
  Contracts of ballot's isId, AsNew, Right, See, Stand, and the document's Right and See. No condition.
-/
import Derived.Test.YtdlgihgdpdiglaaGreatBalMem
namespace Go.Proofs.YtdlgihgdpdiglaaGreat.bal
open Go.ChangeShapes Go.WideShapes Go.ChangeAt Go.RowKit
set_option linter.unusedVariables false

theorem isId_any (n : Int) (w : World) :
    Calls Tryz.prog 180 #[.int .i64 n] w fun e w' => e = .returned (.bool (decide (0 ≤ n ∧ n ≤ 15))) ∧ w = w' := by
  by_cases h1 : 0 ≤ n
  · by_cases h2 : n ≤ 15
    all_goals
      go_enter Tryz.func180, Tryz.ntmps180
      go_wp2
      go_ret
      exact ⟨bool_eq (by simp <;> omega), rfl⟩
  · go_enter Tryz.func180, Tryz.ntmps180
    go_wp2
    go_ret
    exact ⟨bool_eq (by simp <;> omega), rfl⟩
theorem AsNew_any (t i u j : Int) (w : World) :
    Calls Tryz.prog 203 #[.int .i64 t, .int .i64 i, .int .i64 u, .int .i64 j] w fun e w' => e = .returned (.bool (decide (NewB t i u j))) ∧ w = w' := by
  obtain ⟨r, hr⟩ : ∃ r, decide (NewB t i u j) = r := ⟨_, rfl⟩
  rw [hr]
  have Hr := Lib.hid hr
  clear hr
  by_cases h1 : u < t
  · obtain rfl : r = true := by rw [← Hr.out]; exact decide_eq_true (.inl h1)
    go_enter Tryz.func203, Tryz.ntmps203
    go_wp2
    go_ret
    exact ⟨rfl, rfl⟩
  · by_cases h2 : t = u
    · have q2 : (t == u) = true := by simpa using h2
      by_cases h3 : j ≤ i
      · obtain rfl : r = true := by rw [← Hr.out]; exact decide_eq_true (.inr ⟨h2, h3⟩)
        clear h2
        go_enter Tryz.func203, Tryz.ntmps203
        go_wp2
        go_ret
        exact ⟨rfl, rfl⟩
      · obtain rfl : r = false := by rw [← Hr.out]; exact decide_eq_false fun h => h.elim h1 fun k => h3 k.2
        clear h2
        go_enter Tryz.func203, Tryz.ntmps203
        go_wp2
        go_ret
        exact ⟨rfl, rfl⟩
    · have q2 : (t == u) = false := by simpa using h2
      obtain rfl : r = false := by rw [← Hr.out]; exact decide_eq_false fun h => h.elim h1 fun k => h2 k.1
      go_enter Tryz.func203, Tryz.ntmps203
      go_wp2
      go_ret
      exact ⟨rfl, rfl⟩

set_option maxRecDepth 100000 in
theorem Right_any (b : Bal) (w : World) : Calls Tryz.prog 113 #[.agg #[.int .i64 b.te, .int .i64 b.vo]] w fun e w' => e = .returned (.bool (decide (RightB b))) ∧ Below w.heap.size w w' := by
  obtain ⟨r, hr⟩ : ∃ r, decide (RightB b) = r := ⟨_, rfl⟩
  rw [hr]
  obtain ⟨te, vo⟩ := b
  show Calls _ _ #[.agg #[.int .i64 te, .int .i64 vo]] _ _
  have Hr := Lib.hid hr; clear hr
  have Hb := Lib.hid (below_box w (.cells #[.int .i64 te, .int .i64 vo] 92))
  have no : (¬ (0 ≤ te ∧ te ≤ 1099511627776 ∧ -1 ≤ vo ∧ vo ≤ 15)) → r = false := fun h => by rw [← Hr.out]; exact decide_eq_false h
  have yes : (0 ≤ te ∧ te ≤ 1099511627776 ∧ -1 ≤ vo ∧ vo ≤ 15) → r = true := fun h => by rw [← Hr.out]; exact decide_eq_true h
  have No := Lib.hid no; have Yes := Lib.hid yes; clear no yes
  by_cases h1 : 0 ≤ te
  · by_cases h2 : te ≤ 1099511627776
    · by_cases h3 : vo = -1
      · have q3 : (vo == -1) = true := by simpa using h3
        obtain rfl := Yes.out ⟨h1, h2, by omega, by omega⟩
        clear h3
        go_enter Tryz.func113, Tryz.ntmps113
        go_wp2
        go_ret
        exact ⟨rfl, Hb.out⟩
      · have q3 : (vo == -1) = false := by simpa using h3
        have C := fun w => isId_any vo w
        obtain rfl : r = decide (0 ≤ vo ∧ vo ≤ 15) := by
          by_cases h4 : 0 ≤ vo ∧ vo ≤ 15
          · rw [Yes.out ⟨h1, h2, by omega, by omega⟩, decide_eq_true h4]
          · rw [No.out (by omega), decide_eq_false h4]
        clear No Yes Hr
        generalize decide (0 ≤ vo ∧ vo ≤ 15) = s at C ⊢
        have C := Lib.hid C
        clear h3
        go_enter Tryz.func113, Tryz.ntmps113
        go_wp2_with (go_at_call 180; refine (C.out _).mono ?_; rintro e w' ⟨rfl, rfl⟩)
        go_ret
        exact ⟨rfl, Hb.out⟩
    · obtain rfl := No.out (by omega)
      go_enter Tryz.func113, Tryz.ntmps113
      go_wp2
      go_ret
      exact ⟨rfl, Hb.out⟩
  · obtain rfl := No.out (by omega)
    go_enter Tryz.func113, Tryz.ntmps113
    go_wp2
    go_ret
    exact ⟨rfl, Hb.out⟩
set_option maxRecDepth 100000 in
theorem See_any (b : Bal) (t : Int) (w : World) : Calls Tryz.prog 204 #[.agg #[.int .i64 b.te, .int .i64 b.vo], .int .i64 t] w fun e w' => e = .returned (.agg #[.int .i64 (seeB b t).te, .int .i64 (seeB b t).vo]) ∧ Below w.heap.size w w' := by
  obtain ⟨te, vo⟩ := b
  show Calls _ _ #[.agg #[.int .i64 te, .int .i64 vo], _] _ _
  by_cases h1 : te < t
  · rw [show seeB ⟨te, vo⟩ t = ⟨t, -1⟩ from if_pos h1]
    go_enter Tryz.func204, Tryz.ntmps204
    go_wp2
    refine bodyPost_ret (results_cell_row rfl _ _ (w.heap.size + 1) 92 _ (0, 0) _ rfl (heap_two _ _ _) Tryz.underlying92 rfl bal_info) rfl ⟨rfl, below_two _ _ _⟩
  · rw [show seeB ⟨te, vo⟩ t = ⟨te, vo⟩ from if_neg h1]
    go_enter Tryz.func204, Tryz.ntmps204
    go_wp2
    refine bodyPost_ret (results_cell_row rfl _ _ (w.heap.size + 1) 92 _ (0, 0) _ rfl (heap_two _ _ _) Tryz.underlying92 rfl bal_info) rfl ⟨rfl, below_two _ _ _⟩
def standB (b : Bal) (me : Int) : Bal := if b.te = 9223372036854775807 then b else ⟨b.te + 1, me⟩
set_option maxRecDepth 100000 in
theorem Stand_any (b : Bal) (me : Int) (w : World) (hb : InB b) : Calls Tryz.prog 112 #[.agg #[.int .i64 b.te, .int .i64 b.vo], .int .i64 me] w fun e w' => e = .returned (.agg #[.int .i64 (standB b me).te, .int .i64 (standB b me).vo]) ∧ Below w.heap.size w w' := by
  obtain ⟨te, vo⟩ := b
  obtain ⟨⟨b1, b2⟩, _⟩ := hb
  simp only at b1 b2
  show Calls _ _ #[.agg #[.int .i64 te, .int .i64 vo], _] _ _
  by_cases h1 : te = 9223372036854775807
  · rw [show standB ⟨te, vo⟩ me = ⟨te, vo⟩ from if_pos h1]
    have q1 : (te == 9223372036854775807) = true := by simpa using h1
    clear h1
    go_enter Tryz.func112, Tryz.ntmps112
    go_wp2
    refine bodyPost_ret (results_cell_row rfl _ _ (w.heap.size + 1) 92 _ (0, 0) _ rfl (heap_two _ _ _) Tryz.underlying92 rfl bal_info) rfl ⟨rfl, below_two _ _ _⟩
  · rw [show standB ⟨te, vo⟩ me = ⟨te + 1, me⟩ from if_neg h1]
    have q1 : (te == 9223372036854775807) = false := by simpa using h1
    have q2 : te + 1 ≤ 9223372036854775807 := by omega
    clear h1
    go_enter Tryz.func112, Tryz.ntmps112
    go_wp2
    refine bodyPost_ret (results_cell_row rfl _ _ (w.heap.size + 1) 92 _ (0, 0) _ rfl (heap_two _ _ _) Tryz.underlying92 rfl bal_info) rfl ⟨?_, below_two _ _ _⟩
    go_num
end Go.Proofs.YtdlgihgdpdiglaaGreat.bal
