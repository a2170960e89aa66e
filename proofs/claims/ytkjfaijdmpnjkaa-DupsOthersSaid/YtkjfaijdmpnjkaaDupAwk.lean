/-
  The document's example computed: awake is true. No condition.
-/
import Derived.Test.YtkjfaijdmpnjkaaDupLd
namespace Go.Proofs.Ytkjfaijdmpnjkaa
open Go.ChangeShapes Go.WideShapes Go.ChangeAt Go.RowKit Go.Maps Go.Shelf Go.Sort
set_option linter.unusedVariables false

/-- a table that lies above the world's beginning -/
structure TabIn (w wr : World) (g : Nat) (x : List Lst) : Prop where
  below : Below w.heap.size w wr
  tab : ∃ m, TabAt wr g m x
  ok : TabOk x
  lo : w.heap.size ≤ g
theorem TabIn.start (w : World) : TabIn w (w.alloc (.cells #[.map none] 26)) w.heap.size [] := ⟨below_alloc _ _, ⟨none, new_tab w⟩, TabOk.nil, Nat.le_refl _⟩
theorem TabIn.put {w wr : World} {g : Nat} {x : List Lst} (h : TabIn w wr g x) (c n e : Int) (h1 : -9223372036854775808 ≤ c) (h2 : c ≤ 9223372036854775807) :
    Calls Try.prog 8 #[.pointer (some ⟨g, 0, none⟩), .int .i64 c, .int .i64 n, .int .i64 e] wr fun en w' => en = .returned (.int .i64 (putA x c n e)) ∧ TabIn w w' g (putX x c n e) ∧ Turned (fun k => k = g) wr w' := by
  obtain ⟨m, hm⟩ := h.tab
  have hlo := h.lo
  refine (Put_any g m x c n e wr hm h.ok h1 h2).mono ?_
  rintro en w' ⟨rfl, hm', ht⟩
  exact ⟨rfl, ⟨h.below.trans (ht.below (fun k e => by omega) h.below.size), hm', h.ok.putX c n e, h.lo⟩, ht⟩
theorem TabIn.over {w wr w' : World} {g : Nat} {x : List Lst} (h : TabIn w wr g x) (hb : Below wr.heap.size wr w') : TabIn w w' g x := by
  obtain ⟨m, hm⟩ := h.tab
  exact ⟨h.below.trans (hb.mono h.below.size), ⟨m, hm.below hb⟩, h.ok, h.lo⟩
theorem TabIn.check {w wr : World} {g : Nat} {x : List Lst} (h : TabIn w wr g x) (c n : Int) (h1 : -9223372036854775808 ≤ c) (h2 : c ≤ 9223372036854775807) :
    Calls Try.prog 11 #[.pointer (some ⟨g, 0, none⟩), .int .i64 c, .int .i64 n] wr fun en w' => en = .returned (.tuple #[.int .i64 (chkL x c n).1, .int .i64 (chkL x c n).2]) ∧ TabIn w w' g x ∧ Below wr.heap.size wr w' := by
  obtain ⟨m, hm⟩ := h.tab
  refine (Check_any g m x c n wr hm h1 h2).mono ?_
  rintro en w' ⟨rfl, hb⟩
  exact ⟨rfl, h.over hb, hb⟩
theorem aw_a : putA [] 9 5 5 = 0 := by decide
theorem aw_x : putX [] 9 5 5 = [(9, 5, 5)] := by decide
theorem aw_1 : chkL [(9, 5, 5)] 9 5 = (1, 5) := by decide
theorem aw_2 : chkL [(9, 5, 5)] 9 4 = (2, 0) := by decide
theorem aw_3 : chkL [(9, 5, 5)] 9 6 = (0, 0) := by decide

set_option maxRecDepth 100000 in
set_option maxHeartbeats 2000000 in
theorem awake_any (w : World) : Calls Try.prog 6 #[] w fun e w' => e = .returned (.bool true) ∧ Below w.heap.size w w' := by
  obtain ⟨W1, hW1⟩ : ∃ W1, w.alloc (.cells #[.map none] 26) = W1 := ⟨_, rfl⟩
  have T1 := Lib.hid (show TabIn w W1 w.heap.size [] by rw [← hW1]; exact TabIn.start w)
  go_enter Try.func6, Try.ntmps6
  go_wp2_with (first
    | (go_at_call 8; refine (T1.out.put 9 5 5 (by omega) (by omega)).mono ?_; rintro e w2 ⟨rfl, t2, -⟩; rw [aw_x] at t2; rw [aw_a]; have T2 := Lib.hid t2; clear t2)
    | (go_at_call_of 11 (Value.int .i64 5); refine (T2.out.check 9 5 (by omega) (by omega)).mono ?_; rintro e w3 ⟨rfl, t3, -⟩; rw [aw_1]; have T3 := Lib.hid t3; clear t3)
    | (go_at_call_of 11 (Value.int .i64 4); refine (T3.out.check 9 4 (by omega) (by omega)).mono ?_; rintro e w4 ⟨rfl, t4, -⟩; rw [aw_2]; have T4 := Lib.hid t4; clear t4)
    | (go_at_call_of 11 (Value.int .i64 6); refine (T4.out.check 9 6 (by omega) (by omega)).mono ?_; rintro e w5 ⟨rfl, t5, -⟩; rw [aw_3]; have T5 := Lib.hid t5; clear t5))
  go_ret
  exact ⟨rfl, T5.out.below⟩
end Go.Proofs.Ytkjfaijdmpnjkaa
