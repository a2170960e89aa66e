/-
  Contract of dotterelref15's Change (written by gen_quorch.py). Conditions: what the slice reads as.
-/
import Derived.Test.YtpoooehnobfjfaaQuoRef
import Derived.Test.YtpoooehnobfjfaaQuoChg
namespace Go.Proofs.Ytpoooehnobfjfaa
open Go.ChangeShapes Go.WideShapes Go.ChangeAt Go.RowKit
set_option linter.unusedVariables false

theorem next_yes (us : List Int) (add : Bool) (id : Int) {k : Nat} (h : refIn us add id (k : Int) = true) {B : Nat} {v : Value} {n : Nat} (w : World) (ho : w.ownsRow B 3 1 v n (numsV ((upTo k).filter (refIn us add id)) ++ [Value.int .i64 (k : Int)])) : w.ownsRow B 3 1 v n (numsV ((upTo (k + 1)).filter (refIn us add id))) := by
  have e : numsV ((upTo (k + 1)).filter (refIn us add id)) = numsV ((upTo k).filter (refIn us add id)) ++ [Value.int .i64 (k : Int)] := by
    rw [upTo_succ, List.filter_append, numsV_append]
    simp [h, numsV]
  rw [e]; exact ho
theorem next_no (us : List Int) (add : Bool) (id : Int) {k : Nat} (h : refIn us add id (k : Int) = false) {B : Nat} {v : Value} {n : Nat} (w : World) (ho : w.ownsRow B 3 1 v n (numsV ((upTo k).filter (refIn us add id)))) : w.ownsRow B 3 1 v n (numsV ((upTo (k + 1)).filter (refIn us add id))) := by
  have e : (upTo (k + 1)).filter (refIn us add id) = (upTo k).filter (refIn us add id) := by
    rw [upTo_succ, List.filter_append]
    simp [h]
  rw [e]; exact ho

set_option maxRecDepth 100000 in
set_option maxHeartbeats 4000000 in
theorem RChange_any (A : Option Addr) (n c : Nat) (us : List Int) (add : Bool) (id : Int) (w : World) (hn : us.length = n) (hnm : n ≤ maxLen) (hs : Seen w A (numsV us)) :
    Calls Try.prog 11 #[.slice A n c, .bool add, .int .i64 id] w (ChgRet (changeE us add id) (changeL us add id) w) := by
  have KR := Lib.hid (RRight_any A n c us w hn hnm hs)
  have KH := Lib.hid (fun v (w' : World) (hb : Below w.heap.size w w') => Has_any A n c us v w' hn hnm (hs.below hb))
  have Hn := Lib.hid hn
  by_cases hr : RightQ us
  · have Hr := Lib.hid hr
    by_cases i0 : id < 0
    · have e1 := err_arg2 (l := us) (add := add) (id := id) (fun h => by have := h.1; omega)
      rw [e1, changeL_no (by rw [e1]; omega)]
      clear hr hn hs e1
      go_enter Try.func11, Try.ntmps11
      go_wp2_with (first
        | (go_at_call 8; refine KR.out.mono ?_; rintro e w1 ⟨rfl, hb1⟩; rw [show decide (RightQ us) = true from decide_eq_true Hr.out]; have Hb1 := Lib.hid hb1; clear hb1))
      go_ret2
      exact chg_no rfl Hb1.out
    · by_cases i15 : 15 < id
      · have e1 := err_arg2 (l := us) (add := add) (id := id) (fun h => by have := h.2; omega)
        rw [e1, changeL_no (by rw [e1]; omega)]
        clear hr hn hs e1
        go_enter Try.func11, Try.ntmps11
        go_wp2_with (first
          | (go_at_call 8; refine KR.out.mono ?_; rintro e w1 ⟨rfl, hb1⟩; rw [show decide (RightQ us) = true from decide_eq_true Hr.out]; have Hb1 := Lib.hid hb1; clear hb1))
        go_ret2
        exact chg_no rfl Hb1.out
      · have hi : InQ id := ⟨by omega, by omega⟩
        by_cases hm : id ∈ us
        · have Hm := Lib.hid hm
          cases add with
          | true =>
            rw [err_there hr hi hm, changeL_no (by rw [err_there hr hi hm]; omega)]
            clear hr hi hn hs hm
            go_enter Try.func11, Try.ntmps11
            go_wp2_with (first
              | (go_at_call 8; refine KR.out.mono ?_; rintro e w1 ⟨rfl, hb1⟩; rw [show decide (RightQ us) = true from decide_eq_true Hr.out]; have Hb1 := Lib.hid hb1; clear hb1)
              | (go_at_call 27; refine (KH.out id w1 Hb1.out).mono ?_; rintro e w2 ⟨rfl, rfl⟩; rw [show decide (id ∈ us) = true from decide_eq_true Hm.out]))
            go_ret2
            exact chg_no rfl Hb1.out
          | false =>
            by_cases hone : us.length = 1
            · rw [err_state hr hi hm hone, changeL_no (by rw [err_state hr hi hm hone]; omega)]
              obtain rfl : n = 1 := by omega
              clear hr hi hn hs hm hone
              go_enter Try.func11, Try.ntmps11
              go_wp2_with (first
                | (go_at_call 8; refine KR.out.mono ?_; rintro e w1 ⟨rfl, hb1⟩; rw [show decide (RightQ us) = true from decide_eq_true Hr.out]; have Hb1 := Lib.hid hb1; clear hb1)
                | (go_at_call 27; refine (KH.out id w1 Hb1.out).mono ?_; rintro e w2 ⟨rfl, rfl⟩; rw [show decide (id ∈ us) = true from decide_eq_true Hm.out]))
              go_ret2
              exact chg_no rfl Hb1.out
            · have hok := ok_del hr hi hm hone
              have Href := Lib.hid (ref_change hok)
              rw [hok]
              have q0 : ((n : Int) == 1) = false := by simp; omega
              clear hr hi hn hs hm hone hok
              go_enter Try.func11, Try.ntmps11
              go_wp2_with (first
                | (go_at_call 8; refine KR.out.mono ?_; rintro e w1 ⟨rfl, hb1⟩; rw [show decide (RightQ us) = true from decide_eq_true Hr.out]; have Hb1 := Lib.hid hb1; clear hb1)
                | (go_at_call 27; refine (KH.out id w1 Hb1.out).mono ?_; rintro e w2 ⟨rfl, rfl⟩; rw [show decide (id ∈ us) = true from decide_eq_true Hm.out]))
              go_loopw [8, 9] (fun ov i wr => ∃ (k m : Nat) (A1 : Option Addr) (c1 : Nat), k ≤ 16 ∧ i = .int .i64 k ∧ ov = .slice A1 m c1 ∧ m ≤ k ∧ wr.ownsRow w.heap.size 3 1 (.slice A1 m c1) m (numsV ((upTo k).filter (refIn us false id))) ∧ Below w.heap.size w wr) (fun _ i _ => 16 - (intOf i).toNat)
              case atStart => exact ⟨0, 0, none, 0, by omega, rfl, rfl, Nat.le_refl _, World.ownsRow_nil _ _ _ _, Hb1.out⟩
              case round =>
                obtain ⟨k, m, A1, c1, hk, rfl, rfl, hmk, hown, hbw⟩ := hrel
                have Hown := Lib.hid hown; have Hbw := Lib.hid hbw
                clear hown hbw
                by_cases hlt : k < 16
                · have l1 : (k : Int) ≤ 15 := by omega
                  by_cases hmem : (k : Int) ∈ us
                  · have Hmem := Lib.hid hmem; clear hmem
                    by_cases heq : (k : Int) = id
                    · have q1 : ((k : Int) != id) = false := by simpa using heq
                      have q2 : ((k : Int) == id) = true := by simpa using heq
                      clear heq
                      have hp : refIn us false id (k : Int) = false := by unfold refIn; rw [show decide ((k : Int) ∈ us) = true from decide_eq_true Hmem.out, q1, q2]; rfl
                      have HP := Lib.hid hp; clear hp
                      go_wp2_with (go_at_call 27; refine (KH.out (k : Int) wr Hbw.out).mono ?_; rintro e w2 ⟨rfl, rfl⟩; rw [show decide ((k : Int) ∈ us) = true from decide_eq_true Hmem.out])
                      go_roundw
                      case rel => exact ⟨k + 1, m, A1, c1, by omega, by go_num, by first | trivial | rfl, by omega, next_no us false id HP.out _ Hown.out, Hbw.out⟩
                      case measure => simp [intOf]; omega
                    · have q1 : ((k : Int) != id) = true := by simpa using heq
                      have q2 : ((k : Int) == id) = false := by simpa using heq
                      clear heq
                      have hp : refIn us false id (k : Int) = true := by unfold refIn; rw [show decide ((k : Int) ∈ us) = true from decide_eq_true Hmem.out, q1, q2]; rfl
                      have HP := Lib.hid hp; clear hp
                      go_wp2_with (first
                        | (go_at_call 27; refine (KH.out (k : Int) wr Hbw.out).mono ?_; rintro e w2 ⟨rfl, rfl⟩; rw [show decide ((k : Int) ∈ us) = true from decide_eq_true Hmem.out])
                        | (at_builtin; refine wpList_app rfl (.tmp 71) (.tmp 73) _ rfl 3 _ 8 Try.underlying22 int_info rfl w.heap.size A1 m c1 (numsV ((upTo k).filter (refIn us false id))) rfl (Hown.out.alloc _) (some ⟨w2.heap.size, 0, none⟩) 1 1 [Value.int .i64 (k : Int)] rfl rfl (Seen.of_cells (heap_alloc_new w2 _)) (by simp [Value.oneCell']) (by unfold maxLen; omega) (by omega) (by have := Hbw.out.size; simp; omega) ?_; intro A3 c3 w3 hown3 hb3; have Hown3 := Lib.hid hown3; have Hb3 := Lib.hid ((Hbw.out.alloc Hbw.out.size _).trans hb3); clear hown3 hb3))
                      go_roundw
                      case rel => exact ⟨k + 1, m + 1, A3, c3, by omega, by go_num, by first | trivial | rfl, by omega, next_yes us false id HP.out _ Hown3.out, Hb3.out⟩
                      case measure => simp [intOf]; omega
                  · have Hmem := Lib.hid hmem; clear hmem
                    by_cases heq : (k : Int) = id
                    · have q1 : ((k : Int) != id) = false := by simpa using heq
                      have q2 : ((k : Int) == id) = true := by simpa using heq
                      clear heq
                      have hp : refIn us false id (k : Int) = false := by unfold refIn; rw [show decide ((k : Int) ∈ us) = false from decide_eq_false Hmem.out, q1, q2]; rfl
                      have HP := Lib.hid hp; clear hp
                      go_wp2_with (go_at_call 27; refine (KH.out (k : Int) wr Hbw.out).mono ?_; rintro e w2 ⟨rfl, rfl⟩; rw [show decide ((k : Int) ∈ us) = false from decide_eq_false Hmem.out])
                      go_roundw
                      case rel => exact ⟨k + 1, m, A1, c1, by omega, by go_num, by first | trivial | rfl, by omega, next_no us false id HP.out _ Hown.out, Hbw.out⟩
                      case measure => simp [intOf]; omega
                    · have q1 : ((k : Int) != id) = true := by simpa using heq
                      have q2 : ((k : Int) == id) = false := by simpa using heq
                      clear heq
                      have hp : refIn us false id (k : Int) = false := by unfold refIn; rw [show decide ((k : Int) ∈ us) = false from decide_eq_false Hmem.out, q1, q2]; rfl
                      have HP := Lib.hid hp; clear hp
                      go_wp2_with (go_at_call 27; refine (KH.out (k : Int) wr Hbw.out).mono ?_; rintro e w2 ⟨rfl, rfl⟩; rw [show decide ((k : Int) ∈ us) = false from decide_eq_false Hmem.out])
                      go_roundw
                      case rel => exact ⟨k + 1, m, A1, c1, by omega, by go_num, by first | trivial | rfl, by omega, next_no us false id HP.out _ Hown.out, Hbw.out⟩
                      case measure => simp [intOf]; omega
                · obtain rfl : k = 16 := by omega
                  go_wp2
                  go_ret2
                  have ho := Hown.out
                  rw [Href.out] at ho
                  refine chg_yes (w1 := w) rfl ?_ ho Hbw.out
                  have := ho.1
                  rw [numsV_length] at this
                  omega
        · have Hm := Lib.hid hm
          cases add with
          | false =>
            rw [err_none hr hi hm, changeL_no (by rw [err_none hr hi hm]; omega)]
            clear hr hi hn hs hm
            go_enter Try.func11, Try.ntmps11
            go_wp2_with (first
              | (go_at_call 8; refine KR.out.mono ?_; rintro e w1 ⟨rfl, hb1⟩; rw [show decide (RightQ us) = true from decide_eq_true Hr.out]; have Hb1 := Lib.hid hb1; clear hb1)
              | (go_at_call 27; refine (KH.out id w1 Hb1.out).mono ?_; rintro e w2 ⟨rfl, rfl⟩; rw [show decide (id ∈ us) = false from decide_eq_false Hm.out]))
            go_ret2
            exact chg_no rfl Hb1.out
          | true =>
            by_cases hfull : us.length = 7
            · rw [err_full hr hi hm hfull, changeL_no (by rw [err_full hr hi hm hfull]; omega)]
              obtain rfl : n = 7 := by omega
              clear hr hi hn hs hm hfull
              go_enter Try.func11, Try.ntmps11
              go_wp2_with (first
                | (go_at_call 8; refine KR.out.mono ?_; rintro e w1 ⟨rfl, hb1⟩; rw [show decide (RightQ us) = true from decide_eq_true Hr.out]; have Hb1 := Lib.hid hb1; clear hb1)
                | (go_at_call 27; refine (KH.out id w1 Hb1.out).mono ?_; rintro e w2 ⟨rfl, rfl⟩; rw [show decide (id ∈ us) = false from decide_eq_false Hm.out]))
              go_ret2
              exact chg_no rfl Hb1.out
            · have hok := ok_add hr hi hm hfull
              have Href := Lib.hid (ref_change hok)
              rw [hok]
              have q0 : ((n : Int) == 7) = false := by simp; omega
              clear hr hi hn hs hm hfull hok
              go_enter Try.func11, Try.ntmps11
              go_wp2_with (first
                | (go_at_call 8; refine KR.out.mono ?_; rintro e w1 ⟨rfl, hb1⟩; rw [show decide (RightQ us) = true from decide_eq_true Hr.out]; have Hb1 := Lib.hid hb1; clear hb1)
                | (go_at_call 27; refine (KH.out id w1 Hb1.out).mono ?_; rintro e w2 ⟨rfl, rfl⟩; rw [show decide (id ∈ us) = false from decide_eq_false Hm.out]))
              go_loopw [8, 9] (fun ov i wr => ∃ (k m : Nat) (A1 : Option Addr) (c1 : Nat), k ≤ 16 ∧ i = .int .i64 k ∧ ov = .slice A1 m c1 ∧ m ≤ k ∧ wr.ownsRow w.heap.size 3 1 (.slice A1 m c1) m (numsV ((upTo k).filter (refIn us true id))) ∧ Below w.heap.size w wr) (fun _ i _ => 16 - (intOf i).toNat)
              case atStart => exact ⟨0, 0, none, 0, by omega, rfl, rfl, Nat.le_refl _, World.ownsRow_nil _ _ _ _, Hb1.out⟩
              case round =>
                obtain ⟨k, m, A1, c1, hk, rfl, rfl, hmk, hown, hbw⟩ := hrel
                have Hown := Lib.hid hown; have Hbw := Lib.hid hbw
                clear hown hbw
                by_cases hlt : k < 16
                · have l1 : (k : Int) ≤ 15 := by omega
                  by_cases hmem : (k : Int) ∈ us
                  · have Hmem := Lib.hid hmem; clear hmem
                    by_cases heq : (k : Int) = id
                    · have q1 : ((k : Int) != id) = false := by simpa using heq
                      have q2 : ((k : Int) == id) = true := by simpa using heq
                      clear heq
                      have hp : refIn us true id (k : Int) = true := by unfold refIn; rw [show decide ((k : Int) ∈ us) = true from decide_eq_true Hmem.out, q1, q2]; rfl
                      have HP := Lib.hid hp; clear hp
                      go_wp2_with (first
                        | (go_at_call 27; refine (KH.out (k : Int) wr Hbw.out).mono ?_; rintro e w2 ⟨rfl, rfl⟩; rw [show decide ((k : Int) ∈ us) = true from decide_eq_true Hmem.out])
                        | (at_builtin; refine wpList_app rfl (.tmp 71) (.tmp 73) _ rfl 3 _ 8 Try.underlying22 int_info rfl w.heap.size A1 m c1 (numsV ((upTo k).filter (refIn us true id))) rfl (Hown.out.alloc _) (some ⟨w2.heap.size, 0, none⟩) 1 1 [Value.int .i64 (k : Int)] rfl rfl (Seen.of_cells (heap_alloc_new w2 _)) (by simp [Value.oneCell']) (by unfold maxLen; omega) (by omega) (by have := Hbw.out.size; simp; omega) ?_; intro A3 c3 w3 hown3 hb3; have Hown3 := Lib.hid hown3; have Hb3 := Lib.hid ((Hbw.out.alloc Hbw.out.size _).trans hb3); clear hown3 hb3))
                      go_roundw
                      case rel => exact ⟨k + 1, m + 1, A3, c3, by omega, by go_num, by first | trivial | rfl, by omega, next_yes us true id HP.out _ Hown3.out, Hb3.out⟩
                      case measure => simp [intOf]; omega
                    · have q1 : ((k : Int) != id) = true := by simpa using heq
                      have q2 : ((k : Int) == id) = false := by simpa using heq
                      clear heq
                      have hp : refIn us true id (k : Int) = true := by unfold refIn; rw [show decide ((k : Int) ∈ us) = true from decide_eq_true Hmem.out, q1, q2]; rfl
                      have HP := Lib.hid hp; clear hp
                      go_wp2_with (first
                        | (go_at_call 27; refine (KH.out (k : Int) wr Hbw.out).mono ?_; rintro e w2 ⟨rfl, rfl⟩; rw [show decide ((k : Int) ∈ us) = true from decide_eq_true Hmem.out])
                        | (at_builtin; refine wpList_app rfl (.tmp 71) (.tmp 73) _ rfl 3 _ 8 Try.underlying22 int_info rfl w.heap.size A1 m c1 (numsV ((upTo k).filter (refIn us true id))) rfl (Hown.out.alloc _) (some ⟨w2.heap.size, 0, none⟩) 1 1 [Value.int .i64 (k : Int)] rfl rfl (Seen.of_cells (heap_alloc_new w2 _)) (by simp [Value.oneCell']) (by unfold maxLen; omega) (by omega) (by have := Hbw.out.size; simp; omega) ?_; intro A3 c3 w3 hown3 hb3; have Hown3 := Lib.hid hown3; have Hb3 := Lib.hid ((Hbw.out.alloc Hbw.out.size _).trans hb3); clear hown3 hb3))
                      go_roundw
                      case rel => exact ⟨k + 1, m + 1, A3, c3, by omega, by go_num, by first | trivial | rfl, by omega, next_yes us true id HP.out _ Hown3.out, Hb3.out⟩
                      case measure => simp [intOf]; omega
                  · have Hmem := Lib.hid hmem; clear hmem
                    by_cases heq : (k : Int) = id
                    · have q1 : ((k : Int) != id) = false := by simpa using heq
                      have q2 : ((k : Int) == id) = true := by simpa using heq
                      clear heq
                      have hp : refIn us true id (k : Int) = true := by unfold refIn; rw [show decide ((k : Int) ∈ us) = false from decide_eq_false Hmem.out, q1, q2]; rfl
                      have HP := Lib.hid hp; clear hp
                      go_wp2_with (first
                        | (go_at_call 27; refine (KH.out (k : Int) wr Hbw.out).mono ?_; rintro e w2 ⟨rfl, rfl⟩; rw [show decide ((k : Int) ∈ us) = false from decide_eq_false Hmem.out])
                        | (at_builtin; refine wpList_app rfl (.tmp 71) (.tmp 73) _ rfl 3 _ 8 Try.underlying22 int_info rfl w.heap.size A1 m c1 (numsV ((upTo k).filter (refIn us true id))) rfl (Hown.out.alloc _) (some ⟨w2.heap.size, 0, none⟩) 1 1 [Value.int .i64 (k : Int)] rfl rfl (Seen.of_cells (heap_alloc_new w2 _)) (by simp [Value.oneCell']) (by unfold maxLen; omega) (by omega) (by have := Hbw.out.size; simp; omega) ?_; intro A3 c3 w3 hown3 hb3; have Hown3 := Lib.hid hown3; have Hb3 := Lib.hid ((Hbw.out.alloc Hbw.out.size _).trans hb3); clear hown3 hb3))
                      go_roundw
                      case rel => exact ⟨k + 1, m + 1, A3, c3, by omega, by go_num, by first | trivial | rfl, by omega, next_yes us true id HP.out _ Hown3.out, Hb3.out⟩
                      case measure => simp [intOf]; omega
                    · have q1 : ((k : Int) != id) = true := by simpa using heq
                      have q2 : ((k : Int) == id) = false := by simpa using heq
                      clear heq
                      have hp : refIn us true id (k : Int) = false := by unfold refIn; rw [show decide ((k : Int) ∈ us) = false from decide_eq_false Hmem.out, q1, q2]; rfl
                      have HP := Lib.hid hp; clear hp
                      go_wp2_with (go_at_call 27; refine (KH.out (k : Int) wr Hbw.out).mono ?_; rintro e w2 ⟨rfl, rfl⟩; rw [show decide ((k : Int) ∈ us) = false from decide_eq_false Hmem.out])
                      go_roundw
                      case rel => exact ⟨k + 1, m, A1, c1, by omega, by go_num, by first | trivial | rfl, by omega, next_no us true id HP.out _ Hown.out, Hbw.out⟩
                      case measure => simp [intOf]; omega
                · obtain rfl : k = 16 := by omega
                  go_wp2
                  go_ret2
                  have ho := Hown.out
                  rw [Href.out] at ho
                  refine chg_yes (w1 := w) rfl ?_ ho Hbw.out
                  have := ho.1
                  rw [numsV_length] at this
                  omega
  · have e1 := err_arg1 (add := add) (id := id) hr
    rw [e1, changeL_no (by rw [e1]; omega)]
    have Hr := Lib.hid hr
    clear hr hn hs e1
    go_enter Try.func11, Try.ntmps11
    go_wp2_with (first
      | (go_at_call 8; refine KR.out.mono ?_; rintro e w1 ⟨rfl, hb1⟩; rw [show decide (RightQ us) = false from decide_eq_false Hr.out]; have Hb1 := Lib.hid hb1; clear hb1))
    go_ret2
    exact chg_no rfl Hb1.out
end Go.Proofs.Ytpoooehnobfjfaa
