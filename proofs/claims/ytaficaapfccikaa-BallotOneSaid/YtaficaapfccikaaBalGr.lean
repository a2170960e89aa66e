/-
  Contracts of ballot.Grant and the document's Grant. No condition. (Written by gen_balgr.py.)
-/
import Derived.Test.YtaficaapfccikaaBalFn
import Derived.StillTailTactics
import Derived.Deep.DeepCutAuto
namespace Go.Proofs.Ytaficaapfccikaa
open Go.ChangeShapes Go.WideShapes Go.ChangeAt Go.RowKit
set_option linter.unusedVariables false

/-- what a Grant hands back -/
def GrantRet (b : Bal) (t who : Int) (n : Bool) : Value := .tuple #[.agg #[.int .i64 (grantB b t who n).te, .int .i64 (grantB b t who n).vo], .bool (decide (GivenB b t who n))]
theorem ret_no {b s : Bal} {t who : Int} {n : Bool} (hs : seeB b t = s) (h : ¬ (s.te = t ∧ n = true ∧ 0 ≤ who ∧ who ≤ 15 ∧ (s.vo = -1 ∨ s.vo = who))) : GrantRet b t who n = .tuple #[.agg #[.int .i64 s.te, .int .i64 s.vo], .bool false] := by
  subst hs
  have hg : ¬ GivenB b t who n := h
  unfold GrantRet grantB
  rw [if_neg hg, decide_eq_false hg]
theorem ret_yes {b s : Bal} {t who : Int} {n : Bool} (hs : seeB b t = s) (h : s.te = t ∧ n = true ∧ 0 ≤ who ∧ who ≤ 15 ∧ (s.vo = -1 ∨ s.vo = who)) : GrantRet b t who n = .tuple #[.agg #[.int .i64 s.te, .int .i64 who], .bool true] := by
  subst hs
  have hg : GivenB b t who n := h
  unfold GrantRet grantB
  rw [if_pos hg, decide_eq_true hg, hg.1]
attribute [local go_sem ↓] ldBal_eq

set_option maxRecDepth 100000 in
set_option maxHeartbeats 2000000 in
theorem Grant_any (b : Bal) (t who : Int) (n : Bool) (w : World) : Calls Try.prog 7 #[.agg #[.int .i64 b.te, .int .i64 b.vo], .int .i64 t, .int .i64 who, .bool n] w fun e w' => e = .returned (GrantRet b t who n) ∧ Below w.heap.size w w' := by
  obtain ⟨s, hs⟩ : ∃ s, seeB b t = s := ⟨_, rfl⟩
  have CS := fun w => See_any b t w
  rw [hs] at CS
  have CS := Lib.hid CS
  have Hs := Lib.hid hs
  clear hs
  obtain ⟨W1, hW1⟩ : ∃ W1, (w.alloc (.cells #[.int .i64 b.te, .int .i64 b.vo] 23)).alloc (.cells #[.int .i64 0, .int .i64 0] 23) = W1 := ⟨_, rfl⟩
  have hA : BalAt W1 w.heap.size b := by rw [← hW1]; exact (BalAt.new w b).below (below_box _ _)
  have hZ : BalAt W1 (w.heap.size + 1) ⟨0, 0⟩ := by rw [← hW1]; exact heap_two _ _ _
  have hB : Below w.heap.size w W1 := by rw [← hW1]; exact below_two _ _ _
  have HS : Hid (∀ W2, Below W1.heap.size W1 W2 → ∃ W3, W2.setRow w.heap.size #[.int .i64 s.te, .int .i64 s.vo] = W3 ∧ BalAt W3 w.heap.size s ∧ BalAt W3 (w.heap.size + 1) ⟨0, 0⟩ ∧ Below w.heap.size w W3) := Lib.hid fun W2 hb2 => ⟨_, rfl, (hA.below hb2).put s, (hZ.below hb2).put_else (by omega) _, below_row (hB.trans (hb2.mono hB.size)) (Nat.le_refl _) _ (Nat.le_trans hB.size hb2.size)⟩
  have HV : Hid (∀ W3, BalAt W3 w.heap.size s → BalAt W3 (w.heap.size + 1) ⟨0, 0⟩ → Below w.heap.size w W3 → ∃ V, W3.setCell ⟨w.heap.size, 1, none⟩ (.int .i64 who) = V ∧ BalAt V w.heap.size ⟨s.te, who⟩ ∧ BalAt V (w.heap.size + 1) ⟨0, 0⟩ ∧ Below w.heap.size w V) := Lib.hid fun W3 k1 k2 k3 => ⟨_, rfl, k1.s1 who, k2.set_else (by omega) _ _, below_set k3 (Nat.le_refl _) _ _⟩
  have hld1 := ldBal_run hA
  have HA := Lib.hid hA
  clear hA hZ hB
  by_cases h1 : s.vo = -1
  · have q1 : (s.vo == -1) = true := by simpa using h1
    have Free : Hid (s.vo = -1 ∨ s.vo = who) := Lib.hid (.inl h1)
    clear h1
    by_cases h3 : t = s.te
    · have q3 : (t != s.te) = false := by simpa using h3
      cases n with
      | false =>
        rw [ret_no Hs.out (by simp)]
        clear h3
        go_enter Try.func7, Try.ntmps7
        go_upto_region 1 with fail
        go_upto_region 2 with (first
          | (go_at_call 11; refine (CS.out _).mono ?_; rintro e W2 ⟨rfl, hb2⟩; obtain ⟨W3, hW3, hA3, hZ3, hB3⟩ := HS.out W2 hb2; have c0 := hA3.c0; have c1 := hA3.c1; have hfr := row_frozen hA3 1; have hld3 := ldBal_run hA3; have HA2 := Lib.hid (HA.out.below hb2); have HA3 := Lib.hid hA3; have HZ3 := Lib.hid hZ3; have HB3 := Lib.hid hB3; clear hb2 hA3 hZ3 hB3 hld1)
          | (refine wpList_store_row rfl 23 (.tmp 4) (.tmp 13) rfl w.heap.size #[.int .i64 s.te, .int .i64 s.vo] rfl rfl 23 _ HA2.out bal_info rfl (by simp [Value.oneCell']) ?_; (try rw [hW3])))
        go_upto_region 4 with fail
        go_wp2_with (refine wpList_store_row rfl 23 (.tmp 8) (.tmp 40) rfl (w.heap.size + 1) #[.int .i64 s.te, .int .i64 s.vo] rfl rfl 23 _ HZ3.out bal_info rfl (by simp [Value.oneCell']) ?_)
        refine bodyPost_ret (v := .tuple #[.agg #[.int .i64 s.te, .int .i64 s.vo], .bool false]) (results_cell_2 rfl _ _ (w.heap.size + 1) 23 #[.int .i64 s.te, .int .i64 s.vo] (0, 0) _ (.bool false) rfl rfl (HZ3.out.put s) Try.underlying23 rfl bal_info) rfl ?_
        exact ⟨rfl, below_row HB3.out (by omega) _ HB3.out.size⟩
      | true =>
        by_cases h5 : 0 ≤ who ∧ who ≤ 15
        · rw [ret_yes Hs.out ⟨h3.symm, rfl, h5.1, h5.2, Free.out⟩]
          have Hid5 := Lib.hid (decide_eq_true h5)
          clear h3 h5
          go_enter Try.func7, Try.ntmps7
          go_upto_region 1 with fail
          go_upto_region 2 with (first
            | (go_at_call 11; refine (CS.out _).mono ?_; rintro e W2 ⟨rfl, hb2⟩; obtain ⟨W3, hW3, hA3, hZ3, hB3⟩ := HS.out W2 hb2; have c0 := hA3.c0; have c1 := hA3.c1; have hfr := row_frozen hA3 1; have hld3 := ldBal_run hA3; have HA2 := Lib.hid (HA.out.below hb2); have HA3 := Lib.hid hA3; have HZ3 := Lib.hid hZ3; have HB3 := Lib.hid hB3; clear hb2 hA3 hZ3 hB3 hld1)
            | (refine wpList_store_row rfl 23 (.tmp 4) (.tmp 13) rfl w.heap.size #[.int .i64 s.te, .int .i64 s.vo] rfl rfl 23 _ HA2.out bal_info rfl (by simp [Value.oneCell']) ?_; (try rw [hW3])))
          obtain ⟨V, hV, hAV, hZV, hBV⟩ := HV.out W3 HA3.out HZ3.out HB3.out
          have hldV := ldBal_run hAV
          have HZV := Lib.hid hZV; have HBV := Lib.hid hBV; clear hZV hBV hAV
          go_upto_region 6 with (go_at_call 19; refine (isId_any who _).mono ?_; rw [show decide (0 ≤ who ∧ who ≤ 15) = true from Hid5.out]; rintro e w4 ⟨rfl, rfl⟩)
          go_wp2_with (refine wpList_store_row rfl 23 (.tmp 8) (.tmp 43) rfl (w.heap.size + 1) #[.int .i64 s.te, .int .i64 who] rfl rfl 23 _ HZV.out bal_info rfl (by simp [Value.oneCell']) ?_)
          refine bodyPost_ret (v := .tuple #[.agg #[.int .i64 s.te, .int .i64 who], .bool true]) (results_cell_2 rfl _ _ (w.heap.size + 1) 23 #[.int .i64 s.te, .int .i64 who] (0, 0) _ (.bool true) rfl rfl (HZV.out.put ⟨s.te, who⟩) Try.underlying23 rfl bal_info) rfl ?_
          exact ⟨rfl, below_row HBV.out (by omega) _ HBV.out.size⟩
        · rw [ret_no Hs.out (fun h => h5 ⟨h.2.2.1, h.2.2.2.1⟩)]
          have Hid5 := Lib.hid (decide_eq_false h5)
          clear h3 h5
          go_enter Try.func7, Try.ntmps7
          go_upto_region 1 with fail
          go_upto_region 2 with (first
            | (go_at_call 11; refine (CS.out _).mono ?_; rintro e W2 ⟨rfl, hb2⟩; obtain ⟨W3, hW3, hA3, hZ3, hB3⟩ := HS.out W2 hb2; have c0 := hA3.c0; have c1 := hA3.c1; have hfr := row_frozen hA3 1; have hld3 := ldBal_run hA3; have HA2 := Lib.hid (HA.out.below hb2); have HA3 := Lib.hid hA3; have HZ3 := Lib.hid hZ3; have HB3 := Lib.hid hB3; clear hb2 hA3 hZ3 hB3 hld1)
            | (refine wpList_store_row rfl 23 (.tmp 4) (.tmp 13) rfl w.heap.size #[.int .i64 s.te, .int .i64 s.vo] rfl rfl 23 _ HA2.out bal_info rfl (by simp [Value.oneCell']) ?_; (try rw [hW3])))
          go_upto_region 4 with (go_at_call 19; refine (isId_any who _).mono ?_; rw [show decide (0 ≤ who ∧ who ≤ 15) = false from Hid5.out]; rintro e w4 ⟨rfl, rfl⟩)
          go_wp2_with (refine wpList_store_row rfl 23 (.tmp 8) (.tmp 40) rfl (w.heap.size + 1) #[.int .i64 s.te, .int .i64 s.vo] rfl rfl 23 _ HZ3.out bal_info rfl (by simp [Value.oneCell']) ?_)
          refine bodyPost_ret (v := .tuple #[.agg #[.int .i64 s.te, .int .i64 s.vo], .bool false]) (results_cell_2 rfl _ _ (w.heap.size + 1) 23 #[.int .i64 s.te, .int .i64 s.vo] (0, 0) _ (.bool false) rfl rfl (HZ3.out.put s) Try.underlying23 rfl bal_info) rfl ?_
          exact ⟨rfl, below_row HB3.out (by omega) _ HB3.out.size⟩
    · have q3 : (t != s.te) = true := by simpa using h3
      rw [ret_no Hs.out (fun h => h3 h.1.symm)]
      clear h3
      go_enter Try.func7, Try.ntmps7
      go_upto_region 1 with fail
      go_upto_region 2 with (first
        | (go_at_call 11; refine (CS.out _).mono ?_; rintro e W2 ⟨rfl, hb2⟩; obtain ⟨W3, hW3, hA3, hZ3, hB3⟩ := HS.out W2 hb2; have c0 := hA3.c0; have c1 := hA3.c1; have hfr := row_frozen hA3 1; have hld3 := ldBal_run hA3; have HA2 := Lib.hid (HA.out.below hb2); have HA3 := Lib.hid hA3; have HZ3 := Lib.hid hZ3; have HB3 := Lib.hid hB3; clear hb2 hA3 hZ3 hB3 hld1)
        | (refine wpList_store_row rfl 23 (.tmp 4) (.tmp 13) rfl w.heap.size #[.int .i64 s.te, .int .i64 s.vo] rfl rfl 23 _ HA2.out bal_info rfl (by simp [Value.oneCell']) ?_; (try rw [hW3])))
      go_upto_region 4 with fail
      go_wp2_with (refine wpList_store_row rfl 23 (.tmp 8) (.tmp 40) rfl (w.heap.size + 1) #[.int .i64 s.te, .int .i64 s.vo] rfl rfl 23 _ HZ3.out bal_info rfl (by simp [Value.oneCell']) ?_)
      refine bodyPost_ret (v := .tuple #[.agg #[.int .i64 s.te, .int .i64 s.vo], .bool false]) (results_cell_2 rfl _ _ (w.heap.size + 1) 23 #[.int .i64 s.te, .int .i64 s.vo] (0, 0) _ (.bool false) rfl rfl (HZ3.out.put s) Try.underlying23 rfl bal_info) rfl ?_
      exact ⟨rfl, below_row HB3.out (by omega) _ HB3.out.size⟩
  · have q1 : (s.vo == -1) = false := by simpa using h1
    by_cases h2 : s.vo = who
    · have q2 : (s.vo == who) = true := by simpa using h2
      have Free : Hid (s.vo = -1 ∨ s.vo = who) := Lib.hid (.inr h2)
      clear h1 h2
      by_cases h3 : t = s.te
      · have q3 : (t != s.te) = false := by simpa using h3
        cases n with
        | false =>
          rw [ret_no Hs.out (by simp)]
          clear h3
          go_enter Try.func7, Try.ntmps7
          go_upto_region 1 with fail
          go_upto_region 2 with (first
            | (go_at_call 11; refine (CS.out _).mono ?_; rintro e W2 ⟨rfl, hb2⟩; obtain ⟨W3, hW3, hA3, hZ3, hB3⟩ := HS.out W2 hb2; have c0 := hA3.c0; have c1 := hA3.c1; have hfr := row_frozen hA3 1; have hld3 := ldBal_run hA3; have HA2 := Lib.hid (HA.out.below hb2); have HA3 := Lib.hid hA3; have HZ3 := Lib.hid hZ3; have HB3 := Lib.hid hB3; clear hb2 hA3 hZ3 hB3 hld1)
            | (refine wpList_store_row rfl 23 (.tmp 4) (.tmp 13) rfl w.heap.size #[.int .i64 s.te, .int .i64 s.vo] rfl rfl 23 _ HA2.out bal_info rfl (by simp [Value.oneCell']) ?_; (try rw [hW3])))
          go_upto_region 4 with fail
          go_wp2_with (refine wpList_store_row rfl 23 (.tmp 8) (.tmp 40) rfl (w.heap.size + 1) #[.int .i64 s.te, .int .i64 s.vo] rfl rfl 23 _ HZ3.out bal_info rfl (by simp [Value.oneCell']) ?_)
          refine bodyPost_ret (v := .tuple #[.agg #[.int .i64 s.te, .int .i64 s.vo], .bool false]) (results_cell_2 rfl _ _ (w.heap.size + 1) 23 #[.int .i64 s.te, .int .i64 s.vo] (0, 0) _ (.bool false) rfl rfl (HZ3.out.put s) Try.underlying23 rfl bal_info) rfl ?_
          exact ⟨rfl, below_row HB3.out (by omega) _ HB3.out.size⟩
        | true =>
          by_cases h5 : 0 ≤ who ∧ who ≤ 15
          · rw [ret_yes Hs.out ⟨h3.symm, rfl, h5.1, h5.2, Free.out⟩]
            have Hid5 := Lib.hid (decide_eq_true h5)
            clear h3 h5
            go_enter Try.func7, Try.ntmps7
            go_upto_region 1 with fail
            go_upto_region 2 with (first
              | (go_at_call 11; refine (CS.out _).mono ?_; rintro e W2 ⟨rfl, hb2⟩; obtain ⟨W3, hW3, hA3, hZ3, hB3⟩ := HS.out W2 hb2; have c0 := hA3.c0; have c1 := hA3.c1; have hfr := row_frozen hA3 1; have hld3 := ldBal_run hA3; have HA2 := Lib.hid (HA.out.below hb2); have HA3 := Lib.hid hA3; have HZ3 := Lib.hid hZ3; have HB3 := Lib.hid hB3; clear hb2 hA3 hZ3 hB3 hld1)
              | (refine wpList_store_row rfl 23 (.tmp 4) (.tmp 13) rfl w.heap.size #[.int .i64 s.te, .int .i64 s.vo] rfl rfl 23 _ HA2.out bal_info rfl (by simp [Value.oneCell']) ?_; (try rw [hW3])))
            obtain ⟨V, hV, hAV, hZV, hBV⟩ := HV.out W3 HA3.out HZ3.out HB3.out
            have hldV := ldBal_run hAV
            have HZV := Lib.hid hZV; have HBV := Lib.hid hBV; clear hZV hBV hAV
            go_upto_region 6 with (go_at_call 19; refine (isId_any who _).mono ?_; rw [show decide (0 ≤ who ∧ who ≤ 15) = true from Hid5.out]; rintro e w4 ⟨rfl, rfl⟩)
            go_wp2_with (refine wpList_store_row rfl 23 (.tmp 8) (.tmp 43) rfl (w.heap.size + 1) #[.int .i64 s.te, .int .i64 who] rfl rfl 23 _ HZV.out bal_info rfl (by simp [Value.oneCell']) ?_)
            refine bodyPost_ret (v := .tuple #[.agg #[.int .i64 s.te, .int .i64 who], .bool true]) (results_cell_2 rfl _ _ (w.heap.size + 1) 23 #[.int .i64 s.te, .int .i64 who] (0, 0) _ (.bool true) rfl rfl (HZV.out.put ⟨s.te, who⟩) Try.underlying23 rfl bal_info) rfl ?_
            exact ⟨rfl, below_row HBV.out (by omega) _ HBV.out.size⟩
          · rw [ret_no Hs.out (fun h => h5 ⟨h.2.2.1, h.2.2.2.1⟩)]
            have Hid5 := Lib.hid (decide_eq_false h5)
            clear h3 h5
            go_enter Try.func7, Try.ntmps7
            go_upto_region 1 with fail
            go_upto_region 2 with (first
              | (go_at_call 11; refine (CS.out _).mono ?_; rintro e W2 ⟨rfl, hb2⟩; obtain ⟨W3, hW3, hA3, hZ3, hB3⟩ := HS.out W2 hb2; have c0 := hA3.c0; have c1 := hA3.c1; have hfr := row_frozen hA3 1; have hld3 := ldBal_run hA3; have HA2 := Lib.hid (HA.out.below hb2); have HA3 := Lib.hid hA3; have HZ3 := Lib.hid hZ3; have HB3 := Lib.hid hB3; clear hb2 hA3 hZ3 hB3 hld1)
              | (refine wpList_store_row rfl 23 (.tmp 4) (.tmp 13) rfl w.heap.size #[.int .i64 s.te, .int .i64 s.vo] rfl rfl 23 _ HA2.out bal_info rfl (by simp [Value.oneCell']) ?_; (try rw [hW3])))
            go_upto_region 4 with (go_at_call 19; refine (isId_any who _).mono ?_; rw [show decide (0 ≤ who ∧ who ≤ 15) = false from Hid5.out]; rintro e w4 ⟨rfl, rfl⟩)
            go_wp2_with (refine wpList_store_row rfl 23 (.tmp 8) (.tmp 40) rfl (w.heap.size + 1) #[.int .i64 s.te, .int .i64 s.vo] rfl rfl 23 _ HZ3.out bal_info rfl (by simp [Value.oneCell']) ?_)
            refine bodyPost_ret (v := .tuple #[.agg #[.int .i64 s.te, .int .i64 s.vo], .bool false]) (results_cell_2 rfl _ _ (w.heap.size + 1) 23 #[.int .i64 s.te, .int .i64 s.vo] (0, 0) _ (.bool false) rfl rfl (HZ3.out.put s) Try.underlying23 rfl bal_info) rfl ?_
            exact ⟨rfl, below_row HB3.out (by omega) _ HB3.out.size⟩
      · have q3 : (t != s.te) = true := by simpa using h3
        rw [ret_no Hs.out (fun h => h3 h.1.symm)]
        clear h3
        go_enter Try.func7, Try.ntmps7
        go_upto_region 1 with fail
        go_upto_region 2 with (first
          | (go_at_call 11; refine (CS.out _).mono ?_; rintro e W2 ⟨rfl, hb2⟩; obtain ⟨W3, hW3, hA3, hZ3, hB3⟩ := HS.out W2 hb2; have c0 := hA3.c0; have c1 := hA3.c1; have hfr := row_frozen hA3 1; have hld3 := ldBal_run hA3; have HA2 := Lib.hid (HA.out.below hb2); have HA3 := Lib.hid hA3; have HZ3 := Lib.hid hZ3; have HB3 := Lib.hid hB3; clear hb2 hA3 hZ3 hB3 hld1)
          | (refine wpList_store_row rfl 23 (.tmp 4) (.tmp 13) rfl w.heap.size #[.int .i64 s.te, .int .i64 s.vo] rfl rfl 23 _ HA2.out bal_info rfl (by simp [Value.oneCell']) ?_; (try rw [hW3])))
        go_upto_region 4 with fail
        go_wp2_with (refine wpList_store_row rfl 23 (.tmp 8) (.tmp 40) rfl (w.heap.size + 1) #[.int .i64 s.te, .int .i64 s.vo] rfl rfl 23 _ HZ3.out bal_info rfl (by simp [Value.oneCell']) ?_)
        refine bodyPost_ret (v := .tuple #[.agg #[.int .i64 s.te, .int .i64 s.vo], .bool false]) (results_cell_2 rfl _ _ (w.heap.size + 1) 23 #[.int .i64 s.te, .int .i64 s.vo] (0, 0) _ (.bool false) rfl rfl (HZ3.out.put s) Try.underlying23 rfl bal_info) rfl ?_
        exact ⟨rfl, below_row HB3.out (by omega) _ HB3.out.size⟩
    · have q2 : (s.vo == who) = false := by simpa using h2
      have Free : Hid (¬ (s.vo = -1 ∨ s.vo = who)) := Lib.hid (fun h => h.elim h1 h2)
      clear h1 h2
      by_cases h3 : t = s.te
      · have q3 : (t != s.te) = false := by simpa using h3
        cases n with
        | false =>
          rw [ret_no Hs.out (by simp)]
          clear h3
          go_enter Try.func7, Try.ntmps7
          go_upto_region 1 with fail
          go_upto_region 2 with (first
            | (go_at_call 11; refine (CS.out _).mono ?_; rintro e W2 ⟨rfl, hb2⟩; obtain ⟨W3, hW3, hA3, hZ3, hB3⟩ := HS.out W2 hb2; have c0 := hA3.c0; have c1 := hA3.c1; have hfr := row_frozen hA3 1; have hld3 := ldBal_run hA3; have HA2 := Lib.hid (HA.out.below hb2); have HA3 := Lib.hid hA3; have HZ3 := Lib.hid hZ3; have HB3 := Lib.hid hB3; clear hb2 hA3 hZ3 hB3 hld1)
            | (refine wpList_store_row rfl 23 (.tmp 4) (.tmp 13) rfl w.heap.size #[.int .i64 s.te, .int .i64 s.vo] rfl rfl 23 _ HA2.out bal_info rfl (by simp [Value.oneCell']) ?_; (try rw [hW3])))
          go_upto_region 4 with fail
          go_wp2_with (refine wpList_store_row rfl 23 (.tmp 8) (.tmp 40) rfl (w.heap.size + 1) #[.int .i64 s.te, .int .i64 s.vo] rfl rfl 23 _ HZ3.out bal_info rfl (by simp [Value.oneCell']) ?_)
          refine bodyPost_ret (v := .tuple #[.agg #[.int .i64 s.te, .int .i64 s.vo], .bool false]) (results_cell_2 rfl _ _ (w.heap.size + 1) 23 #[.int .i64 s.te, .int .i64 s.vo] (0, 0) _ (.bool false) rfl rfl (HZ3.out.put s) Try.underlying23 rfl bal_info) rfl ?_
          exact ⟨rfl, below_row HB3.out (by omega) _ HB3.out.size⟩
        | true =>
          rw [ret_no Hs.out (fun h => Free.out h.2.2.2.2)]
          clear h3
          go_enter Try.func7, Try.ntmps7
          go_upto_region 1 with fail
          go_upto_region 2 with (first
            | (go_at_call 11; refine (CS.out _).mono ?_; rintro e W2 ⟨rfl, hb2⟩; obtain ⟨W3, hW3, hA3, hZ3, hB3⟩ := HS.out W2 hb2; have c0 := hA3.c0; have c1 := hA3.c1; have hfr := row_frozen hA3 1; have hld3 := ldBal_run hA3; have HA2 := Lib.hid (HA.out.below hb2); have HA3 := Lib.hid hA3; have HZ3 := Lib.hid hZ3; have HB3 := Lib.hid hB3; clear hb2 hA3 hZ3 hB3 hld1)
            | (refine wpList_store_row rfl 23 (.tmp 4) (.tmp 13) rfl w.heap.size #[.int .i64 s.te, .int .i64 s.vo] rfl rfl 23 _ HA2.out bal_info rfl (by simp [Value.oneCell']) ?_; (try rw [hW3])))
          go_upto_region 4 with fail
          go_wp2_with (refine wpList_store_row rfl 23 (.tmp 8) (.tmp 40) rfl (w.heap.size + 1) #[.int .i64 s.te, .int .i64 s.vo] rfl rfl 23 _ HZ3.out bal_info rfl (by simp [Value.oneCell']) ?_)
          refine bodyPost_ret (v := .tuple #[.agg #[.int .i64 s.te, .int .i64 s.vo], .bool false]) (results_cell_2 rfl _ _ (w.heap.size + 1) 23 #[.int .i64 s.te, .int .i64 s.vo] (0, 0) _ (.bool false) rfl rfl (HZ3.out.put s) Try.underlying23 rfl bal_info) rfl ?_
          exact ⟨rfl, below_row HB3.out (by omega) _ HB3.out.size⟩
      · have q3 : (t != s.te) = true := by simpa using h3
        rw [ret_no Hs.out (fun h => h3 h.1.symm)]
        clear h3
        go_enter Try.func7, Try.ntmps7
        go_upto_region 1 with fail
        go_upto_region 2 with (first
          | (go_at_call 11; refine (CS.out _).mono ?_; rintro e W2 ⟨rfl, hb2⟩; obtain ⟨W3, hW3, hA3, hZ3, hB3⟩ := HS.out W2 hb2; have c0 := hA3.c0; have c1 := hA3.c1; have hfr := row_frozen hA3 1; have hld3 := ldBal_run hA3; have HA2 := Lib.hid (HA.out.below hb2); have HA3 := Lib.hid hA3; have HZ3 := Lib.hid hZ3; have HB3 := Lib.hid hB3; clear hb2 hA3 hZ3 hB3 hld1)
          | (refine wpList_store_row rfl 23 (.tmp 4) (.tmp 13) rfl w.heap.size #[.int .i64 s.te, .int .i64 s.vo] rfl rfl 23 _ HA2.out bal_info rfl (by simp [Value.oneCell']) ?_; (try rw [hW3])))
        go_upto_region 4 with fail
        go_wp2_with (refine wpList_store_row rfl 23 (.tmp 8) (.tmp 40) rfl (w.heap.size + 1) #[.int .i64 s.te, .int .i64 s.vo] rfl rfl 23 _ HZ3.out bal_info rfl (by simp [Value.oneCell']) ?_)
        refine bodyPost_ret (v := .tuple #[.agg #[.int .i64 s.te, .int .i64 s.vo], .bool false]) (results_cell_2 rfl _ _ (w.heap.size + 1) 23 #[.int .i64 s.te, .int .i64 s.vo] (0, 0) _ (.bool false) rfl rfl (HZ3.out.put s) Try.underlying23 rfl bal_info) rfl ?_
        exact ⟨rfl, below_row HB3.out (by omega) _ HB3.out.size⟩
set_option maxRecDepth 100000 in
set_option maxHeartbeats 2000000 in
theorem RGrant_any (b : Bal) (t who : Int) (n : Bool) (w : World) : Calls Try.prog 8 #[.agg #[.int .i64 b.te, .int .i64 b.vo], .int .i64 t, .int .i64 who, .bool n] w fun e w' => e = .returned (GrantRet b t who n) ∧ Below w.heap.size w w' := by
  obtain ⟨s, hs⟩ : ∃ s, seeB b t = s := ⟨_, rfl⟩
  have CS := fun w => RSee_any b t w
  rw [hs] at CS
  have CS := Lib.hid CS
  have Hs := Lib.hid hs
  clear hs
  obtain ⟨W1, hW1⟩ : ∃ W1, (w.alloc (.cells #[.int .i64 b.te, .int .i64 b.vo] 23)).alloc (.cells #[.int .i64 0, .int .i64 0] 23) = W1 := ⟨_, rfl⟩
  have hA : BalAt W1 w.heap.size b := by rw [← hW1]; exact (BalAt.new w b).below (below_box _ _)
  have hZ : BalAt W1 (w.heap.size + 1) ⟨0, 0⟩ := by rw [← hW1]; exact heap_two _ _ _
  have hB : Below w.heap.size w W1 := by rw [← hW1]; exact below_two _ _ _
  have hsz : W1.heap.size = w.heap.size + 2 := by rw [← hW1, size_box, size_box]
  have HW : Hid (∀ W2, Below W1.heap.size W1 W2 → w.heap.size + 2 ≤ W2.heap.size) := Lib.hid fun W2 hb2 => by have := hb2.size; omega
  have HS : Hid (∀ W2, Below W1.heap.size W1 W2 → ∃ W3, W2.alloc (.cells #[.int .i64 s.te, .int .i64 s.vo] 23) = W3 ∧ BalAt W3 W2.heap.size s ∧ BalAt W3 (w.heap.size + 1) ⟨0, 0⟩ ∧ Below w.heap.size w W3) := Lib.hid fun W2 hb2 => ⟨_, rfl, BalAt.new W2 s, (hZ.below hb2).below (below_box _ _), (hB.trans (hb2.mono hB.size)).alloc (Nat.le_trans hB.size hb2.size) _⟩
  have HV : Hid (∀ g W3, w.heap.size + 2 ≤ g → BalAt W3 g s → BalAt W3 (w.heap.size + 1) ⟨0, 0⟩ → Below w.heap.size w W3 → ∃ V, W3.setCell ⟨g, 1, none⟩ (.int .i64 who) = V ∧ BalAt V g ⟨s.te, who⟩ ∧ BalAt V (w.heap.size + 1) ⟨0, 0⟩ ∧ Below w.heap.size w V) := Lib.hid fun g W3 kg k1 k2 k3 => ⟨_, rfl, k1.s1 who, k2.set_else (by omega) _ _, below_set k3 (by omega) _ _⟩
  have hld1 := ldBal_run hA
  clear hA hZ hB hsz
  by_cases h3 : s.te = t
  · have q3 : (s.te == t) = true := by simpa using h3
    cases n with
    | false =>
      rw [ret_no Hs.out (by simp)]
      clear h3
      go_enter Try.func8, Try.ntmps8
      go_upto_region 1 with fail
      go_upto_region 2 with (go_at_call 12; refine (CS.out _).mono ?_; rintro e W2 ⟨rfl, hb2⟩; obtain ⟨W3, hW3, hA3, hZ3, hB3⟩ := HS.out W2 hb2; clear hld1)
      try rw [hW3]
      have c0 := hA3.c0; have c1 := hA3.c1; have hfr := row_frozen hA3 1; have hld3 := ldBal_run hA3
      have HZ3 := Lib.hid hZ3; have HB3 := Lib.hid hB3; have Hb2 := Lib.hid hb2; have HW2 := Lib.hid (HW.out W2 hb2)
      clear hZ3 hB3 hA3 hb2 hW3
      go_upto_region 5 with fail
      go_wp2_with (refine wpList_store_row rfl 23 (.tmp 8) (.tmp 44) rfl (w.heap.size + 1) #[.int .i64 s.te, .int .i64 s.vo] rfl rfl 23 _ HZ3.out bal_info rfl (by simp [Value.oneCell']) ?_)
      refine bodyPost_ret (v := .tuple #[.agg #[.int .i64 s.te, .int .i64 s.vo], .bool false]) (results_cell_2 rfl _ _ (w.heap.size + 1) 23 #[.int .i64 s.te, .int .i64 s.vo] (0, 0) _ (.bool false) rfl rfl (HZ3.out.put s) Try.underlying23 rfl bal_info) rfl ?_
      exact ⟨rfl, below_row HB3.out (by omega) _ HB3.out.size⟩
    | true =>
      by_cases h4 : 0 ≤ who
      · by_cases h5 : who ≤ 15
        · by_cases h1 : s.vo = -1
          · have q1 : (s.vo == -1) = true := by simpa using h1
            rw [ret_yes Hs.out ⟨h3, rfl, h4, h5, .inl h1⟩]
            clear h3 h1
            go_enter Try.func8, Try.ntmps8
            go_upto_region 1 with fail
            go_upto_region 2 with (go_at_call 12; refine (CS.out _).mono ?_; rintro e W2 ⟨rfl, hb2⟩; obtain ⟨W3, hW3, hA3, hZ3, hB3⟩ := HS.out W2 hb2; clear hld1)
            try rw [hW3]
            have c0 := hA3.c0; have c1 := hA3.c1; have hfr := row_frozen hA3 1; have hld3 := ldBal_run hA3
            have HZ3 := Lib.hid hZ3; have HB3 := Lib.hid hB3; have Hb2 := Lib.hid hb2; have HW2 := Lib.hid (HW.out W2 hb2)
            obtain ⟨V, hV, hAV, hZV, hBV⟩ := HV.out W2.heap.size W3 HW2.out hA3 HZ3.out HB3.out
            have hldV := ldBal_run hAV
            have HZV := Lib.hid hZV; have HBV := Lib.hid hBV; clear hZV hBV hAV hZ3 hB3 hA3 hb2 hW3
            go_upto_region 5 with fail
            go_wp2_with (refine wpList_store_row rfl 23 (.tmp 8) (.tmp 44) rfl (w.heap.size + 1) #[.int .i64 s.te, .int .i64 who] rfl rfl 23 _ HZV.out bal_info rfl (by simp [Value.oneCell']) ?_)
            refine bodyPost_ret (v := .tuple #[.agg #[.int .i64 s.te, .int .i64 who], .bool true]) (results_cell_2 rfl _ _ (w.heap.size + 1) 23 #[.int .i64 s.te, .int .i64 who] (0, 0) _ (.bool true) rfl rfl (HZV.out.put ⟨s.te, who⟩) Try.underlying23 rfl bal_info) rfl ?_
            exact ⟨rfl, below_row HBV.out (by omega) _ HBV.out.size⟩
          · have q1 : (s.vo == -1) = false := by simpa using h1
            by_cases h2 : s.vo = who
            · have q2 : (s.vo == who) = true := by simpa using h2
              rw [ret_yes Hs.out ⟨h3, rfl, h4, h5, .inr h2⟩]
              clear h3 h1 h2
              go_enter Try.func8, Try.ntmps8
              go_upto_region 1 with fail
              go_upto_region 2 with (go_at_call 12; refine (CS.out _).mono ?_; rintro e W2 ⟨rfl, hb2⟩; obtain ⟨W3, hW3, hA3, hZ3, hB3⟩ := HS.out W2 hb2; clear hld1)
              try rw [hW3]
              have c0 := hA3.c0; have c1 := hA3.c1; have hfr := row_frozen hA3 1; have hld3 := ldBal_run hA3
              have HZ3 := Lib.hid hZ3; have HB3 := Lib.hid hB3; have Hb2 := Lib.hid hb2; have HW2 := Lib.hid (HW.out W2 hb2)
              obtain ⟨V, hV, hAV, hZV, hBV⟩ := HV.out W2.heap.size W3 HW2.out hA3 HZ3.out HB3.out
              have hldV := ldBal_run hAV
              have HZV := Lib.hid hZV; have HBV := Lib.hid hBV; clear hZV hBV hAV hZ3 hB3 hA3 hb2 hW3
              go_upto_region 5 with fail
              go_wp2_with (refine wpList_store_row rfl 23 (.tmp 8) (.tmp 44) rfl (w.heap.size + 1) #[.int .i64 s.te, .int .i64 who] rfl rfl 23 _ HZV.out bal_info rfl (by simp [Value.oneCell']) ?_)
              refine bodyPost_ret (v := .tuple #[.agg #[.int .i64 s.te, .int .i64 who], .bool true]) (results_cell_2 rfl _ _ (w.heap.size + 1) 23 #[.int .i64 s.te, .int .i64 who] (0, 0) _ (.bool true) rfl rfl (HZV.out.put ⟨s.te, who⟩) Try.underlying23 rfl bal_info) rfl ?_
              exact ⟨rfl, below_row HBV.out (by omega) _ HBV.out.size⟩
            · have q2 : (s.vo == who) = false := by simpa using h2
              rw [ret_no Hs.out (fun h => h.2.2.2.2.elim h1 h2)]
              clear h3 h1 h2
              go_enter Try.func8, Try.ntmps8
              go_upto_region 1 with fail
              go_upto_region 2 with (go_at_call 12; refine (CS.out _).mono ?_; rintro e W2 ⟨rfl, hb2⟩; obtain ⟨W3, hW3, hA3, hZ3, hB3⟩ := HS.out W2 hb2; clear hld1)
              try rw [hW3]
              have c0 := hA3.c0; have c1 := hA3.c1; have hfr := row_frozen hA3 1; have hld3 := ldBal_run hA3
              have HZ3 := Lib.hid hZ3; have HB3 := Lib.hid hB3; have Hb2 := Lib.hid hb2; have HW2 := Lib.hid (HW.out W2 hb2)
              clear hZ3 hB3 hA3 hb2 hW3
              go_upto_region 5 with fail
              go_wp2_with (refine wpList_store_row rfl 23 (.tmp 8) (.tmp 44) rfl (w.heap.size + 1) #[.int .i64 s.te, .int .i64 s.vo] rfl rfl 23 _ HZ3.out bal_info rfl (by simp [Value.oneCell']) ?_)
              refine bodyPost_ret (v := .tuple #[.agg #[.int .i64 s.te, .int .i64 s.vo], .bool false]) (results_cell_2 rfl _ _ (w.heap.size + 1) 23 #[.int .i64 s.te, .int .i64 s.vo] (0, 0) _ (.bool false) rfl rfl (HZ3.out.put s) Try.underlying23 rfl bal_info) rfl ?_
              exact ⟨rfl, below_row HB3.out (by omega) _ HB3.out.size⟩
        · rw [ret_no Hs.out (fun h => h5 h.2.2.2.1)]
          clear h3
          go_enter Try.func8, Try.ntmps8
          go_upto_region 1 with fail
          go_upto_region 2 with (go_at_call 12; refine (CS.out _).mono ?_; rintro e W2 ⟨rfl, hb2⟩; obtain ⟨W3, hW3, hA3, hZ3, hB3⟩ := HS.out W2 hb2; clear hld1)
          try rw [hW3]
          have c0 := hA3.c0; have c1 := hA3.c1; have hfr := row_frozen hA3 1; have hld3 := ldBal_run hA3
          have HZ3 := Lib.hid hZ3; have HB3 := Lib.hid hB3; have Hb2 := Lib.hid hb2; have HW2 := Lib.hid (HW.out W2 hb2)
          clear hZ3 hB3 hA3 hb2 hW3
          go_upto_region 5 with fail
          go_wp2_with (refine wpList_store_row rfl 23 (.tmp 8) (.tmp 44) rfl (w.heap.size + 1) #[.int .i64 s.te, .int .i64 s.vo] rfl rfl 23 _ HZ3.out bal_info rfl (by simp [Value.oneCell']) ?_)
          refine bodyPost_ret (v := .tuple #[.agg #[.int .i64 s.te, .int .i64 s.vo], .bool false]) (results_cell_2 rfl _ _ (w.heap.size + 1) 23 #[.int .i64 s.te, .int .i64 s.vo] (0, 0) _ (.bool false) rfl rfl (HZ3.out.put s) Try.underlying23 rfl bal_info) rfl ?_
          exact ⟨rfl, below_row HB3.out (by omega) _ HB3.out.size⟩
      · rw [ret_no Hs.out (fun h => h4 h.2.2.1)]
        clear h3
        go_enter Try.func8, Try.ntmps8
        go_upto_region 1 with fail
        go_upto_region 2 with (go_at_call 12; refine (CS.out _).mono ?_; rintro e W2 ⟨rfl, hb2⟩; obtain ⟨W3, hW3, hA3, hZ3, hB3⟩ := HS.out W2 hb2; clear hld1)
        try rw [hW3]
        have c0 := hA3.c0; have c1 := hA3.c1; have hfr := row_frozen hA3 1; have hld3 := ldBal_run hA3
        have HZ3 := Lib.hid hZ3; have HB3 := Lib.hid hB3; have Hb2 := Lib.hid hb2; have HW2 := Lib.hid (HW.out W2 hb2)
        clear hZ3 hB3 hA3 hb2 hW3
        go_upto_region 5 with fail
        go_wp2_with (refine wpList_store_row rfl 23 (.tmp 8) (.tmp 44) rfl (w.heap.size + 1) #[.int .i64 s.te, .int .i64 s.vo] rfl rfl 23 _ HZ3.out bal_info rfl (by simp [Value.oneCell']) ?_)
        refine bodyPost_ret (v := .tuple #[.agg #[.int .i64 s.te, .int .i64 s.vo], .bool false]) (results_cell_2 rfl _ _ (w.heap.size + 1) 23 #[.int .i64 s.te, .int .i64 s.vo] (0, 0) _ (.bool false) rfl rfl (HZ3.out.put s) Try.underlying23 rfl bal_info) rfl ?_
        exact ⟨rfl, below_row HB3.out (by omega) _ HB3.out.size⟩
  · have q3 : (s.te == t) = false := by simpa using h3
    rw [ret_no Hs.out (fun h => h3 h.1)]
    clear h3
    go_enter Try.func8, Try.ntmps8
    go_upto_region 1 with fail
    go_upto_region 2 with (go_at_call 12; refine (CS.out _).mono ?_; rintro e W2 ⟨rfl, hb2⟩; obtain ⟨W3, hW3, hA3, hZ3, hB3⟩ := HS.out W2 hb2; clear hld1)
    try rw [hW3]
    have c0 := hA3.c0; have c1 := hA3.c1; have hfr := row_frozen hA3 1; have hld3 := ldBal_run hA3
    have HZ3 := Lib.hid hZ3; have HB3 := Lib.hid hB3; have Hb2 := Lib.hid hb2; have HW2 := Lib.hid (HW.out W2 hb2)
    clear hZ3 hB3 hA3 hb2 hW3
    go_upto_region 5 with fail
    go_wp2_with (refine wpList_store_row rfl 23 (.tmp 8) (.tmp 44) rfl (w.heap.size + 1) #[.int .i64 s.te, .int .i64 s.vo] rfl rfl 23 _ HZ3.out bal_info rfl (by simp [Value.oneCell']) ?_)
    refine bodyPost_ret (v := .tuple #[.agg #[.int .i64 s.te, .int .i64 s.vo], .bool false]) (results_cell_2 rfl _ _ (w.heap.size + 1) 23 #[.int .i64 s.te, .int .i64 s.vo] (0, 0) _ (.bool false) rfl rfl (HZ3.out.put s) Try.underlying23 rfl bal_info) rfl ?_
    exact ⟨rfl, below_row HB3.out (by omega) _ HB3.out.size⟩
end Go.Proofs.Ytaficaapfccikaa
