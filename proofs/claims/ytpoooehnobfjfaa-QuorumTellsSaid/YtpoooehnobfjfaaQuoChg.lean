/-
  Contract of quorum.Change: members with one more, or one less, or an error. Conditions: what the slice reads as.
-/
import Derived.Test.YtpoooehnobfjfaaQuoIdx
namespace Go.Proofs.Ytpoooehnobfjfaa
open Go.ChangeShapes Go.WideShapes Go.ChangeAt Go.RowKit
set_option linter.unusedVariables false

/-- what a change hands back -/
def ChgRet (er : Nat) (out : List Int) (w : World) (e : Ending) (w' : World) : Prop :=
  ∃ A c, e = .returned (.tuple #[.slice A out.length c, .int .i64 (er : Int)]) ∧ out.length ≤ c ∧ c ≤ maxLen ∧ Seen w' A (numsV out) ∧ Below w.heap.size w w'
theorem chg_no {er : Nat} {w w' : World} {e : Ending} (h : e = .returned (.tuple #[.slice none 0 0, .int .i64 (er : Int)])) (hb : Below w.heap.size w w') : ChgRet er [] w e w' :=
  ⟨none, 0, h, Nat.le_refl _, Nat.zero_le _, .nil _ _, hb⟩
theorem chg_yes {w w1 w' : World} {e : Ending} {A : Option Addr} {n c B : Nat} {out : List Int} (h : e = .returned (.tuple #[.slice A n c, .int .i64 0])) (hl : out.length = n) (ho : w'.ownsRow B 3 1 (.slice A n c) n (numsV out)) (hb : Below w.heap.size w w') : ChgRet 0 out w e w' := by
  subst hl
  exact ⟨A, c, h, (own_capI ho).1, (own_capI ho).2, .of_own ho, hb⟩

theorem err_arg1 {l : List Int} {add : Bool} {id : Int} (h : ¬ RightQ l) : changeE l add id = 1 := if_pos (.inl h)
theorem err_arg2 {l : List Int} {add : Bool} {id : Int} (h : ¬ InQ id) : changeE l add id = 1 := if_pos (.inr h)
theorem err_there {l : List Int} {id : Int} (h : RightQ l) (k : InQ id) (hm : id ∈ l) : changeE l true id = 8 := by
  unfold changeE
  rw [if_neg (by rw [not_or, Decidable.not_not, Decidable.not_not]; exact ⟨h, k⟩), if_pos ⟨rfl, hm⟩]
theorem err_full {l : List Int} {id : Int} (h : RightQ l) (k : InQ id) (hm : ¬ id ∈ l) (h7 : l.length = 7) : changeE l true id = 6 := by
  unfold changeE
  rw [if_neg (by rw [not_or, Decidable.not_not, Decidable.not_not]; exact ⟨h, k⟩), if_neg (fun e => hm e.2), if_neg (fun e => by cases e.1), if_pos ⟨rfl, h7⟩]
theorem err_none {l : List Int} {id : Int} (h : RightQ l) (k : InQ id) (hm : ¬ id ∈ l) : changeE l false id = 7 := by
  unfold changeE
  rw [if_neg (by rw [not_or, Decidable.not_not, Decidable.not_not]; exact ⟨h, k⟩), if_neg (fun e => by cases e.1), if_pos ⟨rfl, hm⟩]
theorem err_state {l : List Int} {id : Int} (h : RightQ l) (k : InQ id) (hm : id ∈ l) (h1 : l.length = 1) : changeE l false id = 9 := by
  unfold changeE
  rw [if_neg (by rw [not_or, Decidable.not_not, Decidable.not_not]; exact ⟨h, k⟩), if_neg (fun e => by cases e.1), if_neg (fun e => e.2 hm), if_neg (fun e => by cases e.1), if_pos ⟨rfl, h1⟩]
theorem ok_add {l : List Int} {id : Int} (h : RightQ l) (k : InQ id) (hm : ¬ id ∈ l) (h7 : ¬ l.length = 7) : changeE l true id = 0 := by
  unfold changeE
  rw [if_neg (by rw [not_or, Decidable.not_not, Decidable.not_not]; exact ⟨h, k⟩), if_neg (fun e => hm e.2), if_neg (fun e => by cases e.1), if_neg (fun e => h7 e.2), if_neg (fun e => by cases e.1)]
theorem ok_del {l : List Int} {id : Int} (h : RightQ l) (k : InQ id) (hm : id ∈ l) (h1 : ¬ l.length = 1) : changeE l false id = 0 := by
  unfold changeE
  rw [if_neg (by rw [not_or, Decidable.not_not, Decidable.not_not]; exact ⟨h, k⟩), if_neg (fun e => by cases e.1), if_neg (fun e => e.2 hm), if_neg (fun e => by cases e.1), if_neg (fun e => h1 e.2)]

set_option maxRecDepth 100000 in
set_option maxHeartbeats 2000000 in
theorem Change_any (A : Option Addr) (n c : Nat) (us : List Int) (add : Bool) (id : Int) (w : World) (hn : us.length = n) (hnm : n ≤ maxLen) (hs : Seen w A (numsV us)) :
    Calls Try.prog 10 #[.slice A n c, .bool add, .int .i64 id] w (ChgRet (changeE us add id) (changeL us add id) w) := by
  have KR := Lib.hid (Right_any A n c us w hn hnm hs)
  by_cases hr : RightQ us
  · by_cases hi : InQ id
    · have h17 : 1 ≤ n ∧ n ≤ 7 := by rw [← hn]; exact hr.1
      obtain ⟨h1, h7⟩ := h17
      have KS := Lib.hid (fun (w' : World) (hb : Below w.heap.size w w') => ISearch_any A n c us id w' hn (by omega) (by omega) (hs.below hb) hr.2.2)
      have KC := Lib.hid (fun (w' : World) (hb : Below w.heap.size w w') => IClone_any A n c us w' hn (by omega) (by omega) (hs.below hb))
      have hp := fun hm => place_lt (id := id) hr.2.2 hm
      have hpl : (us.countP fun a => decide (a < id)) ≤ n := by rw [← hn]; exact List.countP_le_length
      have Hr := Lib.hid hr; have Hi := Lib.hid hi; have Hn := Lib.hid hn; have Hp := Lib.hid hp
      obtain ⟨p, hpe⟩ : ∃ p, (us.countP fun a => decide (a < id)) = p := ⟨_, rfl⟩
      rw [hpe] at hpl
      have Hpe := Lib.hid hpe
      by_cases hm : id ∈ us
      · have Hm := Lib.hid hm
        cases add with
        | true =>
          rw [err_there hr hi hm, changeL_no (by rw [err_there hr hi hm]; omega)]
          clear hr hi hn hs hm hp hpe hnm
          go_enter Try.func10, Try.ntmps10
          go_wp2_with (first
            | (go_at_call 12; refine KR.out.mono ?_; rintro e w1 ⟨rfl, rfl⟩; rw [show decide (RightQ us) = true from decide_eq_true Hr.out])
            | (go_at_call 22; refine (isId_any id _).mono ?_; rintro e w2 ⟨rfl, rfl⟩; rw [show decide (InQ id) = true from decide_eq_true Hi.out])
            | (go_at_call 23; refine (KS.out _ (Below.refl _ _)).mono ?_; rintro e w3 ⟨rfl, hb3⟩; have Hb3 := Lib.hid hb3; clear hb3; rw [show decide (id ∈ us) = true from decide_eq_true Hm.out, Hpe.out]))
          go_ret2
          exact chg_no rfl Hb3.out
        | false =>
          by_cases hone : us.length = 1
          · rw [err_state hr hi hm hone, changeL_no (by rw [err_state hr hi hm hone]; omega)]
            obtain rfl : n = 1 := by omega
            clear hr hi hn hs hm hp hpe hnm hone
            go_enter Try.func10, Try.ntmps10
            go_wp2_with (first
              | (go_at_call 12; refine KR.out.mono ?_; rintro e w1 ⟨rfl, rfl⟩; rw [show decide (RightQ us) = true from decide_eq_true Hr.out])
              | (go_at_call 22; refine (isId_any id _).mono ?_; rintro e w2 ⟨rfl, rfl⟩; rw [show decide (InQ id) = true from decide_eq_true Hi.out])
              | (go_at_call 23; refine (KS.out _ (Below.refl _ _)).mono ?_; rintro e w3 ⟨rfl, hb3⟩; have Hb3 := Lib.hid hb3; clear hb3; rw [show decide (id ∈ us) = true from decide_eq_true Hm.out, Hpe.out]))
            go_ret2
            exact chg_no rfl Hb3.out
          · have hok := ok_del hr hi hm hone
            have hlen := length_outQ hr.2.2 hm
            rw [hok, changeL_out hok]
            have hout : outQ us id = us.take p ++ us.drop (p + 1) := by unfold outQ; rw [hpe]
            rw [hout] at hlen ⊢
            have hpn : p < n := by have := (hp hm).1; omega
            have q1 : ((n : Int) == 1) = false := by simp; omega
            have s1 : IntKind.i64.wrap ((p : Int) + 1) = (p : Int) + 1 := by rw [IntKind.wrap_i64]; omega
            have Hlen := Lib.hid hlen
            clear hr hi hn hs hm hp hpe hnm hone hout hok hlen
            go_enter Try.func10, Try.ntmps10
            go_wp2_with (first
              | (go_at_call 12; refine KR.out.mono ?_; rintro e w1 ⟨rfl, rfl⟩; rw [show decide (RightQ us) = true from decide_eq_true Hr.out])
              | (go_at_call 22; refine (isId_any id _).mono ?_; rintro e w2 ⟨rfl, rfl⟩; rw [show decide (InQ id) = true from decide_eq_true Hi.out])
              | (go_at_call 23; refine (KS.out _ (Below.refl _ _)).mono ?_; rintro e w3 ⟨rfl, hb3⟩; have Hb3 := Lib.hid hb3; clear hb3; rw [show decide (id ∈ us) = true from decide_eq_true Hm.out, Hpe.out])
              | (go_at_call 24; refine (KC.out _ Hb3.out).mono ?_; rintro e w4 ⟨g, cap, rfl, hg4, hown4, hb4⟩; have Hg4 := Lib.hid hg4; have Hown4 := Lib.hid hown4; have Hb4 := Lib.hid hb4; clear hg4 hown4 hb4)
              | (go_at_call 26; refine (IDelete_any w3.heap.size g n cap p us w4 hpn Hg4.out Hown4.out).mono ?_; rintro e w5 ⟨rfl, hown5, hb5⟩; have Hown5 := Lib.hid hown5; have Hb5 := Lib.hid hb5; clear hown5 hb5))
            go_ret2
            exact chg_yes (w1 := w4) rfl (by have := Hlen.out; have := Hn.out; omega) Hown5.out (Hb3.out.trans ((Hb4.out.trans Hb5.out).mono Hb3.out.size))
      · have Hm := Lib.hid hm
        cases add with
        | false =>
          rw [err_none hr hi hm, changeL_no (by rw [err_none hr hi hm]; omega)]
          clear hr hi hn hs hm hp hpe hnm
          go_enter Try.func10, Try.ntmps10
          go_wp2_with (first
            | (go_at_call 12; refine KR.out.mono ?_; rintro e w1 ⟨rfl, rfl⟩; rw [show decide (RightQ us) = true from decide_eq_true Hr.out])
            | (go_at_call 22; refine (isId_any id _).mono ?_; rintro e w2 ⟨rfl, rfl⟩; rw [show decide (InQ id) = true from decide_eq_true Hi.out])
            | (go_at_call 23; refine (KS.out _ (Below.refl _ _)).mono ?_; rintro e w3 ⟨rfl, hb3⟩; have Hb3 := Lib.hid hb3; clear hb3; rw [show decide (id ∈ us) = false from decide_eq_false Hm.out, Hpe.out]))
          go_ret2
          exact chg_no rfl Hb3.out
        | true =>
          by_cases hfull : us.length = 7
          · rw [err_full hr hi hm hfull, changeL_no (by rw [err_full hr hi hm hfull]; omega)]
            obtain rfl : n = 7 := by omega
            clear hr hi hn hs hm hp hpe hnm hfull
            go_enter Try.func10, Try.ntmps10
            go_wp2_with (first
              | (go_at_call 12; refine KR.out.mono ?_; rintro e w1 ⟨rfl, rfl⟩; rw [show decide (RightQ us) = true from decide_eq_true Hr.out])
              | (go_at_call 22; refine (isId_any id _).mono ?_; rintro e w2 ⟨rfl, rfl⟩; rw [show decide (InQ id) = true from decide_eq_true Hi.out])
              | (go_at_call 23; refine (KS.out _ (Below.refl _ _)).mono ?_; rintro e w3 ⟨rfl, hb3⟩; have Hb3 := Lib.hid hb3; clear hb3; rw [show decide (id ∈ us) = false from decide_eq_false Hm.out, Hpe.out]))
            go_ret2
            exact chg_no rfl Hb3.out
          · have hok := ok_add hr hi hm hfull
            have hlen := length_putQ us id
            rw [hok, changeL_put hok]
            have hout : putQ us id = us.take p ++ [id] ++ us.drop p := by unfold putQ; rw [hpe]
            rw [hout] at hlen ⊢
            have q1 : ((n : Int) == 7) = false := by simp; omega
            have Hlen := Lib.hid hlen
            clear hr hi hn hs hm hp hpe hnm hfull hout hok hlen
            go_enter Try.func10, Try.ntmps10
            go_wp2_with (first
              | (go_at_call 12; refine KR.out.mono ?_; rintro e w1 ⟨rfl, rfl⟩; rw [show decide (RightQ us) = true from decide_eq_true Hr.out])
              | (go_at_call 22; refine (isId_any id _).mono ?_; rintro e w2 ⟨rfl, rfl⟩; rw [show decide (InQ id) = true from decide_eq_true Hi.out])
              | (go_at_call 23; refine (KS.out _ (Below.refl _ _)).mono ?_; rintro e w3 ⟨rfl, hb3⟩; have Hb3 := Lib.hid hb3; clear hb3; rw [show decide (id ∈ us) = false from decide_eq_false Hm.out, Hpe.out])
              | (go_at_call 24; refine (KC.out _ Hb3.out).mono ?_; rintro e w4 ⟨g, cap, rfl, hg4, hown4, hb4⟩; have Hlt4 := Lib.hid (hown4.lt g rfl).2; have Hg4 := Lib.hid hg4; have Hown4 := Lib.hid hown4; have Hb4 := Lib.hid hb4; clear hg4 hown4 hb4)
              | (go_at_call 25; refine (IInsert_any w3.heap.size g n cap p w4.heap.size us id 3 _ hpl (by omega) (by omega) Hg4.out (by have := Hb4.out.size; simp; omega) (own_below Hown4.out ((Below.refl _ _).alloc (Nat.le_refl _) _)) (heap_alloc_new w4 _) (by have := Hlt4.out; omega)).mono ?_; rintro e w5 ⟨A5, c5, rfl, hown5, hb5⟩; have Hown5 := Lib.hid hown5; have Hb5 := Lib.hid hb5; clear hown5 hb5))
            go_ret2
            exact chg_yes (w1 := w4) rfl (by have := Hlen.out; have := Hn.out; omega) Hown5.out (Hb3.out.trans (((Hb4.out.alloc Hb4.out.size _).trans Hb5.out).mono Hb3.out.size))
    · have e1 := err_arg2 (l := us) (add := add) hi
      rw [e1, changeL_no (by rw [e1]; omega)]
      have Hr := Lib.hid hr; have Hi := Lib.hid hi
      clear hr hi hn hs e1
      go_enter Try.func10, Try.ntmps10
      go_wp2_with (first
        | (go_at_call 12; refine KR.out.mono ?_; rintro e w1 ⟨rfl, rfl⟩; rw [show decide (RightQ us) = true from decide_eq_true Hr.out])
        | (go_at_call 22; refine (isId_any id _).mono ?_; rintro e w2 ⟨rfl, rfl⟩; rw [show decide (InQ id) = false from decide_eq_false Hi.out]))
      go_ret2
      exact chg_no rfl (Below.refl _ _)
  · have e1 := err_arg1 (add := add) (id := id) hr
    rw [e1, changeL_no (by rw [e1]; omega)]
    have Hr := Lib.hid hr
    clear hr hn hs e1
    go_enter Try.func10, Try.ntmps10
    go_wp2_with (go_at_call 12; refine KR.out.mono ?_; rintro e w1 ⟨rfl, rfl⟩; rw [show decide (RightQ us) = false from decide_eq_false Hr.out])
    go_ret2
    exact chg_no rfl (Below.refl _ _)
end Go.Proofs.Ytpoooehnobfjfaa
