/-
  Contract of the laws' great: are there more commands, or greater volumes, than are looked at? Conditions: what the slice reads as.
-/
import Derived.Test.YtcaaakoahaoooaaVolOpen
import Derived.Test.YtcaaakoahaoooaaVolAw2
namespace Go.Proofs.Ytcaaakoahaoooaa
open Go.ChangeShapes Go.WideShapes Go.ChangeAt Go.RowKit
set_option linter.unusedVariables false
set_option linter.unusedSimpArgs false

def bigC (c : Cmd) : Bool := (decide (c.k = 2) || decide (c.k = 4)) && (decide (40 < c.b) && decide (c.b ≤ 512))
def greatF (l : List Cmd) : Bool := (l.take 30).any bigC || decide (30 < l.length)
set_option maxRecDepth 100000 in
set_option maxHeartbeats 2000000 in
theorem Vgreat (A : Option Addr) (n cp : Nat) (l : List Cmd) (w : World) (hn : l.length = n) (hm : n ≤ maxLen) (hs : CmdsAt w A l) :
    Calls Try.prog 7 #[.slice A n cp] w fun e w' => e = .returned (.bool (greatF l)) ∧ w = w' := by
  unfold maxLen at hm
  have HS := Lib.hid hs; have Hn := Lib.hid hn
  clear hn hs
  go_enter Try.func7, Try.ntmps7
  go_wp2
  go_loopw [3] (fun iv wr => ∃ i : Nat, i ≤ n ∧ i ≤ 30 ∧ iv = .int .i64 (i : Int) ∧ (l.take i).any bigC = false ∧ w = wr) (fun iv _ => n - (intOf iv).toNat)
  case atStart => exact ⟨0, by omega, by omega, rfl, by simp, rfl⟩
  case round =>
    obtain ⟨i, hin, hi30, rfl, hno, rfl⟩ := hrel
    by_cases hi : i < n
    · by_cases h30 : i < 30
      · obtain ⟨g, o, x, hA, hx, hat⟩ := HS.out.get (k := i) (by rw [Hn.out]; exact hi)
        have d0 := hat.1 0 _ rfl
        have d2 := hat.1 2 _ rfl
        rw [Nat.add_zero] at d0
        have i0 : (0 : Int) ≤ (i : Int) := by omega
        have i1 : (i : Int) < (n : Int) := by omega
        have i2 : (i : Int) < 30 := by omega
        have htk : l.take (i + 1) = l.take i ++ [x] := by
          obtain ⟨h1, h2⟩ := List.getElem?_eq_some_iff.1 hx
          rw [List.take_succ_eq_append_getElem h1, h2]
        have hyes : bigC x = true → greatF l = true := fun hb => by
          unfold greatF
          rw [Bool.or_eq_true]
          refine .inl ?_
          rw [List.any_eq_true]
          refine ⟨x, ?_, hb⟩
          have h1 : x ∈ l.take (i + 1) := by rw [htk]; simp
          have h2 : l.take (i + 1) = (l.take 30).take (i + 1) := by rw [List.take_take, Nat.min_eq_left (by omega)]
          rw [h2] at h1
          exact List.mem_of_mem_take h1
        have hnx : bigC x = false → (l.take (i + 1)).any bigC = false := fun hb => by
          rw [htk, List.any_append, hno]
          simp [hb]
        have Hyes := Lib.hid hyes; have Hnx := Lib.hid hnx
        clear htk hyes hnx hno hx hat
        subst hA
        obtain ⟨xk, hxk⟩ : ∃ xk, x.k = xk := ⟨_, rfl⟩
        obtain ⟨xb, hxb⟩ : ∃ xb, x.b = xb := ⟨_, rfl⟩
        rw [hxk] at d0
        rw [hxb] at d2
        have hbig : bigC x = ((decide (xk = 2) || decide (xk = 4)) && (decide (40 < xb) && decide (xb ≤ 512))) := by unfold bigC; rw [hxk, hxb]
        have Hbig := Lib.hid hbig
        clear hbig hxk hxb
        have hk : xk = 2 ∨ xk = 4 ∨ (xk ≠ 2 ∧ xk ≠ 4) := by omega
        have hgo : ∀ b, bigC x = b → b = false → (l.take (i + 1)).any bigC = false := fun b e1 e2 => Hnx.out (e1.trans e2)
        have Hgo := Lib.hid hgo
        clear hgo
        have hb3 : (40 < xb ∧ xb ≤ 512) ∨ (40 < xb ∧ ¬ xb ≤ 512) ∨ ¬ 40 < xb := by omega
        rcases hk with hk | hk | ⟨hk, hk'⟩
        · have k2 : (xk == 2) = true := by simpa using hk
          rcases hb3 with ⟨b1, b2⟩ | ⟨b1, b2⟩ | b1
          · have hb : greatF l = true := Hyes.out (by rw [Hbig.out, hk, decide_eq_true b1, decide_eq_true b2]; rfl)
            have Hb := Lib.hid hb
            clear hb hk
            go_wp2
            go_ret
            exact ⟨by rw [Hb.out]; first | done | rfl, by trivial⟩
          · have Hb := Lib.hid (Hnx.out (by rw [Hbig.out, decide_eq_false b2]; simp))
            clear hk
            go_wp2
            go_roundw
            case rel => exact ⟨i + 1, by omega, by omega, by go_num, Hb.out, by trivial⟩
            case measure => simp [intOf]; omega
          · have Hb := Lib.hid (Hnx.out (by rw [Hbig.out, decide_eq_false b1]; simp))
            clear hk
            go_wp2
            go_roundw
            case rel => exact ⟨i + 1, by omega, by omega, by go_num, Hb.out, by trivial⟩
            case measure => simp [intOf]; omega
        · have k2 : (xk == 2) = false := by rw [hk]; rfl
          have k4 : (xk == 4) = true := by simpa using hk
          rcases hb3 with ⟨b1, b2⟩ | ⟨b1, b2⟩ | b1
          · have hb : greatF l = true := Hyes.out (by rw [Hbig.out, hk, decide_eq_true b1, decide_eq_true b2]; rfl)
            have Hb := Lib.hid hb
            clear hb hk
            go_wp2
            go_ret
            exact ⟨by rw [Hb.out]; first | done | rfl, by trivial⟩
          · have Hb := Lib.hid (Hnx.out (by rw [Hbig.out, decide_eq_false b2]; simp))
            clear hk
            go_wp2
            go_roundw
            case rel => exact ⟨i + 1, by omega, by omega, by go_num, Hb.out, by trivial⟩
            case measure => simp [intOf]; omega
          · have Hb := Lib.hid (Hnx.out (by rw [Hbig.out, decide_eq_false b1]; simp))
            clear hk
            go_wp2
            go_roundw
            case rel => exact ⟨i + 1, by omega, by omega, by go_num, Hb.out, by trivial⟩
            case measure => simp [intOf]; omega
        · have k2 : (xk == 2) = false := by simpa using hk
          have k4 : (xk == 4) = false := by simpa using hk'
          have Hb := Lib.hid (Hnx.out (by rw [Hbig.out, decide_eq_false hk, decide_eq_false hk']; rfl))
          clear hk hk' hb3
          go_wp2
          go_roundw
          case rel => exact ⟨i + 1, by omega, by omega, by go_num, Hb.out, by trivial⟩
          case measure => simp [intOf]; omega
      · have i30 : i = 30 := by omega
        have i2 : ¬ (i : Int) < 30 := by omega
        have i1 : (i : Int) < (n : Int) := by omega
        have l1 : (30 : Int) < (n : Int) := by omega
        have hb : greatF l = true := by
          unfold greatF
          rw [Bool.or_eq_true]
          exact .inr (decide_eq_true (by rw [Hn.out]; omega))
        have Hb := Lib.hid hb
        clear hno hb i30
        go_wp2
        go_ret
        exact ⟨by rw [Hb.out]; first | done | rfl, by trivial⟩
    · obtain rfl : i = n := by omega
      have i1 : ¬ (i : Int) < (i : Int) := by omega
      have l1 : ¬ (30 : Int) < (i : Int) := by omega
      have hb : greatF l = false := by
        have e : l.take 30 = l.take i := by
          rw [List.take_of_length_le (by rw [Hn.out]; exact hi30), List.take_of_length_le (by rw [Hn.out]; exact Nat.le_refl _)]
        unfold greatF
        rw [e, hno, decide_eq_false (by rw [Hn.out]; omega)]
        rfl
      have Hb := Lib.hid hb
      clear hno hb
      go_wp2
      go_ret
      exact ⟨by rw [Hb.out]; first | done | rfl, by trivial⟩
end Go.Proofs.Ytcaaakoahaoooaa
