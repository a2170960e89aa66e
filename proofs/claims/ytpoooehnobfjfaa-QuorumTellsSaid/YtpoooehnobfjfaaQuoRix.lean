/-
  Contracts of dotterelref15's Index and Change. Conditions: what each slice reads as.
-/
import Derived.Test.YtpoooehnobfjfaaQuoRef
import Derived.Test.YtpoooehnobfjfaaQuoChg
namespace Go.Proofs.Ytpoooehnobfjfaa
open Go.ChangeShapes Go.WideShapes Go.ChangeAt Go.RowKit
set_option linter.unusedVariables false

def Enough (vs : List Int) (x : Int) : Prop := vs.length < 2 * cntGe vs x
/-- the best of the first k -/
def BestAt (vs : List Int) (k : Nat) (some_ : Bool) (b : Int) : Prop :=
  (some_ = false ∧ b = 0 ∧ ∀ x ∈ vs.take k, ¬ Enough vs x) ∨ (some_ = true ∧ b ∈ vs ∧ Enough vs b ∧ ∀ x ∈ vs.take k, Enough vs x → x ≤ b)
theorem best_none {vs : List Int} {k : Nat} {s : Bool} {b x : Int} (h : BestAt vs k s b) (hx : vs[k]? = some x) (hn : ¬ Enough vs x) : BestAt vs (k + 1) s b := by
  rcases h with ⟨h1, h2, h3⟩ | ⟨h1, h2, h3, h4⟩
  · refine .inl ⟨h1, h2, fun y hy => ?_⟩
    rw [take_snoc hx] at hy
    rcases List.mem_append.1 hy with h | h
    · exact h3 y h
    · simp at h; subst h; exact hn
  · refine .inr ⟨h1, h2, h3, fun y hy => ?_⟩
    rw [take_snoc hx] at hy
    rcases List.mem_append.1 hy with h | h
    · exact h4 y h
    · simp at h; subst h; exact fun he => absurd he hn
theorem best_old {vs : List Int} {k : Nat} {b x : Int} (h : BestAt vs k true b) (hx : vs[k]? = some x) (hn : x ≤ b) : BestAt vs (k + 1) true b := by
  rcases h with ⟨h1, _⟩ | ⟨h1, h2, h3, h4⟩
  · cases h1
  · refine .inr ⟨h1, h2, h3, fun y hy => ?_⟩
    rw [take_snoc hx] at hy
    rcases List.mem_append.1 hy with h | h
    · exact h4 y h
    · simp at h; subst h; exact fun _ => hn
theorem best_new {vs : List Int} {k : Nat} {s : Bool} {b x : Int} (h : BestAt vs k s b) (hx : vs[k]? = some x) (he : Enough vs x) (hn : s = true → b ≤ x) : BestAt vs (k + 1) true x := by
  refine .inr ⟨rfl, List.mem_of_getElem? hx, he, fun y hy hey => ?_⟩
  rw [take_snoc hx] at hy
  rcases List.mem_append.1 hy with h5 | h5
  · rcases h with ⟨h1, h2, h3⟩ | ⟨h1, h2, h3, h4⟩
    · exact absurd hey (h3 y h5)
    · have := h4 y h5 hey
      have := hn h1
      omega
  · simp at h5; omega
theorem best_idx {vs : List Int} {s : Bool} {b v : Int} (h : BestAt vs vs.length s b) (hv : IsIdx vs v) (h0 : 0 < vs.length) : b = v := by
  have hm := idx_mem hv h0
  have he : Enough vs v := (hv v).1 (Int.le_refl _)
  rcases h with ⟨h1, h2, h3⟩ | ⟨h1, h2, h3, h4⟩
  · exact absurd he (h3 v (by rw [List.take_length]; exact hm))
  · have k1 := h4 v (by rw [List.take_length]; exact hm) he
    have k2 := (hv b).2 h3
    omega

set_option maxRecDepth 100000 in
set_option maxHeartbeats 4000000 in
theorem RIndex_any (A : Option Addr) (n c : Nat) (vs : List Int) (w : World) (hn : vs.length = n) (hl : n ≤ 1000000) (hs : Seen w A (numsV vs)) :
    Calls Try.prog 9 #[.slice A n c] w fun e w' => ∃ b s, e = .returned (.int .i64 b) ∧ BestAt vs n s b ∧ Below w.heap.size w w' := by
  have Hs := Lib.hid hs; have Hn := Lib.hid hn
  clear hs hn
  go_enter Try.func9, Try.ntmps9
  go_wp2
  go_loopw [3, 4, 5] (fun sb ss i wr => ∃ (k : Nat) (b : Int) (s : Bool), k ≤ n ∧ i = .int .i64 k ∧ sb = .int .i64 b ∧ ss = .bool s ∧ BestAt vs k s b ∧ Below w.heap.size w wr) (fun _ _ i _ => n - (intOf i).toNat)
  case atStart => exact ⟨0, 0, false, by omega, rfl, rfl, rfl, .inl ⟨rfl, rfl, by simp⟩, Below.refl _ _⟩
  case round =>
    obtain ⟨k, b, s, hk, rfl, rfl, rfl, hbest, hbw⟩ := hrel
    have Hbest := Lib.hid hbest; have Hbw := Lib.hid hbw
    clear hbest hbw
    by_cases hlt : k < n
    · obtain ⟨g, o, x, rfl, hx, hc⟩ := (Hs.out.below Hbw.out).num (j := k) (by have := Hn.out; omega)
      have Hx := Lib.hid hx; clear hx
      have Hc := Lib.hid hc; clear hc
      have b0 : (0 : Int) ≤ (k : Int) := by omega
      have b1 : (k : Int) < (n : Int) := by omega
      obtain ⟨V, rfl⟩ : ∃ V, V = wr := ⟨_, rfl⟩
      go_wp2
      go_loopw [6, 7] (fun sz j wq => ∃ (q z : Nat), q ≤ n ∧ j = .int .i64 q ∧ sz = .int .i64 z ∧ z ≤ q ∧ cntGe (vs.take q) x = z ∧ Below V.heap.size V wq) (fun _ j _ => n - (intOf j).toNat)
      case atStart => exact ⟨0, 0, by omega, rfl, rfl, Nat.le_refl _, rfl, Below.refl _ _⟩
      case round =>
        obtain ⟨q, z, hq, rfl, rfl, hzq, hcnt, hbq⟩ := hrel
        have Hcnt := Lib.hid hcnt; have Hbq := Lib.hid hbq
        clear hcnt hbq
        have hcx : wr.cell? ⟨g, o + k, none⟩ = some (.int .i64 x) := (Hbq.out.cell (block_lt_of_cell Hc.out)).trans Hc.out
        by_cases hlq : q < n
        · obtain ⟨g2, o2, y, e2, hy, hc2⟩ := ((Hs.out.below Hbw.out).below Hbq.out).num (j := q) (by have := Hn.out; omega)
          injection e2 with e2
          injection e2 with e2 e3 _
          subst e2; subst e3
          have Hy := Lib.hid hy; clear hy
          have d0 : (0 : Int) ≤ (q : Int) := by omega
          have d1 : (q : Int) < (n : Int) := by omega
          by_cases hxy : x ≤ y
          · have e : cntGe (vs.take (q + 1)) x = z + 1 := by
              have := Hcnt.out
              unfold cntGe at this ⊢
              rw [take_snoc Hy.out, List.countP_append, this]
              simp [hxy]
            have He := Lib.hid e; clear e
            go_wp2
            go_quiet (fail)
            go_wp2
            go_roundw
            case rel => exact ⟨q + 1, z + 1, by omega, by go_num, by go_num, by omega, He.out, below_drewN Hbq.out _⟩
            case measure => simp [intOf]; omega
          · have e : cntGe (vs.take (q + 1)) x = z := by
              have := Hcnt.out
              unfold cntGe at this ⊢
              rw [take_snoc Hy.out, List.countP_append, this]
              simp [hxy]
            have He := Lib.hid e; clear e
            go_wp2
            go_quiet (fail)
            go_wp2
            go_roundw
            case rel => exact ⟨q + 1, z, by omega, by go_num, rfl, by omega, He.out, below_drewN Hbq.out _⟩
            case measure => simp [intOf]; omega
        · obtain rfl : q = n := by omega
          have hbw2 : Below w.heap.size w wr := Hbw.out.trans (Hbq.out.mono Hbw.out.size)
          have Hbw2 := Lib.hid hbw2; clear hbw2
          have hen : Enough vs x ↔ (q : Int) < 2 * (z : Int) := by
            unfold Enough
            have h1 := Hcnt.out
            rw [List.take_of_length_le (by have := Hn.out; omega)] at h1
            have := Hn.out
            rw [h1]
            omega
          have Hen := Lib.hid hen; clear hen
          by_cases hgt : (q : Int) < 2 * (z : Int)
          · cases s with
            | false =>
              go_wp2
              go_roundw
              case rel => exact ⟨k + 1, x, true, by omega, by go_num, rfl, rfl, best_new Hbest.out Hx.out (Hen.out.2 hgt) (fun e => by cases e), Hbw2.out⟩
              case measure => simp [intOf]; omega
            | true =>
              by_cases hxb : b < x
              · go_wp2
                go_roundw
                case rel => exact ⟨k + 1, x, true, by omega, by go_num, rfl, rfl, best_new Hbest.out Hx.out (Hen.out.2 hgt) (fun _ => by omega), Hbw2.out⟩
                case measure => simp [intOf]; omega
              · go_wp2
                go_roundw
                case rel => exact ⟨k + 1, b, true, by omega, by go_num, rfl, rfl, best_old Hbest.out Hx.out (by omega), Hbw2.out⟩
                case measure => simp [intOf]; omega
          · go_wp2
            go_roundw
            case rel => exact ⟨k + 1, b, s, by omega, by go_num, rfl, rfl, best_none Hbest.out Hx.out (fun h => by have := Hen.out.1 h; omega), Hbw2.out⟩
            case measure => simp [intOf]; omega
    · obtain rfl : k = n := by omega
      go_wp2
      go_ret
      exact ⟨b, s, rfl, Hbest.out, Hbw.out⟩
end Go.Proofs.Ytpoooehnobfjfaa
