/-
  Contracts of dotterelref15's Has, Right and Won, and of the law's meet. Conditions: what each slice reads as.
-/
import Derived.Test.YtpoooehnobfjfaaQuoFn
import Derived.Lib.Hide
import Derived.Test.YtpoooehnobfjfaaKept
namespace Go.Proofs.Ytpoooehnobfjfaa
open Go.ChangeShapes Go.WideShapes Go.ChangeAt Go.RowKit
set_option linter.unusedVariables false

theorem not_take {us : List Int} {k : Nat} {x v : Int} (hx : us[k]? = some x) (h : ¬ v ∈ us.take k) (hne : x ≠ v) : ¬ v ∈ us.take (k + 1) := by
  rw [take_snoc hx]
  simp only [List.mem_append, List.mem_singleton, not_or]
  exact ⟨h, fun e => hne e.symm⟩
set_option maxRecDepth 100000 in
theorem Has_any (A : Option Addr) (n c : Nat) (us : List Int) (v : Int) (w : World) (hn : us.length = n) (hm : n ≤ maxLen) (hs : Seen w A (numsV us)) :
    Calls Try.prog 27 #[.slice A n c, .int .i64 v] w fun e w' => e = .returned (.bool (decide (v ∈ us))) ∧ w' = w := by
  unfold maxLen at hm
  have Hs := Lib.hid hs; have Hn := Lib.hid hn
  clear hs hn
  go_enter Try.func27, Try.ntmps27
  go_wp2
  go_loopw [5] (fun i wr => ∃ k : Nat, k ≤ n ∧ i = .int .i64 k ∧ w = wr ∧ ¬ v ∈ us.take k) (fun i _ => n - (intOf i).toNat)
  case atStart => exact ⟨0, by omega, rfl, rfl, by simp⟩
  case round =>
    obtain ⟨k, hk, rfl, rfl, hg⟩ := hrel
    have Hg := Lib.hid hg; clear hg
    by_cases hlt : k < n
    · obtain ⟨g, o, x, rfl, hx, hc⟩ := Hs.out.num (j := k) (by have := Hn.out; omega)
      have Hx := Lib.hid hx; clear hx
      have b0 : (0 : Int) ≤ (k : Int) := by omega
      have b1 : (k : Int) < (n : Int) := by omega
      by_cases he : x = v
      · subst he
        go_wp2
        go_ret
        exact ⟨bool_ret' (decide_eq_true (List.mem_of_getElem? Hx.out)).symm, rfl⟩
      · have hq : (x == v) = false := by simpa using he
        have He := Lib.hid he; clear he
        go_wp2
        go_roundw
        case rel => exact ⟨k + 1, by omega, by go_num, by first | trivial | rfl, not_take Hx.out Hg.out He.out⟩
        case measure => simp [intOf]; omega
    · obtain rfl : k = n := by omega
      go_wp2
      go_ret
      exact ⟨bool_ret' (decide_eq_false fun h => Hg.out (by rw [List.take_of_length_le (by have := Hn.out; omega)]; exact h)).symm, rfl⟩

/-- one of l is in both -/
def meetQ (l a b : List Int) : Bool := decide (∃ x ∈ l, x ∈ a ∧ x ∈ b)
set_option maxRecDepth 100000 in
theorem meet_any (A1 A2 A3 : Option Addr) (n1 n2 n3 c1 c2 c3 : Nat) (l a b : List Int) (w : World) (h1 : l.length = n1) (h2 : a.length = n2) (h3 : b.length = n3) (m1 : n1 ≤ maxLen) (m2 : n2 ≤ maxLen) (m3 : n3 ≤ maxLen)
    (s1 : Seen w A1 (numsV l)) (s2 : Seen w A2 (numsV a)) (s3 : Seen w A3 (numsV b)) :
    Calls Try.prog 17 #[.slice A1 n1 c1, .slice A2 n2 c2, .slice A3 n3 c3] w fun e w' => e = .returned (.bool (meetQ l a b)) ∧ w' = w := by
  have KA := Lib.hid (fun v => Has_any A2 n2 c2 a v w h2 m2 s2)
  have KB := Lib.hid (fun v => Has_any A3 n3 c3 b v w h3 m3 s3)
  unfold maxLen at m1
  have Hs := Lib.hid s1; have Hn := Lib.hid h1
  clear s1 s2 s3 h1 h2 h3 m2 m3
  go_enter Try.func17, Try.ntmps17
  go_wp2
  go_loopw [7] (fun i wr => ∃ k : Nat, k ≤ n1 ∧ i = .int .i64 k ∧ w = wr ∧ ∀ x ∈ l.take k, ¬ (x ∈ a ∧ x ∈ b)) (fun i _ => n1 - (intOf i).toNat)
  case atStart => exact ⟨0, by omega, rfl, rfl, by simp⟩
  case round =>
    obtain ⟨k, hk, rfl, rfl, hg⟩ := hrel
    have Hg := Lib.hid hg; clear hg
    by_cases hlt : k < n1
    · obtain ⟨g, o, x, rfl, hx, hc⟩ := Hs.out.num (j := k) (by have := Hn.out; omega)
      have Hx := Lib.hid hx; clear hx
      have b0 : (0 : Int) ≤ (k : Int) := by omega
      have b1 : (k : Int) < (n1 : Int) := by omega
      have more : ¬ (x ∈ a ∧ x ∈ b) → ∀ y ∈ l.take (k + 1), ¬ (y ∈ a ∧ y ∈ b) := fun hn y hy => by
        rw [take_snoc Hx.out] at hy
        rcases List.mem_append.1 hy with h | h
        · exact Hg.out y h
        · simp at h; subst h; exact hn
      have More := Lib.hid more; clear more
      by_cases ha : x ∈ a
      · have Ha := Lib.hid ha; clear ha
        by_cases hb : x ∈ b
        · have Hb := Lib.hid hb; clear hb
          go_wp2_with (first
            | (go_at_call_of 27 (Value.slice A3 n3 c3); refine (KB.out x).mono ?_; rintro e w1 ⟨rfl, rfl⟩; rw [show decide (x ∈ b) = true from decide_eq_true Hb.out])
            | (go_at_call 27; refine (KA.out x).mono ?_; rintro e w1 ⟨rfl, rfl⟩; rw [show decide (x ∈ a) = true from decide_eq_true Ha.out]))
          go_ret
          exact ⟨bool_ret' (decide_eq_true ⟨x, List.mem_of_getElem? Hx.out, Ha.out, Hb.out⟩).symm, rfl⟩
        · have Hb := Lib.hid hb; clear hb
          go_wp2_with (first
            | (go_at_call_of 27 (Value.slice A3 n3 c3); refine (KB.out x).mono ?_; rintro e w1 ⟨rfl, rfl⟩; rw [show decide (x ∈ b) = false from decide_eq_false Hb.out])
            | (go_at_call 27; refine (KA.out x).mono ?_; rintro e w1 ⟨rfl, rfl⟩; rw [show decide (x ∈ a) = true from decide_eq_true Ha.out]))
          go_roundw
          case rel => exact ⟨k + 1, by omega, by go_num, by first | trivial | rfl, More.out fun h => Hb.out h.2⟩
          case measure => simp [intOf]; omega
      · have Ha := Lib.hid ha; clear ha
        go_wp2_with (go_at_call 27; refine (KA.out x).mono ?_; rintro e w1 ⟨rfl, rfl⟩; rw [show decide (x ∈ a) = false from decide_eq_false Ha.out])
        go_roundw
        case rel => exact ⟨k + 1, by omega, by go_num, by first | trivial | rfl, More.out fun h => Ha.out h.1⟩
        case measure => simp [intOf]; omega
    · obtain rfl : k = n1 := by omega
      go_wp2
      go_ret
      refine ⟨bool_ret' (decide_eq_false ?_).symm, rfl⟩
      rintro ⟨x, hx, hab⟩
      have := Hg.out
      rw [List.take_of_length_le (by have := Hn.out; omega)] at this
      exact this x hx hab

attribute [local irreducible] wpQuiet in
set_option maxRecDepth 100000 in
set_option maxHeartbeats 2000000 in
theorem RRight_any (A : Option Addr) (n c : Nat) (us : List Int) (w : World) (hn : us.length = n) (hm : n ≤ maxLen) (hs : Seen w A (numsV us)) :
    Calls Try.prog 8 #[.slice A n c] w fun e w' => e = .returned (.bool (decide (RightQ us))) ∧ Below w.heap.size w w' := by
  unfold maxLen at hm
  by_cases h1 : n < 1
  · have hq : decide (RightQ us) = false := decide_eq_false fun h => by have := h.1.1; omega
    have Hq := Lib.hid hq
    have h2 : (n : Int) < 1 := by omega
    clear hn hs hq
    go_enter Try.func8, Try.ntmps8
    go_wp2
    go_ret
    exact ⟨bool_ret' Hq.out.symm, Below.refl _ _⟩
  · by_cases h7 : 7 < n
    · have hq : decide (RightQ us) = false := decide_eq_false fun h => by have := h.1.2; omega
      have Hq := Lib.hid hq
      have h2 : ¬ (n : Int) < 1 := by omega
      have h3 : (7 : Int) < (n : Int) := by omega
      clear hn hs hq
      go_enter Try.func8, Try.ntmps8
      go_wp2
      go_ret
      exact ⟨bool_ret' Hq.out.symm, Below.refl _ _⟩
    · have h2 : ¬ (n : Int) < 1 := by omega
      have h3 : ¬ (7 : Int) < (n : Int) := by omega
      have Hs := Lib.hid hs; have Hn := Lib.hid hn
      clear hs hn
      go_enter Try.func8, Try.ntmps8
      go_wp2
      go_loopw [3] (fun i wr => ∃ k : Nat, k ≤ n ∧ i = .int .i64 k ∧ Below w.heap.size w wr ∧ GoodQ (us.take k)) (fun i _ => n - (intOf i).toNat)
      case atStart => exact ⟨0, by omega, rfl, Below.refl _ _, good_nil⟩
      case round =>
        obtain ⟨k, hk, rfl, hbw, hg⟩ := hrel
        have Hg := Lib.hid hg; clear hg
        have Hbw := Lib.hid hbw; clear hbw
        by_cases hlt : k < n
        · obtain ⟨g, o, x, rfl, hx, hc⟩ := (Hs.out.below Hbw.out).num (j := k) (by have := Hn.out; omega)
          have Hx := Lib.hid hx; clear hx
          have b0 : (0 : Int) ≤ (k : Int) := by omega
          have b1 : (k : Int) < (n : Int) := by omega
          have low : ¬ InQ x → ¬ GoodQ (us.take (k + 1)) := fun h hh => h (hh.1 x (by rw [take_snoc Hx.out]; simp))
          have Low := Lib.hid low; clear low
          by_cases x0 : x < 0
          · go_wp2
            go_quiet (fail)
            go_wp2
            go_ret
            exact ⟨bool_ret' (not_good (Low.out fun h => by have := h.1; omega)).symm, below_drewN Hbw.out _⟩
          · by_cases x15 : 15 < x
            · go_wp2
              go_quiet (fail)
              go_wp2
              go_ret
              exact ⟨bool_ret' (not_good (Low.out fun h => by have := h.2; omega)).symm, below_drewN Hbw.out _⟩
            · have hi : InQ x := ⟨by omega, by omega⟩
              have Hi := Lib.hid hi; clear hi
              rcases k with _ | k
              · have c0 : wr.cell? ⟨g, o, none⟩ = some (.int .i64 x) := hc
                go_wp2
                go_quiet (fail)
                go_wp2
                go_roundw
                case rel => exact ⟨1, by omega, by go_num, below_drewN Hbw.out _, (good_step0 Hx.out).2 Hi.out⟩
                case measure => simp [intOf]; omega
              · obtain ⟨g2, o2, y, e2, hy, hc2⟩ := (Hs.out.below Hbw.out).num (j := k) (by have := Hn.out; omega)
                injection e2 with e2
                injection e2 with e2 e3 _
                subst e2; subst e3
                have Hy := Lib.hid hy; clear hy
                obtain ⟨K, hK⟩ : ∃ K, k + 1 = K := ⟨_, rfl⟩
                have step := good_step Hg.out Hy.out Hx.out
                rw [hK] at hc b0 b1 hk hlt step ⊢
                have s1 : IntKind.i64.wrap ((K : Int) - 1) = (k : Int) := by rw [IntKind.wrap_i64]; omega
                have b2 : (0 : Int) ≤ (k : Int) := by omega
                have b3 : (k : Int) < (n : Int) := by omega
                have b4 : (0 : Int) < (K : Int) := by omega
                have b5 : 0 < K := by omega
                have HK := Lib.hid hK; clear hK
                have Hst := Lib.hid step; clear step
                clear Hg
                by_cases hyx : y < x
                · have q1 : ¬ x ≤ y := by omega
                  go_wp2
                  go_quiet (fail)
                  go_wp2
                  go_roundw
                  case rel => exact ⟨K + 1, by omega, by go_num, below_drewN Hbw.out _, Hst.out.2 ⟨Hi.out, by omega⟩⟩
                  case measure => simp [intOf]; omega
                · have q1 : x ≤ y := by omega
                  go_wp2
                  go_quiet (fail)
                  go_wp2
                  go_ret
                  exact ⟨bool_ret' (not_good (k := K + 1) fun h => by have := (Hst.out.1 h).2; omega).symm, below_drewN Hbw.out _⟩
        · obtain rfl : k = n := by omega
          go_wp2
          go_ret
          exact ⟨bool_ret' (decide_eq_true ⟨⟨by have := Hn.out; omega, by have := Hn.out; omega⟩, by have := Hg.out; rwa [List.take_of_length_le (by have := Hn.out; omega)] at this⟩).symm, Hbw.out⟩

set_option maxRecDepth 100000 in
set_option maxHeartbeats 2000000 in
theorem RWon_any (A C : Option Addr) (n c m d : Nat) (us ys : List Int) (w : World) (hn : us.length = n) (hnm : n ≤ maxLen) (hs : Seen w A (numsV us)) (hm : ys.length = m) (hl : m ≤ maxLen) (hy : Seen w C (numsV ys)) :
    Calls Try.prog 14 #[.slice A n c, .slice C m d] w fun e w' => e = .returned (.bool (wonQ us ys)) ∧ Below w.heap.size w w' := by
  have KR := Lib.hid (RRight_any A n c us w hn hnm hs)
  have Hs := Lib.hid hs; have Hn := Lib.hid hn; have Hy := Lib.hid hy; have Hm := Lib.hid hm; have Hl := Lib.hid hl
  by_cases hr : RightQ us
  · have h7 : n ≤ 7 := by have := hr.1.2; omega
    have Hr := Lib.hid hr
    clear hr hs hy hn hm hnm hl
    go_enter Try.func14, Try.ntmps14
    go_wp2_with (go_at_call 8; refine KR.out.mono ?_; rintro e w1 ⟨rfl, hb1⟩; rw [show decide (RightQ us) = true from decide_eq_true Hr.out]; have Hb1 := Lib.hid hb1; clear hb1)
    go_loopw [5, 6] (fun s i wr => ∃ k z : Nat, k ≤ n ∧ i = .int .i64 k ∧ s = .int .i64 z ∧ z ≤ k ∧ cntIn (us.take k) ys = z ∧ Below w.heap.size w wr) (fun _ i _ => n - (intOf i).toNat)
    case atStart => exact ⟨0, 0, by omega, rfl, rfl, Nat.le_refl _, rfl, Hb1.out⟩
    case round =>
      obtain ⟨k, z, hk, rfl, rfl, hzk, hg, hbw⟩ := hrel
      have Hg := Lib.hid hg; clear hg
      have Hbw := Lib.hid hbw; clear hbw
      by_cases hlt : k < n
      · obtain ⟨g, o, x, rfl, hx, hc⟩ := (Hs.out.below Hbw.out).num (j := k) (by have := Hn.out; omega)
        have Hx := Lib.hid hx; clear hx
        have b0 : (0 : Int) ≤ (k : Int) := by omega
        have b1 : (k : Int) < (n : Int) := by omega
        have KH := Lib.hid (Has_any C m d ys x wr Hm.out Hl.out (Hy.out.below Hbw.out))
        by_cases ha : x ∈ ys
        · have e : cntIn (us.take (k + 1)) ys = z + 1 := by
            have := Hg.out
            unfold cntIn at this ⊢
            rw [take_snoc Hx.out, List.countP_append, this]
            simp [ha]
          have Ha := Lib.hid ha; have He := Lib.hid e; clear ha e
          go_wp2_with (go_at_call 27; refine KH.out.mono ?_; rintro e w2 ⟨rfl, rfl⟩; rw [show decide (x ∈ ys) = true from decide_eq_true Ha.out])
          go_roundw
          case rel => exact ⟨k + 1, z + 1, by omega, by go_num, by go_num, by omega, He.out, Hbw.out⟩
          case measure => simp [intOf]; omega
        · have e : cntIn (us.take (k + 1)) ys = z := by
            have := Hg.out
            unfold cntIn at this ⊢
            rw [take_snoc Hx.out, List.countP_append, this]
            simp [ha]
          have Ha := Lib.hid ha; have He := Lib.hid e; clear ha e
          go_wp2_with (go_at_call 27; refine KH.out.mono ?_; rintro e w2 ⟨rfl, rfl⟩; rw [show decide (x ∈ ys) = false from decide_eq_false Ha.out])
          go_roundw
          case rel => exact ⟨k + 1, z, by omega, by go_num, rfl, by omega, He.out, Hbw.out⟩
          case measure => simp [intOf]; omega
      · obtain rfl : k = n := by omega
        have hall : us.take k = us := List.take_of_length_le (by have := Hn.out; omega)
        have hw : wonQ us ys = decide ((k : Int) < 2 * (z : Int)) := by
          unfold wonQ
          have := Hg.out
          rw [hall] at this
          rw [this, decide_eq_decide]
          have := Hn.out
          exact ⟨fun h => by have := h.2; omega, fun h => ⟨Hr.out, by omega⟩⟩
        have Hw := Lib.hid hw; clear hw hall
        by_cases hgt : (k : Int) < 2 * (z : Int)
        · go_wp2
          go_ret
          exact ⟨bool_ret' (Hw.out.trans (decide_eq_true hgt)).symm, Hbw.out⟩
        · go_wp2
          go_ret
          exact ⟨bool_ret' (Hw.out.trans (decide_eq_false (by omega))).symm, Hbw.out⟩
  · have hw : wonQ us ys = false := decide_eq_false fun h => hr h.1
    have Hw := Lib.hid hw
    have Hr := Lib.hid hr
    clear hr hs hy hn hm hnm hl hw
    go_enter Try.func14, Try.ntmps14
    go_wp2_with (go_at_call 8; refine KR.out.mono ?_; rintro e w1 ⟨rfl, hb1⟩; rw [show decide (RightQ us) = false from decide_eq_false Hr.out]; have Hb1 := Lib.hid hb1; clear hb1)
    go_ret
    exact ⟨bool_ret' Hw.out.symm, Hb1.out⟩
end Go.Proofs.Ytpoooehnobfjfaa
