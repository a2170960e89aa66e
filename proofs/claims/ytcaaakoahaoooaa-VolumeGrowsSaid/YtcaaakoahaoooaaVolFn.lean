/-
  Contracts of volume's small functions: within, count, areBlocks, isCapacity, isServer, volume. Conditions: what each names.
-/
import Derived.Test.YtcaaakoahaoooaaVolMem
import Derived.Test.YtcaaakoahaoooaaPolAd
namespace Go.Proofs.Ytcaaakoahaoooaa
open Go.ChangeShapes Go.WideShapes Go.ChangeAt Go.RowKit
set_option linter.unusedVariables false

theorem Vwithin (n a b : Int) (w : World) :
    Calls Try.prog 44 #[.int .i64 n, .int .i64 a, .int .i64 b] w fun e w' => e = .returned (.bool (decide (a ≤ n ∧ n ≤ b))) ∧ w = w' := by
  by_cases h1 : a ≤ n
  · by_cases h2 : n ≤ b
    · go_enter Try.func44, Try.ntmps44
      go_wp2
      go_ret
      exact ⟨bool_eq (by simp <;> omega), rfl⟩
    · go_enter Try.func44, Try.ntmps44
      go_wp2
      go_ret
      exact ⟨bool_eq (by simp <;> omega), rfl⟩
  · go_enter Try.func44, Try.ntmps44
    go_wp2
    go_ret
    exact ⟨bool_eq (by simp <;> omega), rfl⟩
theorem Vcount (b : Int) (w : World) (h0 : 0 ≤ b) (h1 : b ≤ 512) : Calls Try.prog 70 #[.int .i64 b] w fun e w' => e = .returned (.int .i64 (countF b)) ∧ w = w' := by
  go_enter Try.func70, Try.ntmps70
  go_wp2
  go_ret
  exact ⟨int_eq (by unfold countF; omega), rfl⟩
theorem VareBlocks (b : Int) (w : World) : Calls Try.prog 67 #[.int .i64 b] w fun e w' => e = .returned (.bool (areB b)) ∧ w = w' := by
  have C := Lib.hid (fun w => Vwithin b 1 512 w)
  unfold areB
  go_enter Try.func67, Try.ntmps67
  go_wp2_with (go_at_call 44; refine (C.out _).mono ?_; rintro e w' ⟨rfl, rfl⟩)
  go_ret
  exact ⟨bool_eq (by simp), rfl⟩
theorem cap_eq (b : Int) : admitsP b [] = decide (1 ≤ b ∧ b ≤ 64) := by
  have h1 : allP [] = true := rfl
  have h2 : loadP [] = 0 := rfl
  unfold admitsP
  rw [h1, h2]
  by_cases h : 1 ≤ b ∧ b ≤ 64
  · rw [decide_eq_true h, decide_eq_true (show (0 : Int) ≤ b * 16777216 by omega)]
    rfl
  · rw [decide_eq_false h]
    rfl
theorem VisCapacity (b : Int) (w : World) (h : In64 b) : Calls Try.prog 66 #[.int .i64 b] w fun e w' => e = .returned (.bool (decide (1 ≤ b ∧ b ≤ 64))) ∧ Below w.heap.size w w' := by
  have C := Lib.hid (fun w => Admits_any b none 0 0 [] w rfl (Nat.zero_le _) (PolsAt.nil w none) h)
  rw [cap_eq] at C
  go_enter Try.func66, Try.ntmps66
  go_wp2_with (go_at_call 13; refine (C.out _).mono ?_; rintro e w' ⟨rfl, hb⟩; have Hb := Lib.hid hb; clear hb)
  go_ret
  exact ⟨bool_eq (by simp), Hb.out⟩

/-! ### a server, a volume -/
theorem VisServer (g : Nat) (s : St) (a : Int) (w : World) (h : StAt w g s) : Calls Try.prog 75 #[.pointer (some ⟨g, 0, none⟩), .int .i64 a] w fun e w' => e = .returned (.bool (isSrv s a)) ∧ w = w' := by
  obtain ⟨cs, K, X, h⟩ := h
  have C := Lib.hid (fun w => Vwithin a 0 15 w)
  unfold isSrv
  by_cases ha : 0 ≤ a ∧ a ≤ 15
  · rw [decide_eq_true ha] at C ⊢
    obtain ⟨n, rfl⟩ := Int.eq_ofNat_of_zero_le ha.1
    have hn : n < 16 := by omega
    have c0 : w.cell? ⟨g, n, none⟩ = some (.int .i64 (s.pk n)) := by rw [h.cell]; exact h.pk n hn
    have hn0 : (0 : Int) ≤ (n : Int) := by omega
    have hn1 : (n : Int) < 16 := by omega
    have et : ((n : Int).toNat) = n := by omega
    rw [et]
    obtain ⟨x, hx⟩ : ∃ x, s.pk n = x := ⟨_, rfl⟩
    rw [hx] at c0 ⊢
    clear ha hx et h
    by_cases hp : 0 < x
    · have hd : decide (0 < x) = true := decide_eq_true hp
      rw [hd]
      go_enter Try.func75, Try.ntmps75
      go_wp2_with (go_at_call 44; refine (C.out _).mono ?_; rintro e w' ⟨rfl, rfl⟩)
      go_ret
      exact ⟨rfl, rfl⟩
    · have hd : decide (0 < x) = false := decide_eq_false hp
      rw [hd]
      go_enter Try.func75, Try.ntmps75
      go_wp2_with (go_at_call 44; refine (C.out _).mono ?_; rintro e w' ⟨rfl, rfl⟩)
      go_ret
      exact ⟨rfl, rfl⟩
  · rw [decide_eq_false ha] at C ⊢
    clear ha h
    go_enter Try.func75, Try.ntmps75
    go_wp2_with (go_at_call 44; refine (C.out _).mono ?_; rintro e w' ⟨rfl, rfl⟩)
    go_ret
    exact ⟨rfl, rfl⟩
theorem Vvolume_yes (g : Nat) (s : St) (a : Nat) (w : World) (h : StAt w g s) (hv : isVol s a = true) :
    Calls Try.prog 24 #[.pointer (some ⟨g, 0, none⟩), .int .i64 (a : Int)] w fun e w' => e = .returned (.tuple #[.pointer (some ⟨g, 16 + a * 7, none⟩), .bool true]) ∧ w = w' := by
  obtain ⟨cs, K, X, h⟩ := h
  have C := Lib.hid (fun w => Vwithin a 0 63 w)
  simp only [isVol, Bool.and_eq_true, decide_eq_true_eq, Int.toNat_natCast] at hv
  obtain ⟨ha, hb⟩ := hv
  rw [decide_eq_true ha] at C
  have hn : a < 64 := by omega
  have c0 : w.cell? ⟨g, 16 + a * 7, none⟩ = some (.int .i64 (s.vs a).bl) := by rw [h.cell]; exact h.c0 a hn
  have hn0 : (0 : Int) ≤ (a : Int) := by omega
  have hn1 : (a : Int) < 64 := by omega
  obtain ⟨x, hx⟩ : ∃ x, (s.vs a).bl = x := ⟨_, rfl⟩
  rw [hx] at c0 hb
  have hd : (x == 0) = false := by simpa using hb
  clear ha hx h hb
  go_enter Try.func24, Try.ntmps24
  go_wp2_with (go_at_call 44; refine (C.out _).mono ?_; rintro e w' ⟨rfl, rfl⟩)
  go_ret2
  exact ⟨rfl, rfl⟩
theorem Vvolume_no (g : Nat) (s : St) (a : Int) (w : World) (h : StAt w g s) (hv : isVol s a = false) :
    Calls Try.prog 24 #[.pointer (some ⟨g, 0, none⟩), .int .i64 a] w fun e w' => e = .returned (.tuple #[.pointer none, .bool false]) ∧ w = w' := by
  obtain ⟨cs, K, X, h⟩ := h
  have C := Lib.hid (fun w => Vwithin a 0 63 w)
  unfold isVol at hv
  by_cases ha : 0 ≤ a ∧ a ≤ 63
  · rw [decide_eq_true ha] at C
    obtain ⟨n, rfl⟩ := Int.eq_ofNat_of_zero_le ha.1
    have hn : n < 64 := by omega
    have c0 : w.cell? ⟨g, 16 + n * 7, none⟩ = some (.int .i64 (s.vs n).bl) := by rw [h.cell]; exact h.c0 n hn
    have hn0 : (0 : Int) ≤ (n : Int) := by omega
    have hn1 : (n : Int) < 64 := by omega
    simp only [decide_eq_true ha, Bool.true_and, decide_eq_false_iff_not, Int.toNat_natCast, ne_eq, Decidable.not_not] at hv
    rw [hv] at c0
    clear ha h hv
    go_enter Try.func24, Try.ntmps24
    go_wp2_with (go_at_call 44; refine (C.out _).mono ?_; rintro e w' ⟨rfl, rfl⟩)
    go_ret2
    exact ⟨rfl, rfl⟩
  · rw [decide_eq_false ha] at C
    clear ha h hv
    go_enter Try.func24, Try.ntmps24
    go_wp2_with (go_at_call 44; refine (C.out _).mono ?_; rintro e w' ⟨rfl, rfl⟩)
    go_ret2
    exact ⟨rfl, rfl⟩
end Go.Proofs.Ytcaaakoahaoooaa
