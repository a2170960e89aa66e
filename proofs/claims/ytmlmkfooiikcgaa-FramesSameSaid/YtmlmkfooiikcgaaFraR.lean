/-
  Contracts of dotterelref07's Great and Right.
-/
import Derived.Test.YtmlmkfooiikcgaaFraW
namespace Go.Proofs.Ytmlmkfooiikcgaa
open Go.ChangeShapes Go.WideShapes Go.ChangeAt Go.RowKit
set_option linter.unusedVariables false

set_option maxRecDepth 100000 in
/-- Great's answer is 0 or 1 (no more is asked of it: what isn't right is told as such, however great it is) -/
theorem Great_any (m : Msg) (N B L : Option Addr) (nn nc bn bc ln lc : Nat) (w : World) (h : MsgAt w m N nn nc B bn bc L ln lc) :
    Calls Try.prog 8 #[.agg #[.int .i64 m.k, .slice N nn nc, .slice B bn bc, .slice L ln lc]] w fun e w' => (e = .returned (.int .i64 1) ∨ e = .returned (.int .i64 0)) ∧ Below w.heap.size w w' := by
  have H := Lib.hid h
  have h3 := h.n1; have h4 := h.b1; have h5 := h.l1
  unfold maxLen at h3 h4 h5
  obtain ⟨ps, p1, p2⟩ := h.ls
  clear h
  obtain ⟨k, hk⟩ : ∃ k, m.k = k := ⟨_, rfl⟩
  rw [hk]
  clear hk
  obtain ⟨w1, hw1, hb1, hh1⟩ : ∃ w1, w.alloc (.cells #[.int .i64 k, .slice N nn nc, .slice B bn bc, .slice L ln lc] 26) = w1 ∧ Below w.heap.size w w1 ∧ w1.heap[w.heap.size]? = some (.cells #[.int .i64 k, .slice N nn nc, .slice B bn bc, .slice L ln lc] 26 (0, 0)) :=
    ⟨_, rfl, (Below.refl _ _).alloc (Nat.le_refl _) _, heap_alloc_new _ _⟩
  have P1 := Lib.hid (p1.below hb1); have P2 := Lib.hid (p2.below hb1)
  have c1 : w1.cell? ⟨w.heap.size, 1, none⟩ = some (.slice N nn nc) := row_cell hh1 1
  have c2 : w1.cell? ⟨w.heap.size, 2, none⟩ = some (.slice B bn bc) := row_cell hh1 2
  have c3 : w1.cell? ⟨w.heap.size, 3, none⟩ = some (.slice L ln lc) := row_cell hh1 3
  clear p1 p2
  have Hb1 := Lib.hid hb1
  clear hh1 hb1
  go_enter Try.func8, Try.ntmps8
  go_wp2
  try rw [hw1]
  clear hw1
  try go_wp2
  go_loop [3, 4] (fun s i => ∃ (k : Nat) (z : Int), i = .int .i64 k ∧ s = .int .i64 z ∧ k ≤ ln ∧ k ≤ 70) (fun _ i => 70 - (intOf i).toNat)
  case atStart => exact ⟨0, bn, rfl, rfl, by omega, by omega⟩
  case round =>
    obtain ⟨k, z, rfl, rfl, hk, hk7⟩ := hrel
    by_cases hlt : k < ln ∧ k < 70
    · obtain ⟨hl1, hl2⟩ := hlt
      obtain ⟨g, o, P, n2, cc, l, rfl, hx, hlm, hsl, hc⟩ := lists_at P1.out P2.out (j := k) (by have := H.out.l0; omega)
      clear hx hlm hsl
      go_wp2
      go_round
      case rel => exact ⟨k + 1, _, by go_num, rfl, by omega, by omega⟩
      case measure => simp [intOf]; omega
    · by_cases g1 : 3000 < z
      · by_cases hl1 : k < ln
        all_goals
          go_wp2
          go_ret
          exact ⟨.inl rfl, Hb1.out⟩
      · by_cases g2 : 20 < nn
        · by_cases hl1 : k < ln
          all_goals
            go_wp2
            go_ret
            exact ⟨.inl rfl, Hb1.out⟩
        · by_cases g3 : 70 < ln
          · have hl1 : k < ln := by omega
            go_wp2
            go_ret
            exact ⟨.inl rfl, Hb1.out⟩
          · have hl1 : ¬ k < ln := by omega
            go_wp2
            go_ret
            exact ⟨.inr rfl, Hb1.out⟩

set_option maxRecDepth 100000 in
theorem Right_any (m : Msg) (N B L : Option Addr) (nn nc bn bc ln lc : Nat) (w : World) (h : MsgAt w m N nn nc B bn bc L ln lc) :
    Calls Try.prog 11 #[.agg #[.int .i64 m.k, .slice N nn nc, .slice B bn bc, .slice L ln lc]] w fun e w' => e = .returned (.bool (rightM m)) ∧ Below w.heap.size w w' := by
  have H := Lib.hid h
  have h1 := h.k1; have h2 := h.k2; have h3 := h.n1; have h4 := h.b1; have h5 := h.l1
  unfold maxLen at h3 h4 h5
  obtain ⟨ps, p1, p2⟩ := h.ls
  obtain ⟨k, hk⟩ : ∃ k, m.k = k := ⟨_, rfl⟩
  rw [hk] at h1 h2 ⊢
  have Hk := Lib.hid hk
  clear hk
  obtain ⟨w1, hw1, hb1, hh1⟩ : ∃ w1, w.alloc (.cells #[.int .i64 k, .slice N nn nc, .slice B bn bc, .slice L ln lc] 26) = w1 ∧ Below w.heap.size w w1 ∧ w1.heap[w.heap.size]? = some (.cells #[.int .i64 k, .slice N nn nc, .slice B bn bc, .slice L ln lc] 26 (0, 0)) :=
    ⟨_, rfl, (Below.refl _ _).alloc (Nat.le_refl _) _, heap_alloc_new _ _⟩
  have P1 := Lib.hid (p1.below hb1); have P2 := Lib.hid (p2.below hb1)
  have P0 := Lib.hid (h.ns.below hb1)
  clear h
  have c0 : w1.cell? ⟨w.heap.size, 0, none⟩ = some (.int .i64 k) := row_cell hh1 0
  have c1 : w1.cell? ⟨w.heap.size, 1, none⟩ = some (.slice N nn nc) := row_cell hh1 1
  have c2 : w1.cell? ⟨w.heap.size, 2, none⟩ = some (.slice B bn bc) := row_cell hh1 2
  have c3 : w1.cell? ⟨w.heap.size, 3, none⟩ = some (.slice L ln lc) := row_cell hh1 3
  clear p1 p2
  have Hb1 := Lib.hid hb1
  clear hh1 hb1
  have nok : (k < 1 ∨ 40 < k ∨ 16 < nn ∨ 2048 < bn ∨ 64 < ln) → rightM m = false := fun h => right_no (by
    rcases h with h | h | h | h | h
    · exact .inl (by rw [Hk.out]; exact h)
    · exact .inr (.inl (by rw [Hk.out]; exact h))
    · exact .inr (.inr (.inl (numsR_long (by rw [H.out.n0]; exact h))))
    · exact .inr (.inr (.inr (.inl (by rw [H.out.b0]; exact h))))
    · exact .inr (.inr (.inr (.inr (listsR_long (by rw [H.out.l0]; exact h))))))
  have Nok := Lib.hid nok; clear nok
  go_enter Try.func11, Try.ntmps11
  by_cases q1 : k < 1
  · go_wp2
    go_ret
    rw [Nok.out (.inl q1)]
    exact ⟨rfl, Hb1.out⟩
  by_cases q2 : 40 < k
  · go_wp2
    go_ret
    rw [Nok.out (.inr (.inl q2))]
    exact ⟨rfl, Hb1.out⟩
  by_cases q3 : 16 < nn
  · go_wp2
    go_ret
    rw [Nok.out (.inr (.inr (.inl q3)))]
    exact ⟨rfl, Hb1.out⟩
  by_cases q4 : 2048 < bn
  · go_wp2
    go_ret
    rw [Nok.out (.inr (.inr (.inr (.inl q4))))]
    exact ⟨rfl, Hb1.out⟩
  by_cases q5 : 64 < ln
  · go_wp2
    go_ret
    rw [Nok.out (.inr (.inr (.inr (.inr q5))))]
    exact ⟨rfl, Hb1.out⟩
  clear Nok
  go_wp2
  clear hw1
  go_loop [3] (fun i => ∃ j : Nat, i = .int .i64 j ∧ j ≤ nn ∧ numsTo m.ns j) (fun i => nn - (intOf i).toNat)
  case atStart => exact ⟨0, rfl, by omega, numsTo.zero _⟩
  case round =>
    obtain ⟨j, rfl, hj, ht⟩ := hrel
    have Ht := Lib.hid ht; clear ht
    by_cases hlt : j < nn
    · obtain ⟨g, o, x, rfl, hx, hc⟩ := P0.out.num (j := j) (by have := H.out.n0; omega)
      have Hx := Lib.hid hx; clear hx
      by_cases h0 : x < 0
      · go_wp2
        go_ret
        rw [right_no (.inr (.inr (.inl (nums_bad Hx.out (numR1_lo h0)))))]
        exact ⟨rfl, Hb1.out⟩
      · by_cases h62 : 4611686018427387904 < x
        · go_wp2
          go_ret
          rw [right_no (.inr (.inr (.inl (nums_bad Hx.out (numR1_hi h62)))))]
          exact ⟨rfl, Hb1.out⟩
        · go_wp2
          go_round
          case rel => exact ⟨j + 1, by go_num, by omega, Ht.out.step Hx.out (numR1_ok h0 h62)⟩
          case measure => simp [intOf]; omega
    · obtain rfl : j = nn := by omega
      have hnr : numsR m.ns = true := by have h := Ht.out; rw [← H.out.n0] at h; exact h.all (by have := H.out.n0; omega)
      have Hnr := Lib.hid hnr; clear hnr
      go_wp2
      go_loop [4, 5] (fun s i => ∃ k q : Nat, i = .int .i64 k ∧ s = .int .i64 q ∧ k ≤ ln ∧ q ≤ 2048 * k ∧ q = sumL (m.ls.take k) ∧ listsTo m.ls k) (fun _ i => ln - (intOf i).toNat)
      case atStart => exact ⟨0, 0, rfl, rfl, by omega, by omega, rfl, listsTo.zero _⟩
      case round =>
        obtain ⟨i, q, rfl, rfl, hi, hqb, hq, ht⟩ := hrel
        have Ht2 := Lib.hid ht; clear ht
        have Hq := Lib.hid hq; clear hq
        by_cases hlt2 : i < ln
        · obtain ⟨g, o, P, n2, cc, l, rfl, hx, hlm, hsl, hc⟩ := lists_at P1.out P2.out (j := i) (by have := H.out.l0; omega)
          have Hx := Lib.hid hx; clear hx
          have Hlm := Lib.hid hlm; clear hlm hsl
          by_cases hbig : 2048 < n2
          · go_wp2
            go_ret
            rw [right_no (.inr (.inr (.inr (.inr (lists_bad Hx.out (by rw [Hlm.out]; exact hbig))))))]
            exact ⟨rfl, Hb1.out⟩
          · go_wp2
            go_round
            case rel => exact ⟨i + 1, q + n2, by go_num, by go_num, by omega, by omega, by rw [sumL_take Hx.out, Hq.out, Hlm.out], Ht2.out.step Hx.out (by rw [Hlm.out]; omega)⟩
            case measure => simp [intOf]; omega
        · obtain rfl : i = ln := by omega
          have hlr : listsR m.ls = decide ((q : Int) ≤ 65536) := by
            have h := Ht2.out
            rw [← H.out.l0] at h
            rw [h.all (by have := H.out.l0; omega), Hq.out, ← H.out.l0, List.take_length]
            exact decide_eq_decide.2 (by omega)
          have hr : rightM m = decide ((q : Int) ≤ 65536) := by
            rw [← hlr]
            cases hb : listsR m.ls
            · exact right_no (.inr (.inr (.inr (.inr hb))))
            · exact right_yes (by have := Hk.out; omega) (by have := Hk.out; omega) Hnr.out (by rw [H.out.b0]; omega) hb
          have Hr := Lib.hid hr; clear hr hlr
          go_wp2
          go_ret
          exact ⟨bool_ret Hr.out.symm, Hb1.out⟩
end Go.Proofs.Ytmlmkfooiikcgaa
