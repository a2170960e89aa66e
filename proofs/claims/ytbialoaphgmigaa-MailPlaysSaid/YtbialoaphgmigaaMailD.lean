/-
  Contract of mail's Drain. Conditions: what each names.
-/
import Derived.Test.YtbialoaphgmigaaMailN
import Derived.WalkMore
namespace Go.Proofs.Ytbialoaphgmigaa
open Go.ChangeShapes Go.WideShapes Go.ChangeAt Go.RowKit Go.Conc
set_option linter.unusedVariables false

theorem chans_size : (Try.prog.info? 47).map (·.size) = some 3 := by kernel_rfl
theorem tail_extract (v : Value) (r : List Value) : (v :: r).toArray.extract 1 (v :: r).toArray.size = r.toArray := by simp
/-- how many there are in the first k classes -/
def lensTo (q : Nat → List Value) : Nat → Nat
  | 0 => 0
  | k + 1 => lensTo q k + (q k).length
theorem chan_ix (c : Nat → Nat) {k : Nat} (hk : k < 3) (W : World) : (Instr.index 47 (.agg #[.chan (some (c 0)), .chan (some (c 1)), .chan (some (c 2))]) (.int .i64 (k : Int))).run Try.prog W = .ok (.chan (some (c k))) W := by
  match k, hk with
  | 0, _ => simp [Instr.index, run_underlying Try.underlying47, asIntOf, part, Try.sizeOf46, Try.isAgg46, go_sem]
  | 1, _ => simp [Instr.index, run_underlying Try.underlying47, asIntOf, part, Try.sizeOf46, Try.isAgg46, go_sem]
  | 2, _ => simp [Instr.index, run_underlying Try.underlying47, asIntOf, part, Try.sizeOf46, Try.isAgg46, go_sem]
theorem lensTo_mono (q : Nat → List Value) : ∀ {j k : Nat}, j ≤ k → lensTo q j ≤ lensTo q k := by
  intro j k h
  induction k with
  | zero => rw [Nat.le_zero.1 h]; exact Nat.le_refl _
  | succ k ih =>
    by_cases e : j = k + 1
    · subst e; exact Nat.le_refl _
    · exact Nat.le_trans (ih (by omega)) (Nat.le_add_right _ _)
/-- the first k classes are empty, of the next one i letters are gone -/
def partly (q : Nat → List Value) (k i : Nat) (j : Nat) : List Value := if j < k then [] else if j = k then (q k).drop i else q j
def emptied (q : Nat → List Value) (k : Nat) (j : Nat) : List Value := if j < k then [] else q j

set_option maxRecDepth 100000 in
theorem Drain_any (g room : Nat) (c : Nat → Nat) (q : Nat → List Value) (w : World) (h : IsB w g c room q) (hl : lensTo q 3 ≤ 100000) :
    Calls Try.prog 14 #[.pointer (some ⟨g, 0, none⟩)] w fun e w' => e = .returned (.int .i64 (lensTo q 3 : Int)) ∧ IsB w' g c room (fun _ => []) ∧ Turned (Chans c) w w' := by
  obtain ⟨i, hi, hz⟩ := letter_info
  have Hi := Lib.hid (And.intro hi hz)
  have H := Lib.hid h
  have Hl := Lib.hid hl
  clear h hi hz hl
  go_enter Try.func14, Try.ntmps14
  go_wp2
  go_step3
  go_wp2
  go_step3
  go_wp2_with (refine wpList_load_row rfl 47 (.tmp 8) rfl g rfl 49 #[.chan (some (c 0)), .chan (some (c 1)), .chan (some (c 2))] (0, 0) _ H.out.row Try.underlying47 rfl chans_size ?_)
  go_loopw [3, 10] (fun gv iv wr => ∃ k : Nat, k ≤ 3 ∧ iv = .int .i64 (k : Int) ∧ gv = .int .i64 (lensTo q k : Int) ∧ IsB wr g c room (emptied q k) ∧ Turned (Chans c) w wr) (fun _ iv _ => 3 - (intOf iv).toNat)
  case atStart => exact ⟨0, by omega, rfl, rfl, H.out, Turned.refl _ _⟩
  case round =>
    obtain ⟨k, hk, rfl, rfl, hb, ht⟩ := hrel
    have Hb := Lib.hid hb; have Ht := Lib.hid ht
    clear hb ht
    by_cases hlt : k < 3
    · have k0 : (0 : Int) ≤ (k : Int) := by omega
      have k1 : (k : Int) < 3 := by omega
      have hix := chan_ix c hlt
      have Hle := Lib.hid (show lensTo q k + (q k).length ≤ 100000 from Nat.le_trans (lensTo_mono q (show k + 1 ≤ 3 by omega)) Hl.out)
      go_wp2
      go_loopw [3] (fun gv wr => ∃ i : Nat, i ≤ (q k).length ∧ gv = .int .i64 ((lensTo q k + i : Nat) : Int) ∧ IsB wr g c room (partly q k i) ∧ Turned (Chans c) w wr) (fun gv _ => (q k).length + lensTo q k - (intOf gv).toNat)
      case atStart => exact ⟨0, by omega, rfl, Hb.out.same (fun j hj => by unfold partly emptied; by_cases h1 : j < k; (rw [if_pos h1, if_pos h1]); (rw [if_neg h1, if_neg h1]; by_cases h2 : j = k; (rw [if_pos h2, h2]; rfl); (rw [if_neg h2]))), Ht.out⟩
      case round =>
        obtain ⟨i, hil, rfl, hb, ht⟩ := hrel
        obtain ⟨s, r, hch⟩ := hb.ch k hlt
        have Hb2 := Lib.hid hb; have Ht2 := Lib.hid ht
        clear hb ht
        have hN := Hle.out
        by_cases hi : i < (q k).length
        · obtain ⟨v, hv⟩ : ∃ v, (q k).drop i = v :: (q k).drop (i + 1) := ⟨_, List.drop_eq_getElem_cons hi⟩
          have hpk : partly q k i k = v :: (q k).drop (i + 1) := by unfold partly; rw [if_neg (Nat.lt_irrefl k), if_pos rfl]; exact hv
          rw [hpk] at hch
          have Hpk := Lib.hid hpk
          clear hv hpk
          obtain ⟨N, hNe⟩ : ∃ N, lensTo q k + i = N := ⟨_, rfl⟩
          have hN2 : N ≤ 100000 := by omega
          have HNe := Lib.hid hNe
          rw [hNe]
          clear hN hNe
          go_upto_region 6 with fail
          refine wp_sel_recv (c := c k) (v := v) rfl rfl rfl Hi.out.1 Hi.out.2 hch rfl ?_
          have hset := Hb2.out.set hlt ((q k).drop (i + 1)) s (r + 1)
          have ht : Turned (fun j => j = c k) wr (wr.setChan (c k) room ((v :: (q k).drop (i + 1)).toArray.extract 1 (v :: (q k).drop (i + 1)).toArray.size) false s (r + 1) false) := Turned.setChan (p := fun j => j = c k) (Turned.refl _ _) (fun _ => rfl) _ _ _ _ _ _
          rw [← tail_extract v ((q k).drop (i + 1))] at hset
          generalize wr.setChan (c k) room ((v :: (q k).drop (i + 1)).toArray.extract 1 (v :: (q k).drop (i + 1)).toArray.size) false s (r + 1) false = w4 at hset ht ⊢
          have Hset := Lib.hid hset; have Ht4 := Lib.hid ht
          clear hch hset ht
          go_wp2
          go_roundw
          case rel =>
            refine ⟨i + 1, by omega, by have := HNe.out; go_num, Hset.out.same (fun j hj => ?_), Ht2.out.trans (Ht4.out.mono (fun j _ e => ⟨k, hlt, e⟩)) (fun _ e => e) (fun _ _ e => e)⟩
            unfold partly
            by_cases h1 : j < k
            · rw [if_pos h1, if_neg (by omega), if_pos h1]
            · by_cases h2 : j = k
              · rw [if_neg h1, if_pos h2, if_pos h2]
              · rw [if_neg h1, if_neg h2, if_neg h2, if_neg h1, if_neg h2]
          case measure => have := HNe.out; simp [intOf]; omega
        · obtain rfl : i = (q k).length := by omega
          have hpk : partly q k (q k).length k = [] := by unfold partly; rw [if_neg (Nat.lt_irrefl k), if_pos rfl]; exact List.drop_length
          rw [hpk] at hch
          clear hpk
          obtain ⟨N, hNe⟩ : ∃ N, lensTo q k + (q k).length = N := ⟨_, rfl⟩
          have hN2 : N ≤ 100000 := by omega
          have HNe := Lib.hid hNe
          rw [hNe]
          clear hN hNe hil hi
          go_upto_region 6 with fail
          refine wp_sel_recv_none (c := c k) rfl rfl rfl Hi.out.1 Hi.out.2 hch ?_
          clear hch
          go_wp2
          go_roundw
          case rel =>
            refine ⟨k + 1, by omega, by go_num, by rw [← HNe.out]; rfl, Hb2.out.same (fun j hj => ?_), Ht2.out⟩
            unfold emptied partly
            by_cases h1 : j < k
            · rw [if_pos h1, if_pos (by omega)]
            · by_cases h2 : j = k
              · rw [if_neg h1, if_pos h2, if_pos (by omega), List.drop_length]
              · rw [if_neg h1, if_neg h2, if_neg (by omega)]
          case measure => simp [intOf]; omega
    · have k1 : ¬ (k : Int) < 3 := by omega
      obtain rfl : k = 3 := by omega
      go_wp2
      go_ret
      exact ⟨rfl, Hb.out.same (fun j hj => by unfold emptied; rw [if_pos hj]), Ht.out⟩
end Go.Proofs.Ytbialoaphgmigaa
