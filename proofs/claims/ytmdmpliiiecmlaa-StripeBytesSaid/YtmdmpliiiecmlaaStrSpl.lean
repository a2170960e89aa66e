/-
  Contracts of stripe's Split: a range that is refused; the pieces of one that isn't, in a row of their own. Conditions: what each names.
-/
import Derived.Test.YtmdmpliiiecmlaaStrFn
namespace Go.Proofs.Ytmdmpliiiecmlaa
open Go.ChangeShapes Go.WideShapes Go.ChangeAt Go.RowKit
set_option linter.unusedVariables false

theorem pc_info : (Try.prog.info? 33).map (fun i => (i.zero, i.size, i.bytes)) = some (some (.agg #[.int .i64 0, .int .i64 0, .int .i64 0, .int .i64 0]), 4, 32) := by kernel_rfl
def PcsRet (x : List Pc) (w : World) (en : Ending) (w' : World) : Prop :=
  ∃ A c, en = .returned (.tuple #[.slice A x.length c, .int .i64 0]) ∧ w'.ownsRow w.heap.size 33 4 (.slice A x.length c) x.length (pcsV x) ∧ Below w.heap.size w w'
theorem SSplit_no (b f m : Int) (w : World) (h0 : inI b) (h1 : inI f) (h2 : inI m) (h : within b f m = false) :
    Calls Try.prog 7 #[.int .i64 b, .int .i64 f, .int .i64 m] w fun e w' => e = .returned (.tuple #[.slice none 0 0, .int .i64 5]) ∧ w = w' := by
  have K := Lib.hid (SWithin b f m w h0 h1 h2)
  rw [h] at K
  clear h h0 h1 h2
  go_enter Try.func7, Try.ntmps7
  go_wp2
  go_step3
  go_wp2_with (go_at_call 15; refine K.out.mono ?_; rintro e w' ⟨rfl, rfl⟩)
  rw [Exit.noGoto_ret]
  go_ret2
  exact ⟨rfl, rfl⟩
theorem pcV_one (p : Pc) : ∀ u ∈ pcV p, u.oneCell' = true := by
  intro u hu
  simp [pcV] at hu
  rcases hu with rfl | rfl | rfl | rfl <;> rfl
theorem new_pc (w : World) (p : Pc) : ∃ W, w.alloc (.cells #[.int .i64 p.ch, .int .i64 p.pa, .int .i64 p.ma, .int .i64 p.pf] 33) = W ∧ Below w.heap.size w W ∧ Seen W (some ⟨w.heap.size, 0, none⟩) (pcV p) :=
  ⟨_, rfl, (Below.refl _ _).alloc (Nat.le_refl _) _, Seen.of_cells (heap_alloc_new w _)⟩
theorem spl_rel {w wr w4 : World} {A' A4 : Option Addr} {c' c4 f e k : Nat} {p : Pc} {o : Obj} (ho : wr.ownsRow w.heap.size 33 4 (.slice A' (k - f / 8) c') (k - f / 8) (pcsV (pcsTo f e k))) (hb : Below w.heap.size w wr) (hk : f / 8 ≤ k)
    (h4 : w4.ownsRow w.heap.size 33 4 (.slice A4 (k - f / 8 + 1) c4) (k - f / 8 + 1) (pcsV (pcsTo f e k) ++ pcV p)) (hg : (wr.alloc o).grownBy w4 (Value.slice A' (k - f / 8) c').ownBlock) (hp : pcAt f e k = p) :
    w4.ownsRow w.heap.size 33 4 (.slice A4 (k + 1 - f / 8) c4) (k + 1 - f / 8) (pcsV (pcsTo f e (k + 1))) ∧ Below w.heap.size w w4 := by
  have h1 : Below wr.heap.size wr (wr.alloc o) := (Below.refl _ _).alloc (Nat.le_refl _) _
  have hb2 := hb.trans (h1.mono hb.size)
  have tg : Turned (fun k' => (Value.slice A' (k - f / 8) c').ownBlock = some k') (wr.alloc o) w4 := Turned.of_grown hg fun k e => e
  refine ⟨?_, hb2.trans (tg.below (fun k' e => (ho.lt k' e).1) hb2.size)⟩
  rw [show k + 1 - f / 8 = k - f / 8 + 1 by omega, pcsTo_more hk, pcsV_append, hp, show pcsV [p] = pcV p by simp [pcsV]]
  exact h4
set_option maxRecDepth 100000 in
set_option maxHeartbeats 2000000 in
theorem SSplit_yes (b : Int) (f m : Nat) (w : World) (hb : b ≤ 512) (hm : 1 ≤ m) (heb : (f : Int) + (m : Int) ≤ b) :
    Calls Try.prog 7 #[.int .i64 b, .int .i64 (f : Int), .int .i64 (m : Int)] w (PcsRet (pcsF f (f + m)) w) := by
  have hw : within b (f : Int) (m : Int) = true := decide_eq_true (by omega)
  have K := Lib.hid (SWithin b f m w (by unfold inI; omega) (by unfold inI; omega) (by unfold inI; omega))
  rw [hw] at K
  have f0 : (0 : Int) ≤ (f : Int) := by omega
  have m0 : (1 : Int) ≤ (m : Int) := by omega
  have m1 : (f : Int) + (m : Int) ≤ 512 := by omega
  have hx : pcsF f (f + m) = pcsTo f (f + m) ((f + m - 1) / 8 + 1) := if_pos (by omega)
  rw [hx]
  clear hx hw hb heb
  go_enter Try.func7, Try.ntmps7
  go_wp2
  go_step3
  go_wp2_with (go_at_call 15; refine K.out.mono ?_; rintro e w' ⟨rfl, rfl⟩)
  go_step3
  go_wp2
  go_loopw [8, 10] (fun sv iv wr => ∃ (k : Nat) (A' : Option Addr) (c' : Nat), k ≤ (f + m - 1) / 8 + 1 ∧ iv = .int .i64 (k : Int) ∧ sv = .slice A' (k - f / 8) c' ∧ wr.ownsRow w.heap.size 33 4 (.slice A' (k - f / 8) c') (k - f / 8) (pcsV (pcsTo f (f + m) k)) ∧ Below w.heap.size w wr) (fun _ iv _ => 65 - (intOf iv).toNat)
  case atStart => exact ⟨0, none, 0, Nat.zero_le _, rfl, by rw [Nat.zero_sub], by rw [Nat.zero_sub, pcsTo_none (Nat.zero_le _)]; exact World.ownsRow_nil _ _ _ _, Below.refl _ _⟩
  case round =>
    obtain ⟨k, A', c', hk, rfl, rfl, ho, hb⟩ := hrel
    have k0 : (0 : Int) ≤ (k : Int) := by omega
    have k1 : (k : Int) ≤ 64 := by omega
    have Ho := Lib.hid ho; have Hb := Lib.hid hb; have Hk := Lib.hid hk
    clear ho hb hk
    by_cases h1 : (k : Int) * 8 + 8 ≤ (f : Int)
    · have e0 : k - f / 8 = 0 := by omega
      go_wp2
      go_roundw
      case rel =>
        refine ⟨k + 1, A', c', by omega, by go_num, by rw [show k + 1 - f / 8 = k - f / 8 by omega], ?_, Hb.out⟩
        rw [show k + 1 - f / 8 = k - f / 8 by omega, pcsTo_none (show k + 1 ≤ f / 8 by omega), ← pcsTo_none (f := f) (e := f + m) (show k ≤ f / 8 by omega)]
        exact Ho.out
      case measure => simp [intOf]; omega
    · by_cases h2 : (f : Int) + (m : Int) ≤ (k : Int) * 8
      · have ek : k = (f + m - 1) / 8 + 1 := by have := Hk.out; omega
        have ek2 : pcsTo f (f + m) k = pcsTo f (f + m) ((f + m - 1) / 8 + 1) := by rw [← ek]
        have Ek := Lib.hid ek; have Ek2 := Lib.hid ek2
        clear ek ek2
        go_wp2
        go_ret2
        have hl : (pcsTo f (f + m) ((f + m - 1) / 8 + 1)).length = k - f / 8 := by rw [pcsTo_length, Ek.out]
        exact ⟨A', c', by rw [hl]; rfl, by rw [hl, ← Ek2.out]; exact Ho.out, Hb.out⟩
      · have hk2 : k + 1 ≤ (f + m - 1) / 8 + 1 := by omega
        by_cases h3 : (k : Int) * 8 < (f : Int)
        · by_cases h4 : (f : Int) + (m : Int) < (k : Int) * 8 + 8
          · go_wp2_with (at_builtin; go_loud (refine wpList_app3 rfl (.tmp 39) (.tmp 53) _ rfl 33 _ 4 32 Try.underlying22 pc_info rfl (by omega) w.heap.size A' (k - f / 8) c' (pcsV (pcsTo f (f + m) k)) rfl (own_belowM Ho.out ((Below.refl _ _).alloc (Nat.le_refl _) _)) wr.heap.size 0 1 1 (pcV ⟨(k : Int), (f : Int) - (k : Int) * 8, (f : Int) + (m : Int) - (f : Int), 0⟩) rfl rfl (Seen.of_cells (heap_alloc_new wr _)) (pcV_one _) (by unfold maxLen; omega) (by omega) (Nat.le_trans Hb.out.size (by simp)) ?_; intro A4 c4 w4 hown4 hg4 hbk4; have R := Lib.hid (spl_rel Ho.out Hb.out (by omega) hown4 hg4 (by unfold pcAt; congr 1 <;> omega)); clear hown4 hg4 hbk4))
            go_roundw
            case rel => exact ⟨k + 1, A4, c4, by omega, by go_num, by rw [show k + 1 - f / 8 = k - f / 8 + 1 by omega], R.out.1, R.out.2⟩
            case measure => simp [intOf]; omega
          · go_wp2_with (at_builtin; go_loud (refine wpList_app3 rfl (.tmp 39) (.tmp 53) _ rfl 33 _ 4 32 Try.underlying22 pc_info rfl (by omega) w.heap.size A' (k - f / 8) c' (pcsV (pcsTo f (f + m) k)) rfl (own_belowM Ho.out ((Below.refl _ _).alloc (Nat.le_refl _) _)) wr.heap.size 0 1 1 (pcV ⟨(k : Int), (f : Int) - (k : Int) * 8, (k : Int) * 8 + 8 - (f : Int), 0⟩) rfl rfl (Seen.of_cells (heap_alloc_new wr _)) (pcV_one _) (by unfold maxLen; omega) (by omega) (Nat.le_trans Hb.out.size (by simp)) ?_; intro A4 c4 w4 hown4 hg4 hbk4; have R := Lib.hid (spl_rel Ho.out Hb.out (by omega) hown4 hg4 (by unfold pcAt; congr 1 <;> omega)); clear hown4 hg4 hbk4))
            go_roundw
            case rel => exact ⟨k + 1, A4, c4, by omega, by go_num, by rw [show k + 1 - f / 8 = k - f / 8 + 1 by omega], R.out.1, R.out.2⟩
            case measure => simp [intOf]; omega
        · by_cases h4 : (f : Int) + (m : Int) < (k : Int) * 8 + 8
          · go_wp2_with (at_builtin; go_loud (refine wpList_app3 rfl (.tmp 39) (.tmp 53) _ rfl 33 _ 4 32 Try.underlying22 pc_info rfl (by omega) w.heap.size A' (k - f / 8) c' (pcsV (pcsTo f (f + m) k)) rfl (own_belowM Ho.out ((Below.refl _ _).alloc (Nat.le_refl _) _)) wr.heap.size 0 1 1 (pcV ⟨(k : Int), 0, (f : Int) + (m : Int) - (k : Int) * 8, (k : Int) * 8 - (f : Int)⟩) rfl rfl (Seen.of_cells (heap_alloc_new wr _)) (pcV_one _) (by unfold maxLen; omega) (by omega) (Nat.le_trans Hb.out.size (by simp)) ?_; intro A4 c4 w4 hown4 hg4 hbk4; have R := Lib.hid (spl_rel Ho.out Hb.out (by omega) hown4 hg4 (by unfold pcAt; congr 1 <;> omega)); clear hown4 hg4 hbk4))
            go_roundw
            case rel => exact ⟨k + 1, A4, c4, by omega, by go_num, by rw [show k + 1 - f / 8 = k - f / 8 + 1 by omega], R.out.1, R.out.2⟩
            case measure => simp [intOf]; omega
          · go_wp2_with (at_builtin; go_loud (refine wpList_app3 rfl (.tmp 39) (.tmp 53) _ rfl 33 _ 4 32 Try.underlying22 pc_info rfl (by omega) w.heap.size A' (k - f / 8) c' (pcsV (pcsTo f (f + m) k)) rfl (own_belowM Ho.out ((Below.refl _ _).alloc (Nat.le_refl _) _)) wr.heap.size 0 1 1 (pcV ⟨(k : Int), 0, (k : Int) * 8 + 8 - (k : Int) * 8, (k : Int) * 8 - (f : Int)⟩) rfl rfl (Seen.of_cells (heap_alloc_new wr _)) (pcV_one _) (by unfold maxLen; omega) (by omega) (Nat.le_trans Hb.out.size (by simp)) ?_; intro A4 c4 w4 hown4 hg4 hbk4; have R := Lib.hid (spl_rel Ho.out Hb.out (by omega) hown4 hg4 (by unfold pcAt; congr 1 <;> omega)); clear hown4 hg4 hbk4))
            go_roundw
            case rel => exact ⟨k + 1, A4, c4, by omega, by go_num, by rw [show k + 1 - f / 8 = k - f / 8 + 1 by omega], R.out.1, R.out.2⟩
            case measure => simp [intOf]; omega
end Go.Proofs.Ytmdmpliiiecmlaa
