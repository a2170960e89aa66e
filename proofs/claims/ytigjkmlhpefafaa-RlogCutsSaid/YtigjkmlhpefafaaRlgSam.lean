/-
  Contract of dotterelref14's Same, of entries that say the same. Conditions: entries that can be read.
-/
import Derived.Test.YtigjkmlhpefafaaRlgTrm
import Derived.Test.YtigjkmlhpefafaaQuietB
namespace Go.Proofs.Ytigjkmlhpefafaa
open Go.ChangeShapes Go.WideShapes Go.ChangeAt Go.RowKit
set_option linter.unusedVariables false

set_option maxRecDepth 100000 in
set_option maxHeartbeats 2000000 in
theorem SameE_yes (A C : Option Addr) (n c d : Nat) (X Y : List Ent) (w : World) (hn : X.length = n) (ha : EntsAt w A X) (hb : EntsAt w C Y) (hxy : X.map Ent.dat = Y.map Ent.dat) (hl : n ≤ 1000000) :
    Calls Try.prog 11 #[.slice A n c, .slice C n d] w fun e w' => e = .returned (.bool true) ∧ Below w.heap.size w w' := by
  have hm : Y.length = n := by
    have := congrArg List.length hxy
    simpa [hn] using this.symm
  have Ha := Lib.hid ha; have Hb := Lib.hid hb; have Hn := Lib.hid hn; have Hm := Lib.hid hm; have Hxy := Lib.hid hxy
  clear ha hb hn hm hxy
  go_enter Try.func11, Try.ntmps11
  go_wp2
  go_loopw [5] (fun i wr => ∃ k : Nat, k ≤ n ∧ i = .int .i64 (k : Int) ∧ Below w.heap.size w wr) (fun i _ => n - (intOf i).toNat)
  case atStart => exact ⟨0, by omega, rfl, Below.refl _ _⟩
  case round =>
    obtain ⟨k, hk, rfl, hbw⟩ := hrel
    have Hbw := Lib.hid hbw
    clear hbw
    have k0 : (0 : Int) ≤ (k : Int) := by omega
    by_cases hlt : k < n
    · obtain ⟨x, hX⟩ : ∃ x, X[k]? = some x := ⟨_, List.getElem?_eq_getElem (by have := Hn.out; omega)⟩
      obtain ⟨y, hY⟩ : ∃ y, Y[k]? = some y := ⟨_, List.getElem?_eq_getElem (by have := Hm.out; omega)⟩
      have hd : x.dat = y.dat := by
        have h1 : (X.map Ent.dat)[k]? = some x.dat := by rw [List.getElem?_map, hX]; rfl
        rw [Hxy.out, List.getElem?_map, hY] at h1
        injection h1 with h1
        exact h1.symm
      have hxo := (Ha.out.ok x (List.mem_of_getElem? hX)).below Hbw.out
      have hyo := (Hb.out.ok y (List.mem_of_getElem? hY)).below Hbw.out
      obtain ⟨gx, ox, rfl, l0, l1, l2⟩ := (Ha.out.see.below Hbw.out).ent hX
      obtain ⟨gy, oy, rfl, m0, m1, m2⟩ := (Hb.out.see.below Hbw.out).ent hY
      have k1 : (k : Int) < (n : Int) := by omega
      obtain ⟨xt, xk, xA, xn, xc, xbs⟩ := x
      obtain ⟨yt, yk, yA, yn, yc, ybs⟩ := y
      simp only [Ent.dat, Prod.mk.injEq] at hd
      obtain ⟨rfl, rfl, rfl⟩ := hd
      have e1 : xn = yn := hxo.len.symm.trans hyo.len
      subst e1
      simp only at l0 l1 l2 m0 m1 m2
      have L0 := fun p : BelowOf wr => (p.h.cell (p := ⟨gx, ox + k * 3, none⟩) (block_lt_of_cell l0)).trans l0
      have L1 := fun p : BelowOf wr => (p.h.cell (p := ⟨gx, ox + k * 3 + 1, none⟩) (block_lt_of_cell l1)).trans l1
      have L2 := fun p : BelowOf wr => (p.h.cell (p := ⟨gx, ox + k * 3 + 2, none⟩) (block_lt_of_cell l2)).trans l2
      have M0 := fun p : BelowOf wr => (p.h.cell (p := ⟨gy, oy + k * 3, none⟩) (block_lt_of_cell m0)).trans m0
      have M1 := fun p : BelowOf wr => (p.h.cell (p := ⟨gy, oy + k * 3 + 1, none⟩) (block_lt_of_cell m1)).trans m1
      have M2 := fun p : BelowOf wr => (p.h.cell (p := ⟨gy, oy + k * 3 + 2, none⟩) (block_lt_of_cell m2)).trans m2
      have hs := fun p : BelowOf wr => by
        have := Same_any xA yA xn xn xc yc xbs xbs p.v hxo.len hxo.len (hxo.see.1.below p.h) (hyo.see.1.below p.h) (by have h : xn ≤ 10000 := hxo.small; omega)
        rw [decide_eq_true rfl] at this
        exact Calls.below_of this
      have Hs := Lib.hid hs
      clear hs hxo hyo l0 l1 l2 m0 m1 m2 hX hY
      go_upto_region 6 with fail
      refine wp_region_quiet_below (by kernel_rfl) (by kernel_rfl) ?_
      repeat (quiet_step (fail))
      quiet_step (exact (Hs.out _))
      repeat (quiet_step (fail))
      refine wpQuiet_nil ?_
      rintro _ ⟨⟨w2, hb2⟩, rfl⟩
      have Hb2 := Lib.hid (Hbw.out.trans (hb2.mono Hbw.out.size))
      clear hb2
      go_wp2
      go_roundw
      case rel => exact ⟨k + 1, by omega, by go_num, Hb2.out⟩
      case measure => simp [intOf]; omega
    · obtain rfl : k = n := by omega
      go_wp2
      go_ret
      exact ⟨rfl, Hbw.out⟩
end Go.Proofs.Ytigjkmlhpefafaa
