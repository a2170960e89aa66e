/-
  Contracts of cmp.isNaN, cmp.Compare, cmp.Or (of two) and of place.compare: the last one lays blocks, and turns nothing. No condition but that the two are there.
-/
import Derived.Test.YtfigohlgckandaaPlcMem
import Derived.Lib.Small
import Derived.Lib.Walk
import Derived.Sort.Grow
import Derived.BigQuiet
import Derived.Deep.RegionHeld3
namespace Go.Proofs.Ytfigohlgckandaa
open Go.ChangeShapes Go.WideShapes Go.ChangeAt Go.RowKit Go.Sort
set_option linter.unusedVariables false

theorem i64_eq {a b : Int} (h : a = b) : Ending.returned (.int .i64 a) = Ending.returned (.int .i64 b) := by rw [h]
theorem isNaN_any (x : Int) (w : World) : Calls Try.prog 18 #[.int .i64 x] w fun e w' => e = .returned (.bool false) ∧ w = w' := by
  go_enter Try.func18, Try.ntmps18
  go_wp2
  go_ret
  exact ⟨by simp, rfl⟩
theorem Compare_any (x y : Int) (w : World) : Calls Try.prog 15 #[.int .i64 x, .int .i64 y] w fun e w' => e = .returned (.int .i64 (Lib.compareInt x y)) ∧ w = w' := by
  go_enter Try.func15, Try.ntmps15
  go_wp2_with (go_at_call 18; refine (isNaN_any _ _).mono ?_; rintro e w' ⟨rfl, rfl⟩)
  all_goals (go_ret; refine ⟨?_, rfl⟩; unfold Lib.compareInt; (repeat' split) <;> first | rfl | (exfalso; omega))
theorem Or_two (a b : Int) (g : Nat) (w : World) (h0 : w.cell? ⟨g, 0, none⟩ = some (.int .i64 a)) (h1 : w.cell? ⟨g, 1, none⟩ = some (.int .i64 b)) :
    Calls Try.prog 14 #[.slice (some ⟨g, 0, none⟩) 2 2] w fun e w' => e = .returned (.int .i64 (if a = 0 then b else a)) ∧ w = w' := by
  have H0 := Lib.hid h0; have H1 := Lib.hid h1
  clear h0 h1
  go_enter Try.func14, Try.ntmps14
  go_wp2
  go_loopw [8] (fun iv wr => ∃ i : Nat, i ≤ 2 ∧ iv = .int .i64 (i : Int) ∧ (1 ≤ i → a = 0) ∧ (2 ≤ i → b = 0) ∧ wr = w) (fun iv _ => 2 - (intOf iv).toNat)
  case atStart => exact ⟨0, by omega, rfl, fun h => by omega, fun h => by omega, rfl⟩
  case round =>
    obtain ⟨i, hi, rfl, ha, hb, rfl⟩ := hrel
    rcases (by omega : i = 0 ∨ i = 1 ∨ i = 2) with rfl | rfl | rfl
    · have h0 := H0.out
      clear ha hb
      by_cases hz : a = 0
      · have hq : (a != 0) = false := by simp [hz]
        have Hz := Lib.hid hz
        clear hz
        go_wp2
        go_roundw
        case rel => exact ⟨1, by omega, by go_num, fun _ => Hz.out, fun h => by omega, trivial⟩
        case measure => simp [intOf]
      · have hq : (a != 0) = true := by simp [hz]
        have Hz := Lib.hid hz
        clear hz
        go_wp2
        go_ret
        exact ⟨i64_eq rfl, rfl⟩
    · have h1 := H1.out
      have Ha := Lib.hid (ha (by omega))
      clear ha hb
      by_cases hz : b = 0
      · have hq : (b != 0) = false := by simp [hz]
        have Hz := Lib.hid hz
        clear hz
        go_wp2
        go_roundw
        case rel => exact ⟨2, by omega, by go_num, fun _ => Ha.out, fun _ => Hz.out, trivial⟩
        case measure => simp [intOf]
      · have hq : (b != 0) = true := by simp [hz]
        have Hz := Lib.hid hz
        clear hz
        go_wp2
        go_ret
        exact ⟨i64_eq rfl, rfl⟩
    · have Ha := Lib.hid (ha (by omega)); have Hb := Lib.hid (hb (by omega))
      clear ha hb
      go_wp2
      go_ret
      exact ⟨i64_eq Hb.out.symm, rfl⟩

theorem grown_more {w W1 W3 : World} {os : Array Obj} {o : Obj} (h : W1 = grow w os) (k : (W1.alloc o).drew = W3) : ∃ q os', W3 = grow (w.drewN q) os' :=
  ⟨1, os ++ #[o], by rw [← k, h, alloc_eq_grow, grow_grow]; rfl⟩
/-- an entry as a value -/
def entA (e : Ent) : Value := .agg #[.int .i64 e.1, .int .i64 e.2]
set_option maxRecDepth 100000 in
set_option maxHeartbeats 4000000 in
theorem compare_any (x y : Ent) (w : World) : Calls Try.prog 12 #[.agg #[.int .i64 x.1, .int .i64 x.2], .agg #[.int .i64 y.1, .int .i64 y.2]] w fun e w' => e = .returned (.int .i64 (cmpE x y)) ∧ ∃ q os', w' = grow (w.drewN q) os' := by
  obtain ⟨n1, k1⟩ := x
  obtain ⟨n2, k2⟩ := y
  obtain ⟨ck, hck⟩ : ∃ c, Lib.compareInt k1 k2 = c := ⟨_, rfl⟩
  obtain ⟨cn, hcn⟩ : ∃ c, Lib.compareInt n1 n2 = c := ⟨_, rfl⟩
  obtain ⟨r, hr⟩ : ∃ r, cmpE (n1, k1) (n2, k2) = r := ⟨_, rfl⟩
  have hres : (if ck = 0 then cn else ck) = r := by rw [← hr]; unfold cmpE; simp only [hck, hcn]
  rw [hr]
  clear hr
  have Hck := Lib.hid hck; have Hcn := Lib.hid hcn; have Hres := Lib.hid hres
  clear hck hcn hres
  have hk : ∀ W, Calls Try.prog 15 #[.int .i64 k1, .int .i64 k2] W fun e w' => e = .returned (.int .i64 ck) ∧ W = w' := fun W => by rw [← Hck.out]; exact Compare_any k1 k2 W
  have hn : ∀ W, Calls Try.prog 15 #[.int .i64 n1, .int .i64 n2] W fun e w' => e = .returned (.int .i64 cn) ∧ W = w' := fun W => by rw [← Hcn.out]; exact Compare_any n1 n2 W
  have Hk := Lib.hid hk; have Hn := Lib.hid hn
  clear hk hn
  go_enter Try.func12, Try.ntmps12
  go_wp2
  obtain ⟨W1, hW1⟩ : ∃ W1, (w.alloc (.cells #[.int .i64 n1, .int .i64 k1] 31)).alloc (.cells #[.int .i64 n2, .int .i64 k2] 31) = W1 := ⟨_, rfl⟩
  have f1 : W1.cell? ⟨w.heap.size, 0, none⟩ = some (.int .i64 n1) := by rw [← hW1]; simp
  have f2 : W1.cell? ⟨w.heap.size, 1, none⟩ = some (.int .i64 k1) := by rw [← hW1]; simp
  have f3 : W1.cell? ⟨w.heap.size + 1, 0, none⟩ = some (.int .i64 n2) := by rw [← hW1]; simp
  have f4 : W1.cell? ⟨w.heap.size + 1, 1, none⟩ = some (.int .i64 k2) := by rw [← hW1]; simp
  have hgr : W1 = grow w #[.cells #[.int .i64 n1, .int .i64 k1] 31, .cells #[.int .i64 n2, .int .i64 k2] 31] := by rw [← hW1, alloc_eq_grow, alloc_eq_grow, grow_grow]; rfl
  have Hgr := Lib.hid hgr
  rw [hW1]
  clear hW1 hgr
  obtain ⟨W3, hW3⟩ : ∃ W3, (W1.alloc (.cells #[.int .i64 ck, .int .i64 cn] 3)).drew = W3 := ⟨_, rfl⟩
  have Hb3 : Below W1.heap.size W1 W3 := by rw [← hW3]; exact ((Below.refl _ _).alloc (Nat.le_refl _) _).drew
  have g1 := (Hb3.cell (block_lt_of_cell f1)).trans f1
  have g2 := (Hb3.cell (block_lt_of_cell f2)).trans f2
  have g3 := (Hb3.cell (block_lt_of_cell f3)).trans f3
  have g4 := (Hb3.cell (block_lt_of_cell f4)).trans f4
  have d1 : W3.cell? ⟨W1.heap.size, 0, none⟩ = some (.int .i64 ck) := by rw [← hW3]; exact (new_two _ _ _ _).1
  have d2 : W3.cell? ⟨W1.heap.size, 1, none⟩ = some (.int .i64 cn) := by rw [← hW3]; exact (new_two _ _ _ _).2
  have HW3 := Lib.hid hW3; have Hd1 := Lib.hid d1; have Hd2 := Lib.hid d2
  have Hg := Lib.hid (And.intro g1 (And.intro g2 (And.intro g3 g4)))
  have hO : Calls Try.prog 14 #[.slice (some ⟨W1.heap.size, 0, none⟩) 2 2] W3 fun e w' => e = .returned (.int .i64 r) ∧ W3 = w' := by rw [← Hres.out]; exact Or_two ck cn _ W3 d1 d2
  have HO := Lib.hid hO
  clear hW3 Hb3 d1 d2 g1 g2 g3 g4 hO
  go_region_held3 (fun w' => w'.cell? ⟨w.heap.size, 0, none⟩ = some (.int .i64 n1) ∧ w'.cell? ⟨w.heap.size, 1, none⟩ = some (.int .i64 k1) ∧ w'.cell? ⟨w.heap.size + 1, 0, none⟩ = some (.int .i64 n2) ∧ w'.cell? ⟨w.heap.size + 1, 1, none⟩ = some (.int .i64 k2))
    (first | exact ⟨f1, f2, f3, f4⟩ | (rw [HW3.out]; exact Hg.out) | exact Hg.out)
    (first
      | (go_at_call_of 15 (Value.int .i64 k1); refine (Hk.out _).mono ?_; rintro e w' ⟨rfl, rfl⟩)
      | (go_at_call_of 15 (Value.int .i64 n1); refine (Hn.out _).mono ?_; rintro e w' ⟨rfl, rfl⟩)
      | (go_at_call 14; rw [HW3.out]; refine HO.out.mono ?_; rintro e w' ⟨rfl, rfl⟩))
  all_goals
    go_wp2
    go_ret
    exact ⟨rfl, grown_more Hgr.out HW3.out⟩
end Go.Proofs.Ytfigohlgckandaa
