/-
  Contract of dotterellaw08's awake; what the laws lean on. No condition.
-/
import Derived.Test.YtbialoaphgmigaaMailD
import Derived.Test.YtbialoaphgmigaaMailW
import Derived.Deep.RegionWith
namespace Go.Proofs.Ytbialoaphgmigaa
open Go.ChangeShapes Go.WideShapes Go.ChangeAt Go.RowKit Go.Conc
set_option linter.unusedVariables false

theorem below_box {B k : Nat} {c : Nat → Nat} {w0 w w' : World} (h : Below B w0 w) (ht : Turned (fun j => j = c k) w w') (hc : B ≤ c k) (hB : B ≤ w0.heap.size) : Below B w0 w' :=
  h.trans (ht.below (fun j e => by rw [e]; exact hc) (Nat.le_trans hB h.size))
theorem letV_eq (f t : Int) (A : Option Addr) (n c : Nat) : letV f t A n c = .agg #[.int .i64 f, .int .i64 t, .slice A n c] := rfl

set_option maxRecDepth 100000 in
theorem awake_any (w : World) : Calls Try.prog 6 #[] w fun e w' => e = .returned (.bool true) ∧ Below w.heap.size w w' := by
  go_enter Try.func6, Try.ntmps6
  go_wp2_with fail
  refine (New_yes 1 w (by omega) (by omega)).mono ?_
  rintro e w1 ⟨g, c, rfl, hb1, hg, hc, hl1⟩
  have Hb1 := Lib.hid hb1; have Hc := Lib.hid hc; have Hl1 := Lib.hid hl1; have Hg := Lib.hid hg
  clear hb1 hg hc hl1
  go_wp2_with fail
  refine (Post_yes g 1 c (fun _ => []) 0 2 2 none 0 0 [] w1 Hb1.out (by omega) rfl (by omega) (Seen.nil _ _) (by simp)).mono ?_
  rintro e w2 ⟨A2, c2, rfl, hb2, hown2, ht2⟩
  have Hb2 := Lib.hid hb2; have Hl2 := Lib.hid (below_box Hl1.out ht2 (Hc.out 2 (by omega)) (Nat.le_refl _))
  clear hb2 ht2 hown2
  go_wp2_with fail
  refine (Post_yes g 1 c _ 0 5 0 none 0 0 [] w2 Hb2.out (by omega) rfl (by omega) (Seen.nil _ _) (by simp)).mono ?_
  rintro e w3 ⟨A3, c3, rfl, hb3, hown3, ht3⟩
  have Hb3 := Lib.hid hb3; have Hl3 := Lib.hid (below_box Hl2.out ht3 (Hc.out 0 (by omega)) (Nat.le_refl _))
  clear hb3 ht3 hown3
  go_wp2_with fail
  refine (Post_full g 1 c _ 0 0 0 none 0 0 [] w3 Hb3.out (by omega) rfl (by omega) (Seen.nil _ _) (by simp)).mono ?_
  rintro e w4 ⟨rfl, hb4⟩
  have Hb4 := Lib.hid (Hb3.out.below hb4); have Hl4 := Lib.hid (Hl3.out.trans (hb4.mono Hl3.out.size))
  clear hb4
  go_wp2_with fail
  refine (Next_some g 1 c _ 0 0 5 A3 0 c3 [] w4 Hb4.out (by omega) (fun k hk => by omega) (by simp)).mono ?_
  rintro e w5 ⟨rfl, hb5, ht5⟩
  have Hl5 := Lib.hid (below_box Hl4.out ht5 (Hc.out 0 (by omega)) (Nat.le_refl _))
  obtain ⟨w6, hw6, hx6, hh6⟩ : ∃ w6, w5.alloc (.cells #[.int .i64 0, .int .i64 5, .slice A3 0 c3] 29) = w6 ∧ Below w5.heap.size w5 w6 ∧ w6.heap[w5.heap.size]? = some (.cells #[.int .i64 0, .int .i64 5, .slice A3 0 c3] 29 (0, 0)) :=
    ⟨_, rfl, (Below.refl _ _).alloc (Nat.le_refl _) _, heap_alloc_new _ _⟩
  have Hb6 := Lib.hid (hb5.below hx6); have Hl6 := Lib.hid (Hl5.out.trans (hx6.mono Hl5.out.size))
  have hc6 : w6.cell? ⟨w5.heap.size, 1, none⟩ = some (.int .i64 5) := row_cell hh6 1
  clear hb5 ht5 hx6 hh6
  rw [letV_eq]
  go_wp2_with (first
    | (refine wpList_store_row rfl 29 (.tmp 2) (.tmp 28) rfl w5.heap.size #[.int .i64 0, .int .i64 5, .slice A3 0 c3] rfl rfl 29 _ (heap_alloc_new _ _) letter_size rfl (by simp [Value.oneCell']) ?_; rw [World.setRow_alloc_new, hw6])
    | (go_at_call 15; refine (Len_yes g 1 c _ 2 w6 Hb6.out (by omega)).mono ?_; rintro e w7 ⟨rfl, rfl⟩))
  go_ret
  exact ⟨rfl, Hl6.out⟩
end Go.Proofs.Ytbialoaphgmigaa
