/-
  Contract of dotterellaw03.awake, and words for what outlasts a call.
-/
import Derived.Test.YteiakgnnlgjfnaaPackR
namespace Go.Proofs.Yteiakgnnlgjfnaa
open Go.ChangeShapes Go.WideShapes Go.ChangeAt Go.RowKit
set_option linter.unusedVariables false

theorem GrewW.below {w w' : World} {B g : Nat} {r : Option Nat} {xs ys : List UInt8} (hw : IsW w B g r xs) (h : GrewW B g r ys w w') : Below B w w' := by
  obtain ⟨r', h1, h2, h3⟩ := h
  refine h3.below (fun k hk => ?_) (by have := hw.lt.1; have := hw.1; omega)
  rcases hk with rfl | hk
  · exact hw.1
  · exact (hw.lt.2 k hk).1
theorem IsW.below {w w' : World} {B g : Nat} {r : Option Nat} {xs : List UInt8} (h : IsW w B g r xs) (hb : Below w.heap.size w w') : IsW w' B g r xs := h.turned (p := fun _ => False) (.of_below hb) (fun e => e) (fun _ _ e => e)
theorem IsW.alloc {w : World} {B g : Nat} {r : Option Nat} {xs : List UInt8} (h : IsW w B g r xs) (o : Obj) : IsW (w.alloc o) B g r xs := h.below ((Below.refl _ _).alloc (Nat.le_refl _) o)
theorem IsR.alloc {w : World} {g e : Nat} {bs : List UInt8} (h : IsR w g bs e) (o : Obj) : IsR (w.alloc o) g bs e := h.below ((Below.refl _ _).alloc (Nat.le_refl _) o)

theorem read_300 : rdNum [172, 2] 0 300 = (300, [], 0) := by
  have h := numR_numB (n := 300) (by omega) []
  rw [List.append_nil, awake_num] at h
  unfold rdNum
  rw [h]
  rfl
set_option maxRecDepth 100000 in
theorem awake_any (w : World) : Calls Try.prog 7 #[] w fun e w' => e = .returned (.bool true) ∧ Below w.heap.size w w' := by
  obtain ⟨B, hB⟩ : ∃ B, w.heap.size = B := ⟨_, rfl⟩
  have HB := Lib.hid hB
  go_enter Try.func7, Try.ntmps7
  have z0 := IsW.zero w B (by omega)
  rw [hB] at z0
  have Z0 := Lib.hid z0; clear z0
  have Hr300 := Lib.hid read_300
  have Hn300 := Lib.hid awake_num
  have hb0 := Lib.hid ((Below.refl B w).alloc (by omega) (.cells #[.slice none 0 0] 26))
  go_wp2_with fail
  refine (WNum_any B B none [] 300 _ Z0.out (by simp) (by omega) (by omega)).mono ?_
  rintro e w1 ⟨rfl, hg1⟩
  have hb1 := Lib.hid (hb0.out.trans (GrewW.below Z0.out hg1))
  obtain ⟨r1, hw1, _, _⟩ := hg1
  rw [List.nil_append, show (300 : Int).toNat = 300 from rfl, Hn300.out] at hw1
  have Hw1 := Lib.hid hw1
  clear hw1
  go_wp2_with fail
  refine (Read_any (some ⟨w1.heap.size, 0, none⟩) 2 2 [172, 2] _ rfl (by omega) (Seen.of_cells (heap_alloc_new w1 _))).mono ?_
  rintro e w3 ⟨gr, rfl, hgr, hr3, hb3⟩
  have hb3' := Lib.hid ((hb1.out.alloc (by have := hb1.out.size; omega) _).trans (hb3.mono (by have := hb1.out.size; simp; omega)))
  have Hw3 := Lib.hid ((Hw1.out.alloc _).below hb3)
  have Hr3 := Lib.hid hr3
  have Hgr : B ≤ gr := by have := hb1.out.size; simp at hgr; omega
  clear hr3 hb3 hgr
  go_wp2_with fail
  refine (WBytes_any B B r1 [172, 2] _ Hw3.out (by simp)).mono ?_
  rintro e w4 ⟨A4, c4, rfl, hown4, hb4⟩
  have Hb4 := Lib.hid (hb3'.out.trans (hb4.mono (by have := hb3'.out.size; omega)))
  have Hr4 := Lib.hid (Hr3.out.below hb4)
  have Hown4 := Lib.hid hown4
  clear hown4 hb4
  go_wp2_with fail
  have hsame : decide (([172, 2] : List UInt8) = [172, 2]) = true := decide_eq_true rfl
  refine (Same_any A4 (some ⟨w4.heap.size, 0, none⟩) 2 2 c4 2 [172, 2] [172, 2] _ rfl rfl ((Seen.of_own Hown4.out).alloc _) (Seen.of_cells (heap_alloc_new w4 _)) (by omega)).mono ?_
  rintro e w5 ⟨rfl, hb5⟩
  rw [hsame]
  have Hb5 := Lib.hid ((Hb4.out.alloc (by have := Hb4.out.size; omega) _).trans (hb5.mono (by have := Hb4.out.size; simp; omega)))
  have Hr5 := Lib.hid ((Hr4.out.alloc _).below hb5)
  clear hb5 hsame
  go_wp2_with fail
  refine (RNum_any gr 0 [172, 2] 300 _ Hr5.out (by omega) (by omega)).mono ?_
  rw [Hr300.out]
  rintro e w6 ⟨rfl, hr6, ht6⟩
  have Hb6 := Lib.hid (Hb5.out.trans (ht6.below (B := B) (fun k e => by subst e; exact Hgr) (by have := Hb5.out.size; omega)))
  have Hr6 := Lib.hid hr6
  clear hr6 ht6
  go_wp2_with fail
  refine (End_any gr 0 [] _ Hr6.out).mono ?_
  rintro e w7 ⟨rfl, rfl⟩
  rw [show endOf [] 0 = 0 from rfl]
  go_wp2
  go_ret
  rw [HB.out]
  exact ⟨rfl, Hb6.out⟩
end Go.Proofs.Yteiakgnnlgjfnaa
