/-
  Contracts of a change's text and apply, and of changeOf of a change's bytes. Conditions: a change as a vault makes it.
-/
import Derived.Test.YtjekcaoonaniaaaGreatVauLib
namespace Go.Proofs.YtjekcaoonaniaaaGreat
open Go.ChangeShapes Go.WideShapes Go.ChangeAt Go.RowKit Go.Maps
set_option linter.unusedVariables false

/-- a change as a value, its bytes' slice given -/
def chgV (c : Chg) (A : Option Addr) (n cc : Nat) : Value := .agg #[.int .i64 c.key, .int .i64 (c.kind : Int), .slice A n cc]

theorem chg_text (c : Chg) : c.text = numB c.key.toNat ++ (numB c.kind ++ (if c.kind = 1 then numB c.bytes.length ++ c.bytes else [])) := by
  unfold Chg.text Chg.kind Chg.bytes
  cases c.val with
  | none => simp
  | some b => simp
theorem chg_kind (c : Chg) : c.kind = 0 ∨ c.kind = 1 := by unfold Chg.kind; split <;> simp

set_option maxRecDepth 100000 in
set_option maxHeartbeats 1000000 in
theorem text_any (c : Chg) (h : c.Ok) (A : Option Addr) (n cc : Nat) (w : World) (hn : c.bytes.length = n) (hs : Seen w A (bytesV c.bytes)) :
    Calls Tryz.prog 43 #[chgV c A n cc] w (OwnRet 5 (bytesV c.text) w) := by
  have hlo := h.lo; have hhi := h.hi; have hlen := h.len
  have hkl := numB_len9 (n := c.key.toNat) (by omega)
  have hk2 : (numB c.kind).length ≤ 9 := numB_len9 (by rcases chg_kind c with e | e <;> rw [e] <;> omega)
  have htl := c.text_len h
  have Ht := Lib.hid (chg_text c)
  have Hn := Lib.hid hn
  obtain ⟨w0, hw0⟩ : ∃ w0, w.alloc (.cells #[.int .i64 c.key, .int .i64 (c.kind : Int), .slice A n cc] 71) = w0 := ⟨_, rfl⟩
  have hb0 : Below w.heap.size w w0 := by rw [← hw0]; exact (Below.refl _ w).alloc (Nat.le_refl _) _
  have hs0 : w0.heap.size = w.heap.size + 1 := by rw [← hw0]; simp
  have hh0 : w0.heap[w.heap.size]? = some (.cells #[.int .i64 c.key, .int .i64 (c.kind : Int), .slice A n cc] 71 (0, 0)) := by rw [← hw0]; exact heap_alloc_new w _
  have hseen0 : Seen w0 A (bytesV c.bytes) := by rw [← hw0]; exact hs.alloc _
  obtain ⟨w1, hw1⟩ : ∃ w1, w0.alloc (.cells #[.slice none 0 0] 120) = w1 := ⟨_, rfl⟩
  have z0 : IsW w1 w0.heap.size w0.heap.size none [] := by rw [← hw1]; exact IsW.zero w0 _ (Nat.le_refl _)
  have hb1 : Below w0.heap.size w0 w1 := by rw [← hw1]; exact (Below.refl _ _).alloc (Nat.le_refl _) _
  have cells : ∀ W, Below w0.heap.size w0 W → (W.cell? ⟨w.heap.size, 0, none⟩ = some (.int .i64 c.key) ∧ W.cell? ⟨w.heap.size, 1, none⟩ = some (.int .i64 (c.kind : Int)) ∧ W.cell? ⟨w.heap.size, 2, none⟩ = some (.slice A n cc)) ∧ Seen W A (bytesV c.bytes) := fun W hb => by
    have hh : W.heap[w.heap.size]? = some (.cells #[.int .i64 c.key, .int .i64 (c.kind : Int), .slice A n cc] 71 (0, 0)) := by rw [hb.block _ (by omega)]; exact hh0
    exact ⟨⟨row_cell hh 0, row_cell hh 1, row_cell hh 2⟩, hseen0.below (hb.mono (by omega))⟩
  have Fin := Lib.hid (show ∀ W, Below w0.heap.size w0 W → Below w.heap.size w W from fun W hb => hb0.trans (hb.mono (by omega)))
  have Z0 := Lib.hid z0; have Hb1 := Lib.hid hb1
  have hc1 := (cells w1 hb1).1.1
  have Cells := Lib.hid cells
  clear hb0 hs0 hh0 hseen0 z0 hb1 hs hn cells
  unfold chgV
  go_enter Tryz.func43, Tryz.ntmps43
  go_wp2_with fail
  refine (WNum_any _ _ none [] c.key w1 Z0.out (by simp) (by omega) (by omega)).mono ?_
  rintro e w2 ⟨rfl, hg2⟩
  have hb2 := Hb1.out.trans (GrewW.below Z0.out hg2)
  obtain ⟨r2, hw2, _, _⟩ := hg2
  rw [List.nil_append] at hw2
  have Hw2 := Lib.hid hw2
  have hc2 := (Cells.out w2 hb2).1.2.1
  have Hb2 := Lib.hid hb2
  clear hw2 hb2
  go_wp2_with fail
  refine (WNum_any _ _ r2 (numB c.key.toNat) c.kind w2 Hw2.out (by omega) (by have := chg_kind c; omega) (by have := chg_kind c; omega)).mono ?_
  rintro e w3 ⟨rfl, hg3⟩
  have hb3 := Hb2.out.trans (GrewW.below Hw2.out hg3)
  obtain ⟨r3, hw3, _, _⟩ := hg3
  rw [Int.toNat_natCast] at hw3
  have Hw3 := Lib.hid hw3
  have hc3 := (Cells.out w3 hb3).1.2.1
  have hc4 := (Cells.out w3 hb3).1.2.2
  have Hs3 := Lib.hid (Cells.out w3 hb3).2
  have Hb3 := Lib.hid hb3
  clear hw3 hb3
  rcases chg_kind c with hk | hk
  · rw [hk] at Hw3 Ht hc3
    rw [if_neg (by omega), List.append_nil] at Ht
    clear hw0 hw1 hc1 hc2 hc4
    go_wp2_with fail
    refine (WBytes_any _ _ r3 _ w3 Hw3.out (by rw [List.length_append]; rw [hk] at hk2; omega)).mono ?_
    rintro e w4 ⟨A4, c4, rfl, hown4, hb4⟩
    rw [← Ht.out] at hown4 ⊢
    have Hown4 := Lib.hid hown4; have Hb4 := Lib.hid hb4
    clear hown4 hb4
    go_wp2
    go_ret
    have hsz := Hb3.out.size
    have f := Fin.out w4 (Hb3.out.trans (Hb4.out.mono hsz))
    exact ⟨A4, c4, rfl, own_base Hown4.out (by have := (Fin.out w3 Hb3.out).size; exact this), f⟩
  · rw [hk] at Hw3 Ht hc3
    rw [if_pos rfl] at Ht
    clear hw0 hw1 hc1 hc2
    go_wp2_with fail
    refine (WText_any _ _ r3 _ c.bytes A n cc w3 Hw3.out (by rw [List.length_append]; rw [hk] at hk2; omega) Hn.out (by have := Hn.out; omega) (fun w' ht => (Cells.out w' (Hb3.out.trans (ht.below (fun k hk => by
      rcases hk with rfl | hk
      · exact Nat.le_refl _
      · exact (Hw3.out.lt.2 k hk).1) Hb3.out.size))).2)).mono ?_
    rintro e w4 ⟨rfl, hg4⟩
    have Hb4 := Lib.hid (Hb3.out.trans (GrewW.below Hw3.out hg4))
    obtain ⟨r4, hw4, _, _⟩ := hg4
    rw [← Hn.out, List.append_assoc, ← Ht.out] at hw4
    have Hw4 := Lib.hid hw4
    clear hw4
    go_wp2_with fail
    refine (WBytes_any _ _ r4 _ w4 Hw4.out (by omega)).mono ?_
    rintro e w5 ⟨A5, c5, rfl, hown5, hb5⟩
    have Hown5 := Lib.hid hown5; have Hb5 := Lib.hid hb5
    clear hown5 hb5
    go_wp2
    go_ret
    have hsz := Hb4.out.size
    have f := Fin.out w5 (Hb4.out.trans (Hb5.out.mono hsz))
    exact ⟨A5, c5, rfl, own_base Hown5.out (Fin.out w4 Hb4.out).size, f⟩

/-! ### apply -/
set_option maxRecDepth 100000 in
set_option maxHeartbeats 1000000 in
theorem apply_any (c : Chg) (h : c.Ok) (A : Option Addr) (n cc : Nat) (B m : Nat) (x : Vals) (w : World) (hv : ValsAt w B m x) (hx : x.length ≤ 1000000) (hn : c.bytes.length = n) (hown : w.ownsRow B 5 1 (.slice A n cc) n (bytesV c.bytes)) :
    Calls Tryz.prog 38 #[chgV c A n cc, .map (some m)] w fun e w' => e = .returned (.tuple #[]) ∧ ValsAt w' B m (c.on x) ∧ Turned (fun k => k = m) w w' := by
  have hlo := h.lo; have hhi := h.hi; have hlen := h.len
  have Hn := Lib.hid hn
  obtain ⟨w0, hw0⟩ : ∃ w0, w.alloc (.cells #[.int .i64 c.key, .int .i64 (c.kind : Int), .slice A n cc] 71) = w0 := ⟨_, rfl⟩
  have hb0 : Below w.heap.size w w0 := by rw [← hw0]; exact (Below.refl _ w).alloc (Nat.le_refl _) _
  have hh0 : w0.heap[w.heap.size]? = some (.cells #[.int .i64 c.key, .int .i64 (c.kind : Int), .slice A n cc] 71 (0, 0)) := by rw [← hw0]; exact heap_alloc_new w _
  have c0 : w0.cell? ⟨w.heap.size, 0, none⟩ = some (.int .i64 c.key) := row_cell hh0 0
  have c1 : w0.cell? ⟨w.heap.size, 1, none⟩ = some (.int .i64 (c.kind : Int)) := row_cell hh0 1
  have c2 : w0.cell? ⟨w.heap.size, 2, none⟩ = some (.slice A n cc) := row_cell hh0 2
  have Hv := Lib.hid (hv.below hb0)
  have Hown := Lib.hid (own_below hown hb0)
  have Hb0 := Lib.hid hb0
  have Hon := Lib.hid (show c.on x = if c.kind = 1 then putV x c.key c.bytes else outV x c.key by
    unfold Chg.on Chg.kind Chg.bytes
    cases c.val <;> rfl)
  clear hv hown hb0 hh0
  unfold chgV
  rcases chg_kind c with hk | hk
  · have hd : ((c.kind : Int) == 0) = true := by rw [hk]; rfl
    have Hk := Lib.hid hk; clear hk
    go_enter Tryz.func38, Tryz.ntmps38
    go_wp2_with (at_delete; go_loud (refine wpList_delV rfl _ _ rfl B m x c.key rfl rfl Hv.out (by omega) (by omega) ?_; intro w1 hv1 ht1; have Hv1 := Lib.hid hv1; have Ht1 := Lib.hid ht1; clear hv1 ht1))
    simp only [Act.put]
    refine bodyPost_ret (results_none rfl _ _ _) rfl ?_
    refine ⟨rfl, by rw [Hon.out, if_neg (by rw [Hk.out]; omega)]; exact Hv1.out, (Turned.of_below Hb0.out).trans Ht1.out (fun _ e => e) (fun _ _ e => e)⟩
  · have hd : ((c.kind : Int) == 0) = false := by rw [hk]; rfl
    have Hk := Lib.hid hk; clear hk
    go_enter Tryz.func38, Tryz.ntmps38
    go_wp2_with (at_mapUpdate; go_loud (refine wpList_putV rfl _ _ _ rfl B m x c.key (.slice A n cc) c.bytes rfl rfl rfl Hv.out (by omega) (by omega) hx (by rw [Hn.out]; exact Hown.out) ?_; intro w1 hv1 ht1; have Hv1 := Lib.hid hv1; have Ht1 := Lib.hid ht1; clear hv1 ht1))
    go_end0
    refine ⟨rfl, by rw [Hon.out, if_pos Hk.out]; exact Hv1.out, (Turned.of_below Hb0.out).trans Ht1.out (fun _ e => e) (fun _ _ e => e)⟩
end Go.Proofs.YtjekcaoonaniaaaGreat
