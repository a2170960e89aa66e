/-
  Contracts of mail's Post. Conditions: what each names.
-/
import Derived.Test.YtbialoaphgmigaaMail
namespace Go.Proofs.Ytbialoaphgmigaa
open Go.ChangeShapes Go.WideShapes Go.ChangeAt Go.RowKit Go.Conc
set_option linter.unusedVariables false

theorem own_baseM {w : World} {b b' : Nat} {e : TypeId} {z : Nat} {v : Value} {n : Nat} {xs : List Value} (h : w.ownsRow b e z v n xs) (hb : b' ≤ b) : w.ownsRow b' e z v n xs := by
  refine ⟨h.1, ?_⟩
  rcases h.2 with h2 | ⟨g, cap, cur, rfl, hg, r⟩
  · exact .inl h2
  · exact .inr ⟨g, cap, cur, rfl, by omega, r⟩
/-- a letter as a value -/
def letV (f t : Int) (A : Option Addr) (n c : Nat) : Value := .agg #[.int .i64 f, .int .i64 t, .slice A n c]

set_option maxRecDepth 100000 in
theorem Post_no (g : Nat) (f t k : Int) (A : Option Addr) (n cp : Nat) (w : World) (hk : ¬ (0 ≤ k ∧ k < 3)) :
    Calls Try.prog 9 #[.pointer (some ⟨g, 0, none⟩), .int .i64 k, letV f t A n cp] w fun e w' => e = .returned (.bool false) ∧ Below w.heap.size w w' := by
  have Hk := Lib.hid hk; clear hk
  unfold letV
  go_enter Try.func9, Try.ntmps9
  go_wp2_with (go_at_call 16; refine (has_no k _ Hk.out).mono ?_; rintro e w1 ⟨rfl, rfl⟩)
  go_ret
  exact ⟨rfl, (Below.refl _ _).alloc (Nat.le_refl _) _⟩

set_option maxRecDepth 100000 in
theorem Post_full (g room : Nat) (c : Nat → Nat) (q : Nat → List Value) (f t : Int) (k : Nat) (A : Option Addr) (n cp : Nat) (bs : List UInt8) (w : World) (h : IsB w g c room q) (hk : k < 3) (hn : bs.length = n) (hl : n ≤ 10000) (hs : Seen w A (bytesV bs)) (hfull : room ≤ (q k).length) :
    Calls Try.prog 9 #[.pointer (some ⟨g, 0, none⟩), .int .i64 (k : Int), letV f t A n cp] w fun e w' => e = .returned (.bool false) ∧ Below w.heap.size w w' := by
  have H := Lib.hid h; clear h
  unfold letV
  have k0 : (0 : Int) ≤ (k : Int) := by omega
  have k1 : (k : Int) < 3 := by omega
  obtain ⟨i, hi, hz⟩ := letter_info
  obtain ⟨w1, hw1, hb1, hh1⟩ : ∃ w1, w.alloc (.cells #[.int .i64 f, .int .i64 t, .slice A n cp] 29) = w1 ∧ Below w.heap.size w w1 ∧ w1.heap[w.heap.size]? = some (.cells #[.int .i64 f, .int .i64 t, .slice A n cp] 29 (0, 0)) :=
    ⟨_, rfl, (Below.refl _ _).alloc (Nat.le_refl _) _, heap_alloc_new _ _⟩
  have hc2 : w1.cell? ⟨w.heap.size, 2, none⟩ = some (.slice A n cp) := row_cell hh1 2
  go_enter Try.func9, Try.ntmps9
  go_upto_region 4 with (first
    | (go_at_call 16; refine (has_yes (k : Int) _ k0 k1).mono ?_; rintro e w2 ⟨rfl, rfl⟩)
    | (go_at_call 17; refine (BClone_any A n cp bs w1 hn hl (hs.below hb1)).mono ?_; rintro e w2 ⟨A2, c2, rfl, hown2, hb2⟩; have hh2 := (hb2.block w.heap.size (Array.getElem?_eq_some_iff.1 hh1).1).trans hh1; have hz2 := row_frozen hh2 2; have hc3 : w2.cell? ⟨w.heap.size, 2, none⟩ = some (.slice A n cp) := row_cell hh2 2))
  have hb3 : Below w.heap.size w (w2.setCell ⟨w.heap.size, 2, none⟩ (.slice A2 n c2)) := (hb1.trans (hb2.mono hb1.size)).setCell (p := ⟨w.heap.size, 2, none⟩) (Nat.le_refl _) _
  have hh3 := row_set hh2 2 (.slice A2 n c2)
  have ht3 : Turned (fun j => j = w.heap.size) w2 (w2.setCell ⟨w.heap.size, 2, none⟩ (.slice A2 n c2)) := Turned.setCell (p := fun j => j = w.heap.size) (Turned.refl _ _) (b := ⟨w.heap.size, 2, none⟩) (fun _ => rfl) _
  have hsz1 : w.heap.size < w1.heap.size := (Array.getElem?_eq_some_iff.1 hh1).1
  have hown3 := ht3.own hown2 (fun j hj e => by have := (hown2.lt j hj).1; subst e; omega)
  have Hown := Lib.hid hown3
  generalize w2.setCell ⟨w.heap.size, 2, none⟩ (.slice A2 n c2) = w3 at hb3 hh3 Hown ⊢
  have hB := H.out.below hb3
  have hcell := hB.cell hk
  have l0 : w3.cell? ⟨w.heap.size, 0, none⟩ = some (.int .i64 f) := row_cell hh3 0
  have l1 : w3.cell? ⟨w.heap.size, 1, none⟩ = some (.int .i64 t) := row_cell hh3 1
  have l2 : w3.cell? ⟨w.heap.size, 2, none⟩ = some (.slice A2 n c2) := row_cell hh3 2
  have HB := Lib.hid hB; have Hb3 := Lib.hid hb3
  clear hh1 hw1 hc2 hb1 hh2 hz2 hc3 hb2 hown2 hh3 hB hb3 ht3 hown3
  go_upto_region 6 with fail
  obtain ⟨sn, rn, hch⟩ := HB.out.ch k hk
  refine wp_sel_send_full (c := c k) (v := .agg #[.int .i64 f, .int .i64 t, .slice A2 n c2]) rfl rfl rfl rfl hi hz hch (by simpa using hfull) ?_
  clear hch hcell
  go_wp2
  go_ret
  exact ⟨rfl, Hb3.out⟩

set_option maxRecDepth 100000 in
theorem Post_yes (g room : Nat) (c : Nat → Nat) (q : Nat → List Value) (f t : Int) (k : Nat) (A : Option Addr) (n cp : Nat) (bs : List UInt8) (w : World) (h : IsB w g c room q) (hk : k < 3) (hn : bs.length = n) (hl : n ≤ 10000) (hs : Seen w A (bytesV bs)) (hroom : (q k).length < room) :
    Calls Try.prog 9 #[.pointer (some ⟨g, 0, none⟩), .int .i64 (k : Int), letV f t A n cp] w fun e w' => ∃ A' c', e = .returned (.bool true) ∧ IsB w' g c room (fun j => if j = k then q k ++ [letV f t A' n c'] else q j) ∧ w'.ownsRow w.heap.size 5 1 (.slice A' n c') n (bytesV bs) ∧ Turned (fun j => j = c k) w w' := by
  have H := Lib.hid h; clear h
  unfold letV
  have k0 : (0 : Int) ≤ (k : Int) := by omega
  have k1 : (k : Int) < 3 := by omega
  obtain ⟨i, hi, hz⟩ := letter_info
  obtain ⟨w1, hw1, hb1, hh1⟩ : ∃ w1, w.alloc (.cells #[.int .i64 f, .int .i64 t, .slice A n cp] 29) = w1 ∧ Below w.heap.size w w1 ∧ w1.heap[w.heap.size]? = some (.cells #[.int .i64 f, .int .i64 t, .slice A n cp] 29 (0, 0)) :=
    ⟨_, rfl, (Below.refl _ _).alloc (Nat.le_refl _) _, heap_alloc_new _ _⟩
  have hc2 : w1.cell? ⟨w.heap.size, 2, none⟩ = some (.slice A n cp) := row_cell hh1 2
  go_enter Try.func9, Try.ntmps9
  go_upto_region 4 with (first
    | (go_at_call 16; refine (has_yes (k : Int) _ k0 k1).mono ?_; rintro e w2 ⟨rfl, rfl⟩)
    | (go_at_call 17; refine (BClone_any A n cp bs w1 hn hl (hs.below hb1)).mono ?_; rintro e w2 ⟨A2, c2, rfl, hown2, hb2⟩; have hh2 := (hb2.block w.heap.size (Array.getElem?_eq_some_iff.1 hh1).1).trans hh1; have hz2 := row_frozen hh2 2; have hc3 : w2.cell? ⟨w.heap.size, 2, none⟩ = some (.slice A n cp) := row_cell hh2 2))
  have hb3 : Below w.heap.size w (w2.setCell ⟨w.heap.size, 2, none⟩ (.slice A2 n c2)) := (hb1.trans (hb2.mono hb1.size)).setCell (p := ⟨w.heap.size, 2, none⟩) (Nat.le_refl _) _
  have hh3 := row_set hh2 2 (.slice A2 n c2)
  have ht3 : Turned (fun j => j = w.heap.size) w2 (w2.setCell ⟨w.heap.size, 2, none⟩ (.slice A2 n c2)) := Turned.setCell (p := fun j => j = w.heap.size) (Turned.refl _ _) (b := ⟨w.heap.size, 2, none⟩) (fun _ => rfl) _
  have hsz1 : w.heap.size < w1.heap.size := (Array.getElem?_eq_some_iff.1 hh1).1
  have hown3 := ht3.own hown2 (fun j hj e => by have := (hown2.lt j hj).1; subst e; omega)
  have Hown := Lib.hid hown3
  generalize w2.setCell ⟨w.heap.size, 2, none⟩ (.slice A2 n c2) = w3 at hb3 hh3 Hown ⊢
  have hB := H.out.below hb3
  have hcell := hB.cell hk
  have l0 : w3.cell? ⟨w.heap.size, 0, none⟩ = some (.int .i64 f) := row_cell hh3 0
  have l1 : w3.cell? ⟨w.heap.size, 1, none⟩ = some (.int .i64 t) := row_cell hh3 1
  have l2 : w3.cell? ⟨w.heap.size, 2, none⟩ = some (.slice A2 n c2) := row_cell hh3 2
  have HB := Lib.hid hB; have Hb3 := Lib.hid hb3
  clear hh1 hw1 hc2 hb1 hh2 hz2 hc3 hb2 hown2 hh3 hB hb3 ht3 hown3
  go_upto_region 6 with fail
  obtain ⟨sn, rn, hch⟩ := HB.out.ch k hk
  refine wp_sel_send (c := c k) (v := .agg #[.int .i64 f, .int .i64 t, .slice A2 n c2]) rfl rfl rfl rfl hi hz hch (by simpa using hroom) ?_
  have hset := HB.out.set hk (q k ++ [letV f t A2 n c2]) (sn + 1) rn
  have ht : Turned (fun j => j = c k) w3 (w3.setChan (c k) room ((q k).toArray.push (.agg #[.int .i64 f, .int .i64 t, .slice A2 n c2])) false (sn + 1) rn false) := Turned.setChan (p := fun j => j = c k) (Turned.refl _ _) (fun _ => rfl) _ _ _ _ _ _
  rw [show (q k ++ [letV f t A2 n c2]).toArray = (q k).toArray.push (.agg #[.int .i64 f, .int .i64 t, .slice A2 n c2]) by simp [letV]] at hset
  generalize w3.setChan (c k) room ((q k).toArray.push (.agg #[.int .i64 f, .int .i64 t, .slice A2 n c2])) false (sn + 1) rn false = w4 at hset ht ⊢
  have Hset := Lib.hid hset
  have Ht := Lib.hid ((Turned.of_below Hb3.out : Turned (fun j => j = c k) w w3).trans ht (fun _ e => e) (fun _ _ e => e))
  have Hown4 := Lib.hid (ht.own Hown.out (fun j hj e => by have h1 := (Hown.out.lt j hj).1; have h2 := H.out.clt hk; omega))
  clear hch hcell hset ht l0 l1 l2
  go_wp2
  go_ret
  refine ⟨A2, c2, rfl, Hset.out, ?_, Ht.out⟩
  exact own_baseM Hown4.out (by omega)

end Go.Proofs.Ytbialoaphgmigaa
