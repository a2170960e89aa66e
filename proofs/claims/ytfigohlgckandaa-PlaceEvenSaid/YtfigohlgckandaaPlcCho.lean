/-
  Contracts of place's ordered and Choose: the first ones of the loads in their order. Conditions: what the slice reads as.
-/
import Derived.Test.YtfigohlgckandaaPlcSort
import Derived.Test.YtfigohlgckandaaPlcRef
namespace Go.Proofs.Ytfigohlgckandaa
open Go.ChangeShapes Go.WideShapes Go.ChangeAt Go.RowKit Go.Sort
set_option linter.unusedVariables false

theorem POrdered (A : Option Addr) (n c : Nat) (l : List Ent) (w : World) (hl : l.length = n) (hn : n ≤ 100000) (hs : Seen w A (entsV l)) :
    Calls Try.prog 13 #[.slice A n c] w (LoadsRet (sortE l) w) := by
  have K := Lib.hid (Clone_seen A n c l w hl hs hn)
  have Hl := Lib.hid hl
  clear hs hl
  go_enter Try.func13, Try.ntmps13
  go_wp2_with (first
    | (go_at_call 16; refine K.out.mono ?_; rintro e w1 ⟨A1, c1, rfl, h1, b1⟩; rw [Hl.out] at h1 ⊢; have H1 := Lib.hid h1; have B1 := Lib.hid b1; clear h1 b1)
    | (go_at_call 17; refine (show Calls _ _ #[.slice A1 n c1, .func (.func 12) #[] #[]] w1 _ from (by have := Sort_any w.heap.size A1 c1 l w1 (by rw [Hl.out]; exact H1.out) (by have := Hl.out; omega); rw [Hl.out] at this; exact this)).mono ?_; rintro e w2 ⟨rfl, h2, b2⟩; have H2 := Lib.hid h2; have B2 := Lib.hid (B1.out.trans b2); clear h2 b2))
  go_ret
  have e := sortE_length l
  rw [Hl.out] at e
  refine ⟨A1, c1, by rw [e]; rfl, by rw [e]; exact H2.out, B2.out⟩

set_option maxRecDepth 100000 in
set_option maxHeartbeats 2000000 in
theorem PChoose (A : Option Addr) (n c : Nat) (copies : Int) (l : List Ent) (w : World) (hl : l.length = n) (hn : n ≤ 100000) (hs : Seen w A (entsV l)) :
    Calls Try.prog 10 #[.slice A n c, .int .i64 copies] w (IntsRet (chooseF l copies) w) := by
  have K := Lib.hid (POrdered A n c l w hl hn hs)
  obtain ⟨L, hL⟩ : ∃ L, sortE l = L := ⟨_, rfl⟩
  have hLl := sortE_length l
  rw [hl, hL] at hLl
  have hch : chooseF l copies = idsE (L.take copies.toNat) := by unfold chooseF idsE; rw [hL]
  rw [hL] at K
  rw [hch]
  have HLl := Lib.hid hLl
  clear hL hch hLl hs hl
  go_enter Try.func10, Try.ntmps10
  go_wp2
  go_step3
  go_wp2
  go_step3
  go_wp2_with (go_at_call 13; refine K.out.mono ?_; rintro e w1 ⟨A1, c1, rfl, h1, b1⟩; rw [HLl.out] at h1 ⊢; have H1 := Lib.hid (seen_ownE h1); have B1 := Lib.hid b1; clear h1 b1)
  go_loopw [5, 11] (fun sv iv wr => ∃ (i : Nat) (A' : Option Addr) (c' : Nat), i ≤ n ∧ i ≤ copies.toNat ∧ iv = .int .i64 (i : Int) ∧ sv = .slice A' i c' ∧ wr.ownsRow w1.heap.size 3 1 (.slice A' i c') i (numsV (idsE (L.take i))) ∧ Below w1.heap.size w1 wr) (fun _ iv _ => n - (intOf iv).toNat)
  case atStart => exact ⟨0, none, 0, Nat.zero_le _, Nat.zero_le _, rfl, rfl, World.ownsRow_nil _ _ _ _, Below.refl _ _⟩
  case round =>
    obtain ⟨i, A', c', hin, hic, rfl, rfl, ho, hb⟩ := hrel
    have hlen : (idsE (L.take i)).length = i := by rw [idsE_length, List.length_take, HLl.out]; omega
    have Hlen := Lib.hid hlen
    clear hlen
    by_cases hi : i < n
    · obtain ⟨x, hx⟩ : ∃ x, L[i]? = some x := ⟨_, List.getElem?_eq_getElem (by have := HLl.out; omega)⟩
      obtain ⟨g, o, rfl, c0, c1⟩ := (H1.out.below hb).ent hx
      have i0 : (0 : Int) ≤ (i : Int) := by omega
      have i1 : (i : Int) < (n : Int) := by omega
      have Hx := Lib.hid hx
      clear hx
      obtain ⟨x1, x2⟩ := x
      simp only at c0 c1
      obtain ⟨W, hW⟩ : ∃ W, wr.alloc (.cells #[.int .i64 x1, .int .i64 x2] 31) = W := ⟨_, rfl⟩
      have hbW : Below wr.heap.size wr W := by rw [← hW]; exact (Below.refl _ _).alloc (Nat.le_refl _) _
      have f0 : W.cell? ⟨wr.heap.size, 0, none⟩ = some (.int .i64 x1) := by rw [← hW]; exact (new_two _ _ _ _).1
      by_cases hc : (i : Int) < copies
      · obtain ⟨Wb, hWb⟩ : ∃ Wb, W.alloc (.cells #[.int .i64 x1] 3) = Wb := ⟨_, rfl⟩
        have hbb : Below wr.heap.size wr Wb := by rw [← hWb]; exact hbW.trans (((Below.refl _ _).alloc (Nat.le_refl _) _).mono hbW.size)
        have hsb : Seen Wb (some ⟨W.heap.size, 0, none⟩) [.int .i64 x1] := by rw [← hWb]; exact Seen.of_cells (heap_alloc_new W _)
        have Ho := Lib.hid (own_belowM ho hbb); have Hb := Lib.hid (hb.trans (hbb.mono hb.size)); have Hsb := Lib.hid hsb
        clear ho hb hbW hbb hsb
        have hi9 : i ≤ 100000 := by omega
        go_wp2_with (at_builtin; refine wpList_app2 rfl (.tmp 20) (.tmp 23) _ rfl 3 _ 8 Try.underlying26 int_info rfl w1.heap.size A' i c' (numsV (idsE (L.take i))) rfl Ho.out (some ⟨W.heap.size, 0, none⟩) 1 1 [.int .i64 x1] rfl rfl Hsb.out (fun u hu => by simp at hu; subst hu; rfl) (by unfold maxLen; omega) (by omega) Hb.out.size ?_; intro A4 c4 w4 hown4 hg4 hbk4; have Hown4 := Lib.hid hown4; have Hg4 := Lib.hid hg4; clear hown4 hg4 hbk4)
        go_roundw
        case rel =>
          have tg : Turned (fun k => (Value.slice A' i c').ownBlock = some k) Wb w4 := Turned.of_grown Hg4.out fun k e => e
          refine ⟨i + 1, A4, c4, by omega, by omega, by go_num, rfl, ?_, Hb.out.trans (tg.below (fun k e => (Ho.out.lt k e).1) Hb.out.size)⟩
          rw [idsE_snoc Hx.out, numsV_append]
          exact Hown4.out
        case measure => simp [intOf]; omega
      · have Ho := Lib.hid (own_belowM ho hbW); have Hb := Lib.hid (hb.trans (hbW.mono hb.size))
        have Hty := Lib.hid (show L.take copies.toNat = L.take i by rw [show copies.toNat = i by omega])
        clear ho hb hbW
        go_wp2
        go_ret
        exact ⟨A', c', by rw [Hty.out, Hlen.out]; rfl, by rw [Hty.out, Hlen.out]; exact own_baseM Ho.out B1.out.size, B1.out.trans (Hb.out.mono B1.out.size)⟩
    · obtain rfl : i = n := by omega
      have i1 : ¬ (i : Int) < (i : Int) := by omega
      have hty : L.take copies.toNat = L.take i := by rw [List.take_of_length_le (by rw [HLl.out]; exact hic), List.take_of_length_le (by rw [HLl.out]; exact Nat.le_refl _)]
      have Ho := Lib.hid ho; have Hb := Lib.hid hb; have Hty := Lib.hid hty
      clear ho hb hty
      go_wp2
      go_ret
      exact ⟨A', c', by rw [Hty.out, Hlen.out]; rfl, by rw [Hty.out, Hlen.out]; exact own_baseM Ho.out B1.out.size, B1.out.trans (Hb.out.mono B1.out.size)⟩
end Go.Proofs.Ytfigohlgckandaa
