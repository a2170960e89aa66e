/-
  RlogMatch: logs that are filled from one leader's, by any pieces of it, have the same entries up to where both end (of up to 20 entries, 30 pieces); it holds for every input, and the arguments stay as they were. No condition.
-/
import Derived.Test.YtigjkmlhpefafaaRlgTwo
import Derived.Test.YtigjkmlhpefafaaLaw
import Derived.Test.YtigjkmlhpefafaaRows
import Derived.Test.YtigjkmlhpefafaaChecked
namespace Go.Proofs.Ytigjkmlhpefafaa.RlogMatch
open Go.ChangeShapes Go.WideShapes Go.ChangeAt Go.RowKit
set_option linter.unusedVariables false

attribute [local go_sem ↓] ldEnt_eq
set_option maxRecDepth 100000 in
set_option maxHeartbeats 2000000 in
theorem walkIn (A C D : Option Addr) (n na nb c ca cb : Nat) (bs cs es : List UInt8) (w : World) (hn : bs.length = n) (ha : cs.length = na) (hb : es.length = nb) (hs : Seen w A (bytesV bs)) (hsa : Seen w C (bytesV cs)) (hsb : Seen w D (bytesV es)) (h1 : n ≤ 20) (h2 : na ≤ 30) (h3 : nb ≤ 30) :
    Calls Try.prog 3 #[.slice A n c, .slice C na ca, .slice D nb cb] w fun e w' => e = .returned (.bool true) ∧ Below w.heap.size w w' := by
  have Hn := Lib.hid hn; have Hna := Lib.hid ha; have Hnb := Lib.hid hb; have Hs := Lib.hid hs; have Hsa := Lib.hid hsa; have Hsb := Lib.hid hsb
  clear hn ha hb hs hsa hsb
  have f1 : ¬ (n : Int) > 20 := by omega
  have f2 : ¬ (na : Int) > 30 := by omega
  have f3 : ¬ (nb : Int) > 30 := by omega
  obtain ⟨B, hB⟩ : ∃ B, w.heap.size = B := ⟨_, rfl⟩
  go_enter Try.func3, Try.ntmps3
  go_wp2_with fail
  refine (New_yes 0 0 w (by omega) (by omega)).mono ?_
  rintro en w1 ⟨rfl, l1, b1, z1⟩
  go_wp2_with fail
  refine (New_yes 0 0 w1 (by omega) (by omega)).mono ?_
  rintro en w2 ⟨rfl, x2, b2, z2⟩
  go_wp2_with fail
  refine (New_yes 0 0 w2 (by omega) (by omega)).mono ?_
  rintro en w3 ⟨rfl, y3, b3, z3⟩
  have b13 : Below w1.heap.size w1 w3 := b2.trans (b3.mono (Nat.le_of_lt z2))
  have BW := Lib.hid (b1.trans (b13.mono (Nat.le_of_lt z1)))
  have LL := Lib.hid (l1.below b13)
  have XX := Lib.hid ((x2.below b3).base (B := w.heap.size) (Nat.le_of_lt z1))
  have YY := Lib.hid (y3.base (B := w.heap.size) (by omega))
  obtain ⟨g1, hg1⟩ : ∃ g1, w1.heap.size = g1 := ⟨_, rfl⟩
  obtain ⟨g2, hg2⟩ : ∃ g2, w2.heap.size = g2 := ⟨_, rfl⟩
  rw [hg1] at XX
  rw [hg2] at YY
  have G1 := Lib.hid hg1; have G2 := Lib.hid hg2; have Z1 := Lib.hid z1; have Z2 := Lib.hid z2; have Z3 := Lib.hid z3
  rw [hg1, hg2]
  clear l1 x2 y3 b1 b2 b3 b13 hg1 hg2 z1 z2 z3
  rw [hB] at LL XX YY
  have HB := Lib.hid hB
  clear hB
  have hb0 := BW.out.size
  rw [HB.out] at hb0
  have g12 : g1 < g2 := by rw [← G1.out, ← G2.out]; exact Z2.out
  have gb1 : B < g1 := by rw [← G1.out, ← HB.out]; exact Z1.out
  have g23 : g2 < w3.heap.size := by rw [← G2.out]; exact Z3.out
  have BB := Lib.hid (show ∀ wr, Below B w3 wr → Below w.heap.size w wr from fun wr h => BW.out.trans (by rw [HB.out]; exact h))
  go_upto_region 8 with fail
  go_loopw [10, 11] (fun tv iv wr => ∃ (i : Nat) (t : Int) (L : List Dat), i ≤ n ∧ iv = .int .i64 (i : Int) ∧ tv = .int .i64 t ∧ 0 ≤ t ∧ t ≤ 1 + i ∧ L.length = i ∧ GrewL B B none 0 0 L w3 wr) (fun _ iv _ => n - (intOf iv).toNat)
  case atStart => exact ⟨0, 1, [], by omega, rfl, rfl, by omega, by omega, rfl, GrewL.of_below LL.out (Below.refl _ _)⟩
  case round =>
    obtain ⟨i, t, L, hi, rfl, rfl, ht0, ht1, hL, hg⟩ := hrel
    have Hg := Lib.hid hg; have HL := Lib.hid hL
    clear hg hL
    have i0 : (0 : Int) ≤ (i : Int) := by omega
    by_cases hlt : i < n
    · have bw := BB.out wr (Hg.out.below LL.out hb0)
      obtain ⟨gA, o, b, rfl, -, -, hcell⟩ := (Hs.out.below bw).byteAt (j := i) (by have := Hn.out; omega)
      obtain ⟨z, hz⟩ : ∃ z, b.toNat = z := ⟨_, rfl⟩
      have hzb : z < 256 := by rw [← hz]; exact b.toNat_lt
      rw [hz] at hcell
      have z0 : (0 : Int) ≤ (z : Int) := by omega
      have i1 : (i : Int) < (n : Int) := by omega
      obtain ⟨qw, hlw, hqw, tw⟩ := Hg.out
      obtain ⟨W, hW, hbW, hsW⟩ := byte_box wr (i := i) (by omega)
      obtain ⟨t', ht'⟩ : ∃ t', t + (z : Int) % 2 = t' := ⟨_, rfl⟩
      have ht2 : 0 ≤ t' ∧ t' ≤ 2 + i := by omega
      have hBw : B ≤ W.heap.size := by have := tw.size; have := hbW.size; omega
      have KP := Lib.hid (Push_any B B i qw 0 0 L t' 0 (some ⟨wr.heap.size, 0, none⟩) 1 1 [UInt8.ofNat i] W (hlw.below hbW) HL.out (by omega) (by omega) (by omega) rfl (by omega) hsW hBw)
      have Hqw := Lib.hid hqw; have Tw := Lib.hid tw; have HbW := Lib.hid hbW; have Hlw := Lib.hid hlw
      clear bw hz hlw hqw tw hbW hsW hBw
      go_wp2_with fail
      refine KP.out.mono ?_
      rintro en w4 ⟨rfl, h4⟩
      have Hg4 := Lib.hid (show GrewL B B none 0 0 (L ++ [(t', 0, [UInt8.ofNat i])]) w3 w4 from GrewL.step Hqw.out Tw.out (GrewL.step (fun k e => .inl e) (Turned.of_below HbW.out) h4))
      clear h4
      go_wp2
      go_roundw
      case rel => exact ⟨i + 1, t', L ++ [(t', 0, [UInt8.ofNat i])], by omega, by go_num, rfl, ht2.1, by omega, by rw [List.length_append, HL.out]; rfl, Hg4.out⟩
      case measure => simp [intOf]; omega
    · obtain rfl : i = n := by omega
      obtain ⟨q0, hl, hq0, t0⟩ := Hg.out
      have hx := Hg.out.beside LL.out XX.out (Apart.none (by omega))
      have hy := Hg.out.beside LL.out YY.out (Apart.none (by omega))
      have a01 : Apart B q0 g1 none := (Apart.grown (Apart.none (show g1 ≠ B by omega)) XX.out hq0).symm
      have a02 : Apart B q0 g2 none := (Apart.grown (Apart.none (show g2 ≠ B by omega)) YY.out hq0).symm
      have bw := BB.out wr (Hg.out.below LL.out hb0)
      have hbr : B ≤ wr.heap.size := by have := t0.size; omega
      have hg2r : g2 < wr.heap.size := by have := t0.size; omega
      have KP := Lib.hid (pieces_any B B g1 i na q0 none L 0 C ca cs wr hl hx (by omega) HL.out (by omega) Hna.out (by omega) (fun w' ht => Hsa.out.below (bw.trans (by rw [HB.out]; exact ht.below (fun k e => by rcases e with rfl | e; (omega); (cases e)) hbr))) a01 hbr)
      have Hl := Lib.hid hl; have Hx := Lib.hid hx; have Hy := Lib.hid hy; have A01 := Lib.hid a01; have A02 := Lib.hid a02; have Bw := Lib.hid bw; have Hbr := Lib.hid hbr
      clear hl hq0 t0 hx hy a01 a02 bw hbr
      go_wp2_with fail
      refine KP.out.mono ?_
      rintro en w4 ⟨rfl, mx, hmx, h4⟩
      have Hg4 := Lib.hid h4; have Hmx := Lib.hid hmx
      obtain ⟨q1, hx4, hq1, t4⟩ := h4
      have hl4 := Hg4.out.beside Hx.out Hl.out A01.out
      have hy4 := Hg4.out.beside Hx.out Hy.out (Apart.none (show g2 ≠ g1 by omega))
      have b4 : Below B wr w4 := Hg4.out.below Hx.out Hbr.out
      have bw4 : Below w.heap.size w w4 := Bw.out.trans (by rw [HB.out]; exact b4)
      have a12 : Apart g1 q1 g2 none := (Apart.grown (Apart.none (show g2 ≠ g1 by omega)) Hy.out hq1).symm
      have hb4 : B ≤ w4.heap.size := by have := b4.size; have := Hbr.out; omega
      have KQ := Lib.hid (pieces_any B B g2 i nb q0 none L 0 D cb es w4 hl4 hy4 (by omega) HL.out (by omega) Hnb.out (by omega) (fun w' ht => Hsb.out.below (bw4.trans (by rw [HB.out]; exact ht.below (fun k e => by rcases e with rfl | e; (omega); (cases e)) hb4))) A02.out hb4)
      have Hl4 := Lib.hid hl4; have Hx4 := Lib.hid hx4; have Hy4 := Lib.hid hy4; have Bw4 := Lib.hid bw4; have A12 := Lib.hid a12; have Hb4 := Lib.hid hb4
      clear hq1 t4 hl4 hx4 hy4 b4 bw4 a12 hb4 KP hmx
      go_wp2_with fail
      refine KQ.out.mono ?_
      rintro en w5 ⟨rfl, my, hmy, h5⟩
      have Hmy := Lib.hid hmy
      have hl5 := h5.beside Hy4.out Hl4.out A02.out
      have hx5 := h5.beside Hy4.out Hx4.out A12.out
      have bw5 : Below w.heap.size w w5 := Bw4.out.trans (by rw [HB.out]; exact h5.below Hy4.out Hb4.out)
      obtain ⟨q2, hy5, -, -⟩ := h5
      have lx : (L.take mx).length = mx := by rw [List.length_take]; have := Hmx.out; omega
      have ly : (L.take my).length = my := by rw [List.length_take]; have := Hmy.out; omega
      have hmi : mx ≤ i := by have := Hmx.out; have := HL.out; omega
      have hyi : my ≤ i := by have := Hmy.out; have := HL.out; omega
      have K1 := fun w' (b : Below w5.heap.size w5 w') => Last_D B g1 mx q1 0 0 (L.take mx) w' (hx5.below b) lx (by omega) (by omega) (by omega)
      have K2 := fun w' (b : Below w5.heap.size w5 w') => Last_D B g2 my q2 0 0 (L.take my) w' (hy5.below b) ly (by omega) (by omega) (by omega)
      have K3 := fun w' (b : Below w5.heap.size w5 w') => Last_D B B i q0 0 0 L w' (hl5.below b) HL.out (by omega) (by omega) (by omega)
      rw [Int.zero_add] at K1 K2 K3
      have K1 := Lib.hid K1; have K2 := Lib.hid K2; have K3 := Lib.hid K3
      have Hx5 := Lib.hid hx5; have Hy5 := Lib.hid hy5; have Bw5 := Lib.hid bw5; have Lx := Lib.hid lx; have Ly := Lib.hid ly
      clear hl5 hx5 hy5 bw5 lx ly KQ hmy
      go_wp2_with fail
      refine (K1.out w5 (Below.refl _ _)).mono ?_
      rintro en w6 ⟨rfl, b6⟩
      have B6 := Lib.hid b6
      clear b6
      go_wp2_with fail
      refine (K2.out w6 B6.out).mono ?_
      rintro en w7 ⟨rfl, b7⟩
      have B7 := Lib.hid (B6.out.trans (b7.mono B6.out.size))
      clear b7 B6
      go_upto_region 17 with fail
      go_loopw [16] (fun iv wr => ∃ j : Nat, iv = .int .i64 ((j : Int) + 1) ∧ j ≤ mx ∧ j ≤ my ∧ Below w5.heap.size w5 wr) (fun iv _ => mx + 1 - (intOf iv).toNat)
      case atStart => exact ⟨0, rfl, by omega, by omega, B7.out⟩
      case round =>
        obtain ⟨j, rfl, hjx, hjy, hb⟩ := hrel
        have Hb := Lib.hid hb
        clear hb
        have j0 : (0 : Int) ≤ (j : Int) := by omega
        by_cases hx : j < mx
        · have e1 : (j : Int) + 1 ≤ (mx : Int) := by omega
          by_cases hy : j < my
          · have e2 : (j : Int) + 1 ≤ (my : Int) := by omega
            obtain ⟨dt, dk, db, hd⟩ : ∃ (dt dk : Int) (db : List UInt8), L[j]? = some (dt, dk, db) := ⟨_, _, _, List.getElem?_eq_getElem (by have := HL.out; omega)⟩
            have KX := Lib.hid (Get_D B g1 mx j q1 0 0 ((j : Int) + 1) (L.take mx) (dt, dk, db) wr (Hx5.out.below Hb.out) Lx.out (by omega) (by omega) (by rw [List.getElem?_take, if_pos hx]; exact hd) (by omega) (by omega))
            have KY := Lib.hid (fun w' (b : Below w5.heap.size w5 w') => Get_D B g2 my j q2 0 0 ((j : Int) + 1) (L.take my) (dt, dk, db) w' (Hy5.out.below b) Ly.out (by omega) (by omega) (by rw [List.getElem?_take, if_pos hy]; exact hd) (by omega) (by omega))
            clear hd
            go_wp2_with fail
            refine KX.out.mono ?_
            rintro en w8 ⟨A8, c8, n8, rfl, ok8, b8⟩
            simp only at ok8 ⊢
            obtain ⟨W8, hW8, bW8, hx8⟩ := ent_box w8 ⟨dt, dk, A8, n8, c8, db⟩
            simp only at hW8 hx8
            have BW8 := Lib.hid ((Hb.out.trans (b8.mono Hb.out.size)).trans (bW8.mono (Nat.le_trans Hb.out.size b8.size)))
            have Ok8 := Lib.hid (ok8.below bW8); have Hx8 := Lib.hid hx8
            clear ok8 b8 bW8 hx8
            go_wp2_with fail
            refine (KY.out W8 BW8.out).mono ?_
            rintro en w9 ⟨A9, c9, n9, rfl, ok9, b9⟩
            simp only at ok9 ⊢
            obtain ⟨W9, hW9, bW9, hx9⟩ := ent_box w9 ⟨dt, dk, A9, n9, c9, db⟩
            simp only at hW9 hx9
            have b89 : Below W8.heap.size W8 W9 := b9.trans (bW9.mono b9.size)
            have hx89 := (b89.block w8.heap.size (Array.getElem?_eq_some_iff.1 Hx8.out).1).trans Hx8.out
            have hld8 := ldEnt_run (e := ⟨dt, dk, A8, n8, c8, db⟩) (row_cell hx89 0) (row_cell hx89 1) (row_cell hx89 2)
            simp only at hld8
            obtain ⟨W10, hW10, bW10, hx10⟩ := ent_box W9 ⟨dt, dk, A8, n8, c8, db⟩
            simp only at hW10 hx10
            have hx9' := (bW10.block w9.heap.size (Array.getElem?_eq_some_iff.1 hx9).1).trans hx9
            have hld9 := ldEnt_run (e := ⟨dt, dk, A9, n9, c9, db⟩) (row_cell hx9' 0) (row_cell hx9' 1) (row_cell hx9' 2)
            simp only at hld9
            obtain ⟨W11, hW11, bW11, hx11⟩ := ent_box W10 ⟨dt, dk, A9, n9, c9, db⟩
            simp only at hW11 hx11
            have b811 : Below W8.heap.size W8 W11 := b89.trans ((bW10.trans (bW11.mono bW10.size)).mono b89.size)
            have ok8' := Ok8.out.below b811
            have ok9' := ok9.below (bW9.trans ((bW10.trans (bW11.mono bW10.size)).mono bW9.size))
            have e8 : EntsAt W11 (some ⟨W9.heap.size, 0, none⟩) [⟨dt, dk, A8, n8, c8, db⟩] := ⟨(Seen.of_cells hx10).below bW11, fun x hx => by rw [List.mem_singleton.1 hx]; exact ok8'⟩
            have e9 : EntsAt W11 (some ⟨W10.heap.size, 0, none⟩) [⟨dt, dk, A9, n9, c9, db⟩] := ⟨Seen.of_cells hx11, fun x hx => by rw [List.mem_singleton.1 hx]; exact ok9'⟩
            have KS := Lib.hid (SameE_yes (some ⟨W9.heap.size, 0, none⟩) (some ⟨W10.heap.size, 0, none⟩) 1 1 1 [⟨dt, dk, A8, n8, c8, db⟩] [⟨dt, dk, A9, n9, c9, db⟩] W11 rfl e8 e9 rfl (by omega))
            have BW11 := Lib.hid (BW8.out.trans (b811.mono BW8.out.size))
            clear b9 bW9 hx9 b89 hx89 bW10 hx10 hx9' bW11 hx11 b811 ok8' ok9' e8 e9 ok9
            go_wp2_with (go_at_call 11; refine KS.out.mono ?_; rintro en w12 ⟨rfl, b12⟩; have B12 := Lib.hid (BW11.out.trans (b12.mono BW11.out.size)); clear b12)
            go_roundw
            case rel => exact ⟨j + 1, by go_num, by omega, by omega, B12.out⟩
            case measure => simp [intOf]; omega
          · have e2 : ¬ (j : Int) + 1 ≤ (my : Int) := by omega
            clear hjx hjy hx hy
            go_wp2_with fail
            refine (K3.out wr Hb.out).mono ?_
            rintro en w8 ⟨rfl, b8⟩
            have B8 := Lib.hid (Bw5.out.trans ((Hb.out.trans (b8.mono Hb.out.size)).mono Bw5.out.size))
            clear b8
            have m1 : (mx : Int) ≤ (i : Int) := by omega
            have m2 : (my : Int) ≤ (i : Int) := by omega
            go_wp2_with (go_at_call 5; refine (awake_any w8).mono ?_; rintro en w9 ⟨rfl, b9⟩; have B9 := Lib.hid (B8.out.trans (b9.mono B8.out.size)); clear b9)
            go_ret
            exact ⟨rfl, B9.out⟩
        · have e1 : ¬ (j : Int) + 1 ≤ (mx : Int) := by omega
          clear hjx hjy hx
          go_wp2_with fail
          refine (K3.out wr Hb.out).mono ?_
          rintro en w8 ⟨rfl, b8⟩
          have B8 := Lib.hid (Bw5.out.trans ((Hb.out.trans (b8.mono Hb.out.size)).mono Bw5.out.size))
          clear b8
          have m1 : (mx : Int) ≤ (i : Int) := by omega
          have m2 : (my : Int) ≤ (i : Int) := by omega
          go_wp2_with (go_at_call 5; refine (awake_any w8).mono ?_; rintro en w9 ⟨rfl, b9⟩; have B9 := Lib.hid (B8.out.trans (b9.mono B8.out.size)); clear b9)
          go_ret
          exact ⟨rfl, B9.out⟩

theorem walk (A : Option Addr) (n c : Nat) (bs : List UInt8) (C : Option Addr) (na ca : Nat) (cs : List UInt8) (D : Option Addr) (nb cb : Nat) (es : List UInt8) (w : World) (hn : bs.length = n) (hnc : n ≤ c) (hcm : c ≤ maxLen) (hs : Seen w A (bytesV bs)) (ha : cs.length = na) (hac : na ≤ ca) (ham : ca ≤ maxLen) (hsa : Seen w C (bytesV cs)) (hb : es.length = nb) (hbc : nb ≤ cb) (hbm : cb ≤ maxLen) (hsb : Seen w D (bytesV es)) :
    Calls Try.prog 3 #[.slice A n c, .slice C na ca, .slice D nb cb] w fun e w' => e = .returned (.bool true) ∧ Below w.heap.size w w' := by
  by_cases h1 : n ≤ 20
  · by_cases h2 : na ≤ 30
    · by_cases h3 : nb ≤ 30
      · exact walkIn A C D n na nb c ca cb bs cs es w hn ha hb hs hsa hsb h1 h2 h3
      · have e1 : ¬ (n : Int) > 20 := by omega
        have e2 : ¬ (na : Int) > 30 := by omega
        have e3 : (nb : Int) > 30 := by omega
        clear hn hnc hcm ha hac ham hb hbc hbm hs hsa hsb
        go_enter Try.func3, Try.ntmps3
        go_wp2_with (go_at_call 5; refine (awake_any w).mono ?_; rintro e w4 ⟨rfl, hb4⟩; have B4 := Lib.hid hb4; clear hb4)
        go_ret
        exact ⟨rfl, B4.out⟩
    · have e1 : ¬ (n : Int) > 20 := by omega
      have e2 : (na : Int) > 30 := by omega
      clear hn hnc hcm ha hac ham hb hbc hbm hs hsa hsb
      go_enter Try.func3, Try.ntmps3
      go_wp2_with (go_at_call 5; refine (awake_any w).mono ?_; rintro e w4 ⟨rfl, hb4⟩; have B4 := Lib.hid hb4; clear hb4)
      go_ret
      exact ⟨rfl, B4.out⟩
  · have e1 : (n : Int) > 20 := by omega
    clear hn hnc hcm ha hac ham hb hbc hbm hs hsa hsb
    go_enter Try.func3, Try.ntmps3
    go_wp2_with (go_at_call 5; refine (awake_any w).mono ?_; rintro e w4 ⟨rfl, hb4⟩; have B4 := Lib.hid hb4; clear hb4)
    go_ret
    exact ⟨rfl, B4.out⟩

/-! ### THE ROW -/
theorem own : ownKnob Try.prog.godebug = none := by kernel_rfl

set_option maxRecDepth 100000 in
theorem lifted (os : Os) (started : os.Started) (H : Type) (enc : TypeId × Value → H) :
    ReturnsInHanded {} Try.checked os 3 .any (Rows.rlogMatchSpec.pre6 enc Try.prog Try.f3 Rows.rlogMatchRow.domain false) (Rows.rlogMatchSpec.post enc Try.prog Try.f3 false true false false) := by
  refine returnsInHanded_of_change (C := Try.checked) own started (by kernel_rfl) Try.func3
    (ChangeSpec.witness6 (enc := enc) (C := Try.checked) false ⟨#[], #[.slice none 0 0, .slice none 0 0, .slice none 0 0], []⟩ 8 (by kernel_rfl) (by kernel_rfl) (by kernel_rfl) (by kernel_rfl)) ?_
  intro W base args ds gs before hval0 hW hcnd _
  have hval : ∀ (j : Nat) t v, Try.f3.params[j]? = some t → args[j]? = some v → Value.okWide Try.prog W .any base t v := hval0
  have hW' := hW
  obtain ⟨p, q, hA0, hV, rfl, hfz, hnd⟩ := hW
  have hA : DataW.TrodAll enc Try.prog W 0 (fun _ => true) true Try.f3.params.toList args.toList ds p := hA0
  rw [Try.params3] at hA hval
  obtain ⟨v0, vs0, d0, ds0, p0, q0, hargs, rfl, rfl, h0, r0⟩ := trodAll_cons hA
  obtain ⟨v1, vs1, d1, ds1, p1, q1, rfl, rfl, rfl, h1, r1⟩ := trodAll_cons r0
  obtain ⟨v2, vs2, d2, ds2, p2, q2, rfl, rfl, rfl, h2, r2⟩ := trodAll_cons r1
  obtain ⟨rfl, rfl, rfl⟩ := trodAll_nil r2
  obtain rfl : args = #[v0, v1, v2] := by cases args; simp_all
  obtain ⟨rfl, rfl⟩ := trodVars_none hV
  obtain ⟨A0, n0, c0, bs0, rfl, hn0, hnc0, hcm0, hsee0⟩ := open_bytes Try.underlying22 Try.underlying5 (by kernel_rfl) (hval 0 22 v0 rfl rfl) h0
  obtain ⟨A1, n1, c1, bs1, rfl, hn1, hnc1, hcm1, hsee1⟩ := open_bytes Try.underlying22 Try.underlying5 (by kernel_rfl) (hval 1 22 v1 rfl rfl) h1
  obtain ⟨A2, n2, c2, bs2, rfl, hn2, hnc2, hcm2, hsee2⟩ := open_bytes Try.underlying22 Try.underlying5 (by kernel_rfl) (hval 2 22 v2 rfl rfl) h2
  refine (walk A0 n0 c0 bs0 A1 n1 c1 bs1 A2 n2 c2 bs2 W hn0 hnc0 hcm0 hsee0 hn1 hnc1 hcm1 hsee1 hn2 hnc2 hcm2 hsee2).mono fun e W' ⟨he, hg⟩ => ?_
  subst he
  exact ⟨_, rfl, law_post hW' rfl (by kernel_rfl) (by kernel_rfl) (by kernel_rfl) Try.underlying4 rfl rfl rfl hg⟩

theorem over : Rows.rlogMatchRow.holds Try.pinned (OpenSpec.ofChange Rows.rlogMatchSpec) :=
  OpenClaim.holds_of_wide 3 Try.f3 rfl rfl rfl rfl rfl rfl rfl ⟨rfl, rfl, rfl, rfl, rfl⟩ rfl rfl rfl rfl rfl (by kernel_rfl) Try.func3 (by kernel_rfl)
    (of_decide_eq_true (by kernel_rfl)) (by unfold Func.isWrapper; first | (rw [if_pos (by decide +kernel)]; kernel_rfl) | (rw [if_neg (by decide +kernel)]; exact ⟨rfl, rfl⟩))
    (fun os started H enc _ => lifted os started H enc)

theorem proved : Rows.RlogMatchSaid :=
  over
#print axioms proved

end Go.Proofs.Ytigjkmlhpefafaa.RlogMatch
