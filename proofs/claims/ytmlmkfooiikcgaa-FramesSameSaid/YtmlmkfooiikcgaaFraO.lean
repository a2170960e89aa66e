/-
  Contract of dotterelref07's Read.
-/
import Derived.Test.YtmlmkfooiikcgaaFraN
namespace Go.Proofs.Ytmlmkfooiikcgaa
open Go.ChangeShapes Go.WideShapes Go.ChangeAt Go.RowKit
set_option linter.unusedVariables false
attribute [local go_sem ↓] ldMsg_eq

set_option maxRecDepth 100000 in
set_option maxHeartbeats 2000000 in
theorem RRead_whole (A : Option Addr) (n c : Nat) (bs : List UInt8) (w : World) (hn : bs.length = n) (hl : n ≤ 900000) (hc : n ≤ c) (hcm : c ≤ maxLen) (h : Seen w A (bytesV bs)) (ho : openB bs = true) :
    Calls Try.prog 17 #[.slice A n c] w (ReadRet (readF (bs.take (n - 4))).1 (readF (bs.take (n - 4))).2 w) := by
  obtain ⟨g, hg⟩ : ∃ g, w.heap.size = g := ⟨_, rfl⟩
  obtain ⟨w1, hw1, hh1, hb1⟩ : ∃ w1, w.alloc (.cells #[.int .i64 0, .slice none 0 0, .slice none 0 0, .slice none 0 0] 26) = w1 ∧ w1.heap[g]? = some (.cells #[.int .i64 0, .slice none 0 0, .slice none 0 0, .slice none 0 0] 26 (0, 0)) ∧ Below w.heap.size w w1 :=
    ⟨_, rfl, by rw [← hg]; exact heap_alloc_new _ _, (Below.refl _ _).alloc (Nat.le_refl _) _⟩
  have hop := ROpen7_yes A n c bs w1 hn hl hc hcm (h.below hb1) ho
  have hin : Seen w A (bytesV (bs.take (n - 4))) := seen_take (n - 4) h
  obtain ⟨fs, hfs⟩ : ∃ fs, bs.take (n - 4) = fs := ⟨_, rfl⟩
  rw [hfs] at hin ⊢
  have L0 : LeftAt A fs A (n - 4) c fs := ⟨by rw [← hfs, List.length_take]; omega, by omega, hcm, by omega, fun _ h => h⟩
  obtain ⟨M, eM, hM⟩ := pair_of (readF fs)
  rw [hM]
  show Calls _ _ _ _ (ReadRet M eM w)
  obtain ⟨k, l1, e1, hK⟩ := triple_of (rK fs)
  obtain ⟨q1, hq1⟩ : ∃ x, l1.length = x := ⟨_, rfl⟩
  have hK' : rdNum fs 0 40 = (k, l1, e1) := hK
  have HM := Lib.hid hM; have HK := Lib.hid hK; have HK' := Lib.hid hK'; have Hq1 := Lib.hid hq1; have HL0 := Lib.hid L0; have Hin := Lib.hid hin
  have Hop := Lib.hid hop; have Hh1 := Lib.hid hh1; have Hb1 := Lib.hid hb1; have Hg := Lib.hid hg
  clear hop hh1 hb1 h hcm ho hn hfs hM hK hK' hq1 L0 hin
  go_enter Try.func17, Try.ntmps17
  go_wp2_with fail
  refine Hop.out.mono ?_
  rintro e w2 ⟨rfl, hb2⟩
  have Hh2 := Lib.hid (row_below Hh1.out hb2); have Hb2 := Lib.hid (Hb1.out.trans (hb2.mono Hb1.out.size))
  clear hb2 hw1
  go_wp2_with fail
  refine (Take_l HL0.out 40 w2 (by omega) (by omega) (Hin.out.below Hb2.out) HK'.out Hq1.out).mono ?_
  rintro e w3 ⟨A1, c1, A2, c2, rfl, hl1, hb3⟩
  obtain ⟨q, hq⟩ : ∃ q, w3.heap.size = q := ⟨_, rfl⟩
  have Hh3 := Lib.hid (row_below Hh2.out hb3); have Hb3 := Lib.hid (Hb2.out.trans (hb3.mono Hb2.out.size)); have HL1 := Lib.hid hl1
  have hgq : g < q := by have := (Array.getElem?_eq_some_iff.1 Hh3.out).1; omega
  clear hb3 hl1
  have es : ∀ c', (w3.alloc (.cells #[.int .i64 0, .slice none 0 0, .int .i64 0, .slice none 0 0] 62)).setRow q c' = w3.alloc (.cells c' 62) := fun c' => by
    rw [← hq]; exact World.setRow_alloc_new _ _ _ _
  obtain ⟨w4, hw4⟩ : ∃ w4, w3.alloc (.cells #[.int .i64 (k : Int), .slice A1 0 c1, .int .i64 (e1 : Int), .slice A2 q1 c2] 62) = w4 := ⟨_, rfl⟩
  have hq4 : w4.heap.size = q + 1 := by rw [← hw4]; simp [hq]
  have hg4 : w4.heap[q]? = some (.cells #[.int .i64 (k : Int), .slice A1 0 c1, .int .i64 (e1 : Int), .slice A2 q1 c2] 62 (0, 0)) := by rw [← hw4, ← hq]; exact heap_alloc_new _ _
  have hb4 : Below w3.heap.size w3 w4 := by rw [← hw4]; exact (Below.refl _ _).alloc (Nat.le_refl _) _
  have x0 : w4.cell? ⟨q, 0, none⟩ = some (.int .i64 (k : Int)) := row_cell hg4 0
  have es2 : ∀ c', (w4.alloc (.cells #[.int .i64 0, .slice none 0 0, .slice none 0 0, .slice none 0 0] 26)).setRow (q + 1) c' = w4.alloc (.cells c' 26) := fun c' => by
    rw [← hq4]; exact World.setRow_alloc_new _ _ _ _
  obtain ⟨w5, hw5⟩ : ∃ w5, w4.alloc (.cells #[.int .i64 (k : Int), .slice none 0 0, .slice none 0 0, .slice none 0 0] 26) = w5 := ⟨_, rfl⟩
  have hb5 : Below w4.heap.size w4 w5 := by rw [← hw5]; exact (Below.refl _ _).alloc (Nat.le_refl _) _
  have st : RSt w g q w5 #[.int .i64 (k : Int), .slice A1 0 c1, .int .i64 (e1 : Int), .slice A2 q1 c2] #[.int .i64 (k : Int), .slice none 0 0, .slice none 0 0, .slice none 0 0] w5 :=
    ⟨hg, hgq, row_below (row_below Hh3.out hb4) hb5, row_below hg4 hb5, by rw [← hw5, ← hq4]; exact heap_alloc_new _ _, by rw [← hw5]; simp [hq4], (Hb3.out.trans (hb4.mono Hb3.out.size)).trans (hb5.mono (by have := Hb3.out.size; have := hb4.size; omega)), Turned.refl _ _⟩
  have St := Lib.hid st
  have hnew3 := Lib.hid (show (w3.alloc (.cells #[.int .i64 0, .slice none 0 0, .int .i64 0, .slice none 0 0] 62)).heap[q]? = some (.cells #[.int .i64 0, .slice none 0 0, .int .i64 0, .slice none 0 0] 62 (0, 0)) by rw [← hq]; exact heap_alloc_new _ _)
  have hnew4 := Lib.hid (show (w4.alloc (.cells #[.int .i64 0, .slice none 0 0, .slice none 0 0, .slice none 0 0] 26)).heap[q + 1]? = some (.cells #[.int .i64 0, .slice none 0 0, .slice none 0 0, .slice none 0 0] 26 (0, 0)) by rw [← hq4]; exact heap_alloc_new _ _)
  clear hb4 hb5 hg4 st
  have Es := Lib.hid es; have Es2 := Lib.hid es2; have Hw4 := Lib.hid hw4; have Hw5 := Lib.hid hw5
  clear es es2 hw4 hw5
  by_cases he1 : e1 = 0
  · have hd1 : ((e1 : Int) != 0) = false := by simp [he1]
    obtain ⟨cn, l2, e2, hC⟩ := triple_of (rC fs)
    have hC' : rdNum l1 0 16 = (cn, l2, e2) := by
      have h := hC
      unfold rC at h
      rw [HK.out, he1] at h
      exact h
    have hc16 : ((rdNum l1 0 16).1 : Int) ≤ 16 := rdNum_most (by omega)
    rw [hC'] at hc16
    simp only at hc16
    obtain ⟨q2, hq2⟩ : ∃ x, l2.length = x := ⟨_, rfl⟩
    have HC := Lib.hid hC; have HC' := Lib.hid hC'; have Hq2 := Lib.hid hq2
    clear hC hC' hq2 he1
    go_wp2_with (first
      | (refine wpList_store_row rfl 62 (.tmp 6) (.tmp 20) rfl q #[.int .i64 (k : Int), .slice A1 0 c1, .int .i64 (e1 : Int), .slice A2 q1 c2] rfl rfl 62 _ hnew3.out got_info rfl (by simp [Value.oneCell']) ?_; rw [Es.out, Hw4.out])
      | (refine wpList_store_row rfl 26 (.tmp 7) (.tmp 23) rfl (q + 1) #[.int .i64 (k : Int), .slice none 0 0, .slice none 0 0, .slice none 0 0] rfl rfl 26 _ hnew4.out msg_info rfl (by simp [Value.oneCell']) ?_; rw [Es2.out, Hw5.out]; obtain ⟨d0, d1, d2, d3⟩ := St.out.got4))
    refine (Take_l HL1.out 16 w5 (by omega) (by omega) (Hin.out.below St.out.bl) HC'.out Hq2.out).mono ?_
    rintro e w6 ⟨B1, b1, A3, c3, rfl, hl2, hb6⟩
    have S6 := Lib.hid (St.out.below hb6); have HL2 := Lib.hid hl2
    clear hb6 hl2 d0 d1 d2 d3 x0 hnew3 hnew4 Es Es2 Hw4 Hw5 hq hq4
    have s7 := S6.out.putGot #[.int .i64 (cn : Int), .slice B1 0 b1, .int .i64 (e2 : Int), .slice A3 q2 c3]
    obtain ⟨w7, hw7⟩ : ∃ w7, w6.setRow q #[.int .i64 (cn : Int), .slice B1 0 b1, .int .i64 (e2 : Int), .slice A3 q2 c3] = w7 := ⟨_, rfl⟩
    rw [hw7] at s7
    have S7 := Lib.hid s7.rebase; have Hw7 := Lib.hid hw7
    clear s7 hw7
    go_wp2_with (refine wpList_store_row rfl 62 (.tmp 6) (.tmp 32) rfl q #[.int .i64 (cn : Int), .slice B1 0 b1, .int .i64 (e2 : Int), .slice A3 q2 c3] rfl rfl 62 _ S6.out.got got_info rfl (by simp [Value.oneCell']) ?_; rw [Hw7.out]; obtain ⟨d0, d1, d2, d3⟩ := S7.out.got4)
    clear d0 d1 d2 d3
    go_loopw [9] (fun iv wr => ∃ (i er : Nat) (ns : List Int) (l : List UInt8) (gx : Int) (GA : Option Addr) (gn gc : Nat) (LA : Option Addr) (ln lc : Nat) (N : Option Addr) (nc : Nat),
      iv = .int .i64 (i : Int) ∧ i ≤ cn ∧ numsAt l2 e2 i = (ns, l, er) ∧ RSt w g q w7 #[.int .i64 gx, .slice GA gn gc, .int .i64 (er : Int), .slice LA ln lc] #[.int .i64 (k : Int), .slice N i nc, .slice none 0 0, .slice none 0 0] wr ∧
      (er = 0 → LeftAt A fs LA ln lc l) ∧ wr.ownsRow w7.heap.size 3 1 (.slice N i nc) i (numsV ns) ∧ NumsIn ns) (fun iv _ => cn - (intOf iv).toNat)
    case atStart => exact ⟨0, e2, [], l2, (cn : Int), B1, 0, b1, A3, q2, c3, none, 0, rfl, by omega, rfl, S7.out, fun _ => HL2.out, World.ownsRow_nil _ _ _ _, fun x hx => by cases hx⟩
    case round =>
      obtain ⟨i, er, ns, l, gx, GA, gn, gc, LA, ln, lc, N, nc, rfl, hi, hN, hst, hlf, hown, hin⟩ := hrel
      have HN := Lib.hid hN; have Sx := Lib.hid hst; have Hlf := Lib.hid hlf; have Own := Lib.hid hown; have Hni := Lib.hid hin
      clear hN hst hlf hown hin
      obtain ⟨d0, d1, d2, d3⟩ := Sx.out.got4
      have mN : wr.cell? ⟨q + 1, 1, none⟩ = some (.slice N i nc) := row_cell Sx.out.m 1
      by_cases her : er = 0
      · have hde : ((er : Int) == 0) = true := by simp [her]
        have hdn : ((er : Int) != 0) = false := by simp [her]
        by_cases hlt : i < cn
        · obtain ⟨x, l', er2, hx⟩ := triple_of (rdNum l 0 4611686018427387904)
          have hN1 : numsAt l2 e2 (i + 1) = (ns ++ [(x : Int)], l', er2) := by
            rw [numsAt, HN.out]
            simp only [her, hx]
          have hxm : ((rdNum l 0 4611686018427387904).1 : Int) ≤ 4611686018427387904 := rdNum_most (by omega)
          rw [hx] at hxm
          simp only at hxm
          obtain ⟨q8, hq8⟩ : ∃ z, l'.length = z := ⟨_, rfl⟩
          have Hx := Lib.hid hx; have HN1 := Lib.hid hN1; have Hq8 := Lib.hid hq8; have Hl := Lib.hid (Hlf.out her)
          clear hx hN1 hq8 her
          go_wp2_with fail
          refine (Take_l Hl.out 4611686018427387904 wr (by omega) (by omega) (Hin.out.below Sx.out.bl) Hx.out Hq8.out).mono ?_
          rintro e w8 ⟨G1, g1, A8, c8, rfl, hl8, hb8⟩
          have S8 := Lib.hid (Sx.out.below hb8); have HL8 := Lib.hid hl8; have Own8 := Lib.hid (own_below Own.out hb8)
          clear hb8 hl8 d0 d1 d2 d3 mN
          have s9 := S8.out.putGot #[.int .i64 (x : Int), .slice G1 0 g1, .int .i64 (er2 : Int), .slice A8 q8 c8]
          have own9 := own_setRow (new := #[.int .i64 (x : Int), .slice G1 0 g1, .int .i64 (er2 : Int), .slice A8 q8 c8]) Own8.out (show q < w7.heap.size by have := S7.out.s; omega)
          obtain ⟨w9, hw9⟩ : ∃ w9, w8.setRow q #[.int .i64 (x : Int), .slice G1 0 g1, .int .i64 (er2 : Int), .slice A8 q8 c8] = w9 := ⟨_, rfl⟩
          rw [hw9] at s9 own9
          have S9 := Lib.hid s9; have Own9 := Lib.hid own9; have Hw9 := Lib.hid hw9
          clear s9 own9 hw9
          go_wp2_with (first
            | (refine wpList_store_row rfl 62 (.tmp 6) (.tmp 47) rfl q #[.int .i64 (x : Int), .slice G1 0 g1, .int .i64 (er2 : Int), .slice A8 q8 c8] rfl rfl 62 _ S8.out.got got_info rfl (by simp [Value.oneCell']) ?_; rw [Hw9.out]; obtain ⟨d0, d1, d2, d3⟩ := S9.out.got4; have mN : w9.cell? ⟨q + 1, 1, none⟩ = some (.slice N i nc) := row_cell S9.out.m 1)
            | (at_builtin; refine wpList_app2 rfl (.tmp 49) (.tmp 52) _ rfl 3 _ 8 Try.underlying22 int_info rfl w7.heap.size N i nc (numsV ns) rfl (own_below Own9.out ((Below.refl _ _).alloc (Nat.le_refl _) _)) (some ⟨w9.heap.size, 0, none⟩) 1 1 [.int .i64 (x : Int)] rfl rfl (Seen.of_cells (heap_alloc_new w9 _)) (by simp [Value.oneCell']) (by unfold maxLen; omega) (by omega) (by have := S9.out.t.size; simp; omega) ?_; intro A10 c10 w10 hown10 hg10 _; rw [nums_snoc] at hown10; have S10 := Lib.hid ((S9.out.below ((Below.refl _ _).alloc (Nat.le_refl _) _)).grown hg10 (fun y hy => (Own9.out.lt y hy).1)); have Own10 := Lib.hid hown10; have m10 : w10.cell? ⟨q + 1, 1, none⟩ = some (.slice N i nc) := row_cell S10.out.m 1; have f10 := row_frozen S10.out.m 1; clear hown10 hg10))
          go_roundw
          case rel =>
            exact ⟨i + 1, er2, ns ++ [(x : Int)], l', (x : Int), G1, 0, g1, A8, q8, c8, A10, c10, by go_num, by omega, HN1.out, S10.out.put 1 _, fun _ => HL8.out, own_setCell Own10.out (by have := S7.out.s; omega), Hni.out.snoc ⟨by omega, hxm⟩⟩
          case measure => simp [intOf]; omega
        · obtain rfl : i = cn := by omega
          have hrN : rN fs = (ns, l, er) := by unfold rN; rw [HC.out]; exact HN.out
          have hnl : ns.length = i := by have := numsAt_len l2 e2 i; rw [HN.out] at this; exact this
          obtain ⟨bx, l4, e4, hB⟩ := triple_of (rB fs)
          have hB' : rdText l 0 2048 = (bx, l4, e4) := by have h := hB; unfold rB at h; rw [hrN, her] at h; exact h
          obtain ⟨bn, hbn⟩ : ∃ z, bx.length = z := ⟨_, rfl⟩
          obtain ⟨q4, hq4⟩ : ∃ z, l4.length = z := ⟨_, rfl⟩
          have HrN := Lib.hid hrN; have Hnl := Lib.hid hnl; have HB := Lib.hid hB; have HB' := Lib.hid hB'; have Hbn := Lib.hid hbn; have Hq4 := Lib.hid hq4; have Hl := Lib.hid (Hlf.out her)
          have hbm : bn ≤ 900000 := by
            have h1 := rdText_len l 0 2048
            rw [hB'] at h1
            have h2 := Hl.out.len
            have h3 := Hl.out.sm
            have h4 : bx.length ≤ l.length := h1
            omega
          clear hrN hnl hB hB' hbn hq4 her
          go_wp2_with fail
          refine (TakeText_l Hl.out 2048 wr (by omega) (by omega) (Hin.out.below Sx.out.bl) HB'.out Hbn.out Hq4.out).mono ?_
          rintro e w8 ⟨AB, cb, A8, c8, rfl, hl8, hcut, hb8⟩
          have S8 := Lib.hid (Sx.out.below hb8); have HL8 := Lib.hid hl8; have Own8 := Lib.hid (own_below Own.out hb8); have Cutb := Lib.hid hcut
          clear hb8 hl8 hcut d0 d1 d2 d3 mN
          have s9 := S8.out.putGot #[.int .i64 0, .slice AB bn cb, .int .i64 (e4 : Int), .slice A8 q4 c8]
          have own9 := own_setRow (new := #[.int .i64 0, .slice AB bn cb, .int .i64 (e4 : Int), .slice A8 q4 c8]) Own8.out (show q < w7.heap.size by have := S7.out.s; omega)
          obtain ⟨w9, hw9⟩ : ∃ w9, w8.setRow q #[.int .i64 0, .slice AB bn cb, .int .i64 (e4 : Int), .slice A8 q4 c8] = w9 := ⟨_, rfl⟩
          rw [hw9] at s9 own9
          have S9 := Lib.hid s9; have Own9 := Lib.hid own9; have Hw9 := Lib.hid hw9
          clear s9 own9 hw9
          by_cases he4 : e4 = 0
          · have hd4 : ((e4 : Int) != 0) = false := by simp [he4]
            obtain ⟨d, l5, e5, hD⟩ := triple_of (rD fs)
            have hD' : rdNum l4 0 64 = (d, l5, e5) := by have h := hD; unfold rD at h; rw [HB.out, he4] at h; exact h
            have hd64 : ((rdNum l4 0 64).1 : Int) ≤ 64 := rdNum_most (by omega)
            rw [hD'] at hd64
            simp only at hd64
            obtain ⟨q5, hq5⟩ : ∃ z, l5.length = z := ⟨_, rfl⟩
            have HD := Lib.hid hD; have HD' := Lib.hid hD'; have Hq5 := Lib.hid hq5
            clear hD hD' hq5 he4
            have s10 := S9.out.put 2 (.slice AB bn cb)
            have own10 := own_setCell (j := 2) (u := .slice AB bn cb) Own9.out (show q + 1 < w7.heap.size by have := S7.out.s; omega)
            obtain ⟨w10, hw10⟩ : ∃ w10, w9.setCell ⟨q + 1, 2, none⟩ (.slice AB bn cb) = w10 := ⟨_, rfl⟩
            rw [hw10] at s10 own10
            have S10 := Lib.hid s10; have Own10 := Lib.hid own10
            clear s10 own10
            obtain ⟨x0, x1, x2, x3⟩ := S10.out.got4
            go_wp2_with (refine wpList_store_row rfl 62 (.tmp 6) (.tmp 63) rfl q #[.int .i64 0, .slice AB bn cb, .int .i64 (e4 : Int), .slice A8 q4 c8] rfl rfl 62 _ S8.out.got got_info rfl (by simp [Value.oneCell']) ?_; rw [Hw9.out]; obtain ⟨d0, d1, d2, d3⟩ := S9.out.got4; have mN : w9.cell? ⟨q + 1, 2, none⟩ = some (.slice none 0 0) := row_cell S9.out.m 2; have f9 := row_frozen S9.out.m 2)
            refine (Take_l HL8.out 64 w10 (by omega) (by omega) (Hin.out.below S10.out.bl) HD'.out Hq5.out).mono ?_
            rintro e w11 ⟨G1, g1, A11, c11, rfl, hl11, hb11⟩
            have S11 := Lib.hid (S10.out.below hb11); have HL11 := Lib.hid hl11; have Own11 := Lib.hid (own_below Own10.out hb11)
            clear hb11 hl11 d0 d1 d2 d3 x0 x1 x2 x3 mN f9 hw10
            have s12 := S11.out.putGot #[.int .i64 (d : Int), .slice G1 0 g1, .int .i64 (e5 : Int), .slice A11 q5 c11]
            have own12 := own_setRow (new := #[.int .i64 (d : Int), .slice G1 0 g1, .int .i64 (e5 : Int), .slice A11 q5 c11]) Own11.out (show q < w7.heap.size by have := S7.out.s; omega)
            obtain ⟨w12, hw12⟩ : ∃ w12, w11.setRow q #[.int .i64 (d : Int), .slice G1 0 g1, .int .i64 (e5 : Int), .slice A11 q5 c11] = w12 := ⟨_, rfl⟩
            rw [hw12] at s12 own12
            have S12 := Lib.hid s12.rebase; have Own12 := Lib.hid own12; have Hw12 := Lib.hid hw12
            clear s12 own12 hw12
            go_wp2_with (refine wpList_store_row rfl 62 (.tmp 6) (.tmp 75) rfl q #[.int .i64 (d : Int), .slice G1 0 g1, .int .i64 (e5 : Int), .slice A11 q5 c11] rfl rfl 62 _ S11.out.got got_info rfl (by simp [Value.oneCell']) ?_; rw [Hw12.out]; obtain ⟨d0, d1, d2, d3⟩ := S12.out.got4)
            clear d0 d1 d2 d3
            go_loopw [10] (fun iv wr => ∃ (j er : Nat) (ts : List (List UInt8)) (l : List UInt8) (gx : Int) (GA : Option Addr) (gn gc : Nat) (LA : Option Addr) (ln lc : Nat) (L : Option Addr) (nc2 : Nat) (ps : List (Option Addr × Nat × Nat)),
              iv = .int .i64 (j : Int) ∧ j ≤ d ∧ textsAt l5 e5 j = (ts, l, er) ∧ RSt w g q w12 #[.int .i64 gx, .slice GA gn gc, .int .i64 (er : Int), .slice LA ln lc] #[.int .i64 (k : Int), .slice N i nc, .slice AB bn cb, .slice L j nc2] wr ∧
              (er = 0 → LeftAt A fs LA ln lc l) ∧ wr.ownsRow w12.heap.size 23 1 (.slice L j nc2) j (listsV ps) ∧ CutsAt A fs ps ts) (fun iv _ => d - (intOf iv).toNat)
            case atStart => exact ⟨0, e5, [], l5, (d : Int), G1, 0, g1, A11, q5, c11, none, 0, [], rfl, by omega, rfl, S12.out, fun _ => HL11.out, World.ownsRow_nil _ _ _ _, CutsAt.nil _ _⟩
            case round =>
              obtain ⟨j, er, ts, l, gx, GA, gn, gc, LA, ln, lc, L, nc2, ps, rfl, hj, hT, hst, hlf, hown, hcuts⟩ := hrel
              have HT := Lib.hid hT; have Sy := Lib.hid hst; have Hlf2 := Lib.hid hlf; have Ownl := Lib.hid hown; have Cuts := Lib.hid hcuts
              clear hT hst hlf hown hcuts
              obtain ⟨d0, d1, d2, d3⟩ := Sy.out.got4
              have mL : wr.cell? ⟨q + 1, 3, none⟩ = some (.slice L j nc2) := row_cell Sy.out.m 3
              by_cases her : er = 0
              · have hde : ((er : Int) == 0) = true := by simp [her]
                have hdn : ((er : Int) != 0) = false := by simp [her]
                by_cases hlt : j < d
                · obtain ⟨x, l', er2, hx⟩ := triple_of (rdText l 0 2048)
                  have hT1 : textsAt l5 e5 (j + 1) = (ts ++ [x], l', er2) := by
                    rw [textsAt, HT.out]
                    simp only [her, hx]
                  obtain ⟨qa, hqa⟩ : ∃ z, l'.length = z := ⟨_, rfl⟩
                  obtain ⟨xn, hxn⟩ : ∃ z, x.length = z := ⟨_, rfl⟩
                  have Hx := Lib.hid hx; have HT1 := Lib.hid hT1; have Hqa := Lib.hid hqa; have Hxn := Lib.hid hxn; have Hl2 := Lib.hid (Hlf2.out her)
                  have hxm : xn ≤ 900000 := by
                    have h1 := rdText_len l 0 2048
                    rw [hx] at h1
                    have h2 := Hl2.out.len
                    have h3 := Hl2.out.sm
                    have h4 : x.length ≤ l.length := h1
                    omega
                  clear hx hT1 hqa hxn her
                  go_wp2_with fail
                  refine (TakeText_l Hl2.out 2048 wr (by omega) (by omega) (Hin.out.below Sy.out.bl) Hx.out Hxn.out Hqa.out).mono ?_
                  rintro e w13 ⟨G3, g3, A13, c13, rfl, hl13, hcut, hb13⟩
                  have S13 := Lib.hid (Sy.out.below hb13); have HL13 := Lib.hid hl13; have Own13 := Lib.hid (own_below Ownl.out hb13); have Cutx := Lib.hid hcut
                  clear hb13 hl13 hcut d0 d1 d2 d3 mL
                  have s14 := S13.out.putGot #[.int .i64 0, .slice G3 xn g3, .int .i64 (er2 : Int), .slice A13 qa c13]
                  have own14 := own_setRow (new := #[.int .i64 0, .slice G3 xn g3, .int .i64 (er2 : Int), .slice A13 qa c13]) Own13.out (show q < w12.heap.size by have := S12.out.s; omega)
                  obtain ⟨w14, hw14⟩ : ∃ w14, w13.setRow q #[.int .i64 0, .slice G3 xn g3, .int .i64 (er2 : Int), .slice A13 qa c13] = w14 := ⟨_, rfl⟩
                  rw [hw14] at s14 own14
                  have S14 := Lib.hid s14; have Own14 := Lib.hid own14; have Hw14 := Lib.hid hw14
                  clear s14 own14 hw14
                  go_wp2_with (first
                    | (refine wpList_store_row rfl 62 (.tmp 6) (.tmp 90) rfl q #[.int .i64 0, .slice G3 xn g3, .int .i64 (er2 : Int), .slice A13 qa c13] rfl rfl 62 _ S13.out.got got_info rfl (by simp [Value.oneCell']) ?_; rw [Hw14.out]; obtain ⟨d0, d1, d2, d3⟩ := S14.out.got4; have mL : w14.cell? ⟨q + 1, 3, none⟩ = some (.slice L j nc2) := row_cell S14.out.m 3)
                    | (at_builtin; refine wpList_app2 rfl (.tmp 92) (.tmp 95) _ rfl 23 _ 24 Try.underlying24 text_info rfl w12.heap.size L j nc2 (listsV ps) rfl (own_below Own14.out ((Below.refl _ _).alloc (Nat.le_refl _) _)) (some ⟨w14.heap.size, 0, none⟩) 1 1 [.slice G3 xn g3] rfl rfl (Seen.of_cells (heap_alloc_new w14 _)) (by simp [Value.oneCell']) (by unfold maxLen; omega) (by omega) (by have := S14.out.t.size; simp; omega) ?_; intro A15 c15 w15 hown15 hg15 _; rw [lists_snoc] at hown15; have S15 := Lib.hid ((S14.out.below ((Below.refl _ _).alloc (Nat.le_refl _) _)).grown hg15 (fun y hy => (Own14.out.lt y hy).1)); have Own15 := Lib.hid hown15; have m15 : w15.cell? ⟨q + 1, 3, none⟩ = some (.slice L j nc2) := row_cell S15.out.m 3; have f15 := row_frozen S15.out.m 3; clear hown15 hg15))
                  go_roundw
                  case rel =>
                    exact ⟨j + 1, er2, ts ++ [x], l', 0, G3, xn, g3, A13, qa, c13, A15, c15, ps ++ [(G3, xn, g3)], by go_num, by omega, HT1.out, S15.out.put 3 _, fun _ => HL13.out, own_setCell Own15.out (by have := S12.out.s; omega), Cuts.out.snoc Hxn.out (by unfold maxLen; omega) Cutx.out⟩
                  case measure => simp [intOf]; omega
                · obtain rfl : j = d := by omega
                  have hrL : rL fs = (ts, l, er) := by unfold rL; rw [HD.out]; exact HT.out
                  have htl : ts.length = j := by have := textsAt_len l5 e5 j; rw [HT.out] at this; exact this
                  have em : msgOf fs = ⟨(k : Int), ns, bx, ts⟩ := by unfold msgOf; rw [HK.out, HrN.out, HB.out, hrL]
                  have hend : endM fs = endOf l 0 := by unfold endM; rw [hrL, her]
                  have Hl2 := Lib.hid (Hlf2.out her)
                  have HrL := Lib.hid hrL; have Htl := Lib.hid htl; have Em := Lib.hid em; have Hend := Lib.hid hend
                  clear hrL htl em hend her
                  have hn8 := Sy.out.t.own Own12.out (fun y hy e => by have := (Own12.out.lt y hy).1; have := S7.out.s; omega)
                  have Hn8 := Lib.hid hn8
                  clear hn8
                  have mk : ∀ w', Below w.heap.size w w' → w'.ownsRow w7.heap.size 3 1 (.slice N i nc) i (numsV ns) → w'.ownsRow w12.heap.size 23 1 (.slice L j nc2) j (listsV ps) → MsgAt w' ⟨(k : Int), ns, bx, ts⟩ N i nc AB bn cb L j nc2 := fun w' h1 h2 h3 => by
                    have hs := Hin.out.below h1
                    exact ⟨by show (-9223372036854775808 : Int) ≤ (k : Int); omega, by have := rdNum_most (l := fs) (er := 0) (most := 40) (by omega); rw [HK'.out] at this; simp only at this; show (k : Int) ≤ 9223372036854775807; omega, Hnl.out, by unfold maxLen; omega, Seen.of_own h2, fun n hn => by have := Hni.out n hn; omega, Hbn.out, by unfold maxLen; omega, Cutb.out w' hs, Htl.out, by unfold maxLen; omega, Cuts.out.le, ps, Seen.of_own h3, Cuts.out.args hs⟩
                  have Mk := Lib.hid mk
                  clear mk
                  have hlen := Hl2.out.len
                  by_cases hln : 0 < ln
                  · have hlni : (0 : Int) < (ln : Int) := by omega
                    have hz : (M, eM) = (zeroM, 3) := HM.out.symm.trans (readF_err (by rw [Hend.out]; unfold endOf; rw [if_pos ⟨rfl, by omega⟩]) (by omega))
                    have Hz := Lib.hid hz
                    clear hz hlen
                    go_wp2_with (refine wpList_store_row rfl 26 (.tmp 2) (.tmp 113) rfl g #[.int .i64 0, .slice none 0 0, .slice none 0 0, .slice none 0 0] rfl rfl 26 _ Sy.out.z msg_info rfl (by simp [Value.oneCell']) ?_)
                    refine bodyPost_ret (v := .tuple #[.agg #[.int .i64 0, .slice none 0 0, .slice none 0 0, .slice none 0 0], .int .i64 3]) (results_cell_2 rfl _ _ g 26 #[.int .i64 0, .slice none 0 0, .slice none 0 0, .slice none 0 0] (0, 0) _ (.int .i64 3) rfl rfl (setRow_heap _ g _ _ _ (0, 0) Sy.out.z) Try.underlying26 rfl msg_info) rfl ?_
                    exact ret_eq Hz.out (zero_end (er := 3) Sy.out.bl Hg.out (turned_setRow _ _ _))
                  · have hlni : ¬ (0 : Int) < (ln : Int) := by omega
                    have hdl : decide ((0 : Int) < (ln : Int)) = false := decide_eq_false (by omega)
                    have he0 : endM fs = 0 := by rw [Hend.out]; unfold endOf; rw [if_neg (by omega)]
                    have hcall := Right_any ⟨(k : Int), ns, bx, ts⟩ N AB L i nc bn cb j nc2 wr (Mk.out wr Sy.out.bl Hn8.out Ownl.out)
                    have He0 := Lib.hid he0
                    have hld := ldMsg_run Sy.out.m
                    clear he0 hlen
                    cases hr : rightM ⟨(k : Int), ns, bx, ts⟩ with
                    | false =>
                      have hz : (M, eM) = (zeroM, 3) := HM.out.symm.trans (readF_bad He0.out (by rw [Em.out]; exact hr))
                      have Hz := Lib.hid hz
                      rw [hr] at hcall
                      have Hcall := Lib.hid hcall
                      clear hz hr hcall
                      go_wp2_with (first
                        | (go_at_call 11; refine Hcall.out.mono ?_; rintro e w16 ⟨rfl, hb16⟩; have S16 := Lib.hid (Sy.out.below hb16); have hld2 := ldMsg_run S16.out.m; clear hb16)
                        | (refine wpList_store_row rfl 26 (.tmp 2) (.tmp 113) rfl g #[.int .i64 0, .slice none 0 0, .slice none 0 0, .slice none 0 0] rfl rfl 26 _ S16.out.z msg_info rfl (by simp [Value.oneCell']) ?_))
                      refine bodyPost_ret (v := .tuple #[.agg #[.int .i64 0, .slice none 0 0, .slice none 0 0, .slice none 0 0], .int .i64 3]) (results_cell_2 rfl _ _ g 26 #[.int .i64 0, .slice none 0 0, .slice none 0 0, .slice none 0 0] (0, 0) _ (.int .i64 3) rfl rfl (setRow_heap _ g _ _ _ (0, 0) S16.out.z) Try.underlying26 rfl msg_info) rfl ?_
                      exact ret_eq Hz.out (zero_end (er := 3) S16.out.bl Hg.out (turned_setRow _ _ _))
                    | true =>
                      have hz : (M, eM) = (⟨(k : Int), ns, bx, ts⟩, 0) := HM.out.symm.trans (by rw [readF_good He0.out (by rw [Em.out]; exact hr), Em.out])
                      have Hz := Lib.hid hz
                      rw [hr] at hcall
                      have Hcall := Lib.hid hcall
                      clear hz hr hcall
                      go_wp2_with (first
                        | (go_at_call 11; refine Hcall.out.mono ?_; rintro e w16 ⟨rfl, hb16⟩; have S16 := Lib.hid (Sy.out.below hb16); have hld2 := ldMsg_run S16.out.m; have Hn16 := Lib.hid (own_below Hn8.out hb16); have Hl16 := Lib.hid (own_below Ownl.out hb16); clear hb16)
                        | (refine wpList_store_row rfl 26 (.tmp 2) (.tmp 114) rfl g #[.int .i64 (k : Int), .slice N i nc, .slice AB bn cb, .slice L j nc2] rfl rfl 26 _ S16.out.z msg_info rfl (by simp [Value.oneCell']) ?_))
                      refine bodyPost_ret (v := .tuple #[.agg #[.int .i64 (k : Int), .slice N i nc, .slice AB bn cb, .slice L j nc2], .int .i64 0]) (results_cell_2 rfl _ _ g 26 #[.int .i64 (k : Int), .slice N i nc, .slice AB bn cb, .slice L j nc2] (0, 0) _ (.int .i64 0) rfl rfl (setRow_heap _ g _ _ _ (0, 0) S16.out.z) Try.underlying26 rfl msg_info) rfl ?_
                      have hbf : Below w.heap.size w (w16.setRow g #[.int .i64 (k : Int), .slice N i nc, .slice AB bn cb, .slice L j nc2]) := S16.out.bl.trans ((turned_setRow _ g _).below (fun y e => by have := Hg.out; omega) S16.out.bl.size)
                      exact ret_eq Hz.out ⟨N, i, nc, AB, bn, cb, L, j, nc2, rfl, Mk.out _ hbf (own_setRow Hn16.out (by have := S7.out.s; omega)) (own_setRow Hl16.out (by have := S12.out.s; omega)), hbf⟩
              · have hde : ((er : Int) == 0) = false := by simp; omega
                have hdn : ((er : Int) != 0) = true := by simp; omega
                have hT2 : (rL fs).2 = (l, er) := by
                  unfold rL
                  rw [HD.out]
                  show (textsAt l5 e5 d).2 = _
                  rw [textsAt_on (i := j) (by rw [HT.out]; exact her) hj, HT.out]
                have hz : (M, eM) = (zeroM, er) := HM.out.symm.trans (readF_err (by rw [end_rL (by rw [hT2]; exact her), hT2]) her)
                have Hz := Lib.hid hz
                clear hz hT2 her
                by_cases hlt : j < d
                all_goals
                  go_wp2
                  obtain ⟨y0, y1, y2, y3⟩ := row4 Sy.out.z
                  have f0 := row_frozen Sy.out.z 0; have f1 := row_frozen Sy.out.z 1; have f2 := row_frozen Sy.out.z 2; have f3 := row_frozen Sy.out.z 3
                  go_region
                  have z4 := four_set (.int .i64 0) (.slice none 0 0) (.slice none 0 0) (.slice none 0 0) Sy.out.z
                  go_wp2
                  refine bodyPost_ret (v := .tuple #[.agg #[.int .i64 0, .slice none 0 0, .slice none 0 0, .slice none 0 0], .int .i64 (er : Int)]) (results_cell_2 rfl _ _ g 26 #[.int .i64 0, .slice none 0 0, .slice none 0 0, .slice none 0 0] (0, 0) _ (.int .i64 (er : Int)) rfl rfl z4.1 Try.underlying26 rfl msg_info) rfl ?_
                  exact ret_eq Hz.out (zero_end Sy.out.bl Hg.out z4.2)

          · have hd4 : ((e4 : Int) != 0) = true := by simp; omega
            have hz : (M, eM) = (zeroM, e4) := HM.out.symm.trans (readF_err (by rw [end_rB (by rw [HB.out]; exact he4), HB.out]) he4)
            have Hz := Lib.hid hz
            clear hz he4
            go_wp2_with (refine wpList_store_row rfl 62 (.tmp 6) (.tmp 63) rfl q #[.int .i64 0, .slice AB bn cb, .int .i64 (e4 : Int), .slice A8 q4 c8] rfl rfl 62 _ S8.out.got got_info rfl (by simp [Value.oneCell']) ?_; rw [Hw9.out]; obtain ⟨d0, d1, d2, d3⟩ := S9.out.got4)
            obtain ⟨y0, y1, y2, y3⟩ := row4 S9.out.z
            have f0 := row_frozen S9.out.z 0; have f1 := row_frozen S9.out.z 1; have f2 := row_frozen S9.out.z 2; have f3 := row_frozen S9.out.z 3
            go_region
            have z4 := four_set (.int .i64 0) (.slice none 0 0) (.slice none 0 0) (.slice none 0 0) S9.out.z
            go_wp2
            refine bodyPost_ret (v := .tuple #[.agg #[.int .i64 0, .slice none 0 0, .slice none 0 0, .slice none 0 0], .int .i64 (e4 : Int)]) (results_cell_2 rfl _ _ g 26 #[.int .i64 0, .slice none 0 0, .slice none 0 0, .slice none 0 0] (0, 0) _ (.int .i64 (e4 : Int)) rfl rfl z4.1 Try.underlying26 rfl msg_info) rfl ?_
            exact ret_eq Hz.out (zero_end S9.out.bl Hg.out z4.2)
      · have hde : ((er : Int) == 0) = false := by simp; omega
        have hdn : ((er : Int) != 0) = true := by simp; omega
        have hN2 : (rN fs).2 = (l, er) := by
          unfold rN
          rw [HC.out]
          show (numsAt l2 e2 cn).2 = _
          rw [numsAt_on (i := i) (by rw [HN.out]; exact her) hi, HN.out]
        have hz : (M, eM) = (zeroM, er) := HM.out.symm.trans (readF_err (by rw [end_rN (by rw [hN2]; exact her), hN2]) her)
        have Hz := Lib.hid hz
        clear hz hN2 her
        by_cases hlt : i < cn
        all_goals
          go_wp2
          obtain ⟨y0, y1, y2, y3⟩ := row4 Sx.out.z
          have f0 := row_frozen Sx.out.z 0; have f1 := row_frozen Sx.out.z 1; have f2 := row_frozen Sx.out.z 2; have f3 := row_frozen Sx.out.z 3
          go_region
          have z4 := four_set (.int .i64 0) (.slice none 0 0) (.slice none 0 0) (.slice none 0 0) Sx.out.z
          go_wp2
          refine bodyPost_ret (v := .tuple #[.agg #[.int .i64 0, .slice none 0 0, .slice none 0 0, .slice none 0 0], .int .i64 (er : Int)]) (results_cell_2 rfl _ _ g 26 #[.int .i64 0, .slice none 0 0, .slice none 0 0, .slice none 0 0] (0, 0) _ (.int .i64 (er : Int)) rfl rfl z4.1 Try.underlying26 rfl msg_info) rfl ?_
          exact ret_eq Hz.out (zero_end Sx.out.bl Hg.out z4.2)
  · have hd1 : ((e1 : Int) != 0) = true := by simp; omega
    have hz : (M, eM) = (zeroM, e1) := HM.out.symm.trans (readF_err (by rw [end_rK (by rw [HK.out]; exact he1), HK.out]) he1)
    have Hz := Lib.hid hz
    clear hz he1
    go_wp2_with (first
      | (refine wpList_store_row rfl 62 (.tmp 6) (.tmp 20) rfl q #[.int .i64 (k : Int), .slice A1 0 c1, .int .i64 (e1 : Int), .slice A2 q1 c2] rfl rfl 62 _ hnew3.out got_info rfl (by simp [Value.oneCell']) ?_; rw [Es.out, Hw4.out])
      | (refine wpList_store_row rfl 26 (.tmp 7) (.tmp 23) rfl (q + 1) #[.int .i64 (k : Int), .slice none 0 0, .slice none 0 0, .slice none 0 0] rfl rfl 26 _ hnew4.out msg_info rfl (by simp [Value.oneCell']) ?_; rw [Es2.out, Hw5.out]; obtain ⟨d0, d1, d2, d3⟩ := St.out.got4))
    obtain ⟨y0, y1, y2, y3⟩ := row4 St.out.z
    have f0 := row_frozen St.out.z 0; have f1 := row_frozen St.out.z 1; have f2 := row_frozen St.out.z 2; have f3 := row_frozen St.out.z 3
    go_region
    have z4 := four_set (.int .i64 0) (.slice none 0 0) (.slice none 0 0) (.slice none 0 0) St.out.z
    go_wp2
    refine bodyPost_ret (v := .tuple #[.agg #[.int .i64 0, .slice none 0 0, .slice none 0 0, .slice none 0 0], .int .i64 (e1 : Int)]) (results_cell_2 rfl _ _ g 26 #[.int .i64 0, .slice none 0 0, .slice none 0 0, .slice none 0 0] (0, 0) _ (.int .i64 (e1 : Int)) rfl rfl z4.1 Try.underlying26 rfl msg_info) rfl ?_
    exact ret_eq Hz.out (zero_end St.out.bl Hg.out z4.2)
end Go.Proofs.Ytmlmkfooiikcgaa
