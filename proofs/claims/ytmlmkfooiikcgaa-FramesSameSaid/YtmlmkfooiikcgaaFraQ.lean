/-
  Contract of dotterelref07's Put, of a right message.
-/
import Derived.Test.YtmlmkfooiikcgaaFraP
import Derived.Test.YtmlmkfooiikcgaaStep
import Derived.Test.YtmlmkfooiikcgaaPackF
import Derived.Deep.RegionHeld3
namespace Go.Proofs.Ytmlmkfooiikcgaa
open Go.ChangeShapes Go.WideShapes Go.ChangeAt Go.RowKit
set_option linter.unusedVariables false

/-- a list of bytes of the call's own, in memory at or above B; w1: the world behind the box -/
def OutAt7 (w1 : World) (A : Option Addr) (n c : Nat) (xs : List UInt8) (wr : World) : Prop :=
  wr.ownsRow w1.heap.size 5 1 (.slice A n c) n (bytesV xs) ∧ xs.length = n ∧ Below w1.heap.size w1 wr
theorem OutAt7.app {w1 : World} {A A' : Option Addr} {n c c' m : Nat} {xs ys : List UInt8} {wr wa wb : World} (h : OutAt7 w1 A n c xs wr) (ha : Below wr.heap.size wr wa) (hg : wa.grownBy wb (Value.slice A n c).ownBlock)
    (ho : wb.ownsRow w1.heap.size 5 1 (.slice A' (n + m) c') (n + m) (bytesV xs ++ bytesV ys)) (hm : ys.length = m) : OutAt7 w1 A' (n + m) c' (xs ++ ys) wb := by
  refine ⟨by rw [bytes_append]; exact ho, by rw [List.length_append, h.2.1, hm], ?_⟩
  have h1 := h.2.2.trans (ha.mono h.2.2.size)
  exact below_grown h1 hg (fun k hk => (h.1.lt k hk).1) h1.size

set_option maxRecDepth 100000 in
set_option maxHeartbeats 1000000 in
theorem RPut_any (m : Msg) (N B L : Option Addr) (nn nc bn bc ln lc : Nat) (w : World) (h : MsgAt w m N nn nc B bn bc L ln lc) (hr : rightM m = true) :
    Calls Try.prog 15 #[.agg #[.int .i64 m.k, .slice N nn nc, .slice B bn bc, .slice L ln lc]] w (OwnRet 5 (bytesV (formM m)) w) := by
  have H := Lib.hid h; clear h
  obtain ⟨w1, hw1, hb1, hh1⟩ : ∃ w1, w.alloc (.cells #[.int .i64 m.k, .slice N nn nc, .slice B bn bc, .slice L ln lc] 26) = w1 ∧ Below w.heap.size w w1 ∧ w1.heap[w.heap.size]? = some (.cells #[.int .i64 m.k, .slice N nn nc, .slice B bn bc, .slice L ln lc] 26 (0, 0)) :=
    ⟨_, rfl, (Below.refl _ _).alloc (Nat.le_refl _) _, heap_alloc_new _ _⟩
  have hpart := part_len hr
  have hfl := fields_len hr
  obtain ⟨r1, r2, r3, r4, r5⟩ := right_parts hr
  obtain ⟨n1, n2⟩ := nums_parts r3
  obtain ⟨l1, l2, l3⟩ := lists_parts r5
  rw [H.out.n0] at n1
  rw [H.out.l0] at l1
  rw [H.out.b0] at r4
  have H1 := Lib.hid (H.out.below hb1)
  have Hb1 := Lib.hid hb1; clear hb1
  have Hh1 := Lib.hid hh1; clear hh1
  obtain ⟨k, hk⟩ : ∃ k, m.k = k := ⟨_, rfl⟩
  rw [hk] at hw1 Hh1 r1 r2 ⊢
  have Hk := Lib.hid hk
  have Hpart := Lib.hid hpart; have N2 := Lib.hid n2; have L2 := Lib.hid l2; have Hfl := Lib.hid hfl
  clear hk hr hpart n2 l2 l3 r3 r5 hfl
  have R := Lib.hid (fun (w' : World) (h : Below w1.heap.size w1 w') => row4 (row_below Hh1.out h))
  obtain ⟨⟨c0, c1, c2, c3⟩⟩ : Nonempty _ := ⟨R.out _ (Below.refl _ _)⟩
  obtain ⟨q1, hq1⟩ : ∃ q, (numB k.toNat).length = q := ⟨_, rfl⟩
  obtain ⟨q2, hq2⟩ : ∃ q, (numB nn).length = q := ⟨_, rfl⟩
  have hq19 := numB_len9 (n := k.toNat) (by omega)
  have hq29 := numB_len9 (n := nn) (by omega)
  rw [hq1] at hq19
  rw [hq2] at hq29
  have Hq1 := Lib.hid hq1; have Hq2 := Lib.hid hq2
  clear hq1 hq2
  go_enter Try.func15, Try.ntmps15
  go_wp2
  go_region_held3 (fun w' => w'.cell? ⟨w.heap.size, 0, none⟩ = some (.int .i64 k) ∧ w'.cell? ⟨w.heap.size, 1, none⟩ = some (.slice N nn nc))
    (first | exact ⟨c0, c1⟩ | exact Hc2.out | exact Hc3.out | exact Hc4.out)
    (first
      | (go_at_call_of 30 (Value.int .i64 k); refine (FNum_any k w1.drew (by omega) (by omega)).mono ?_; rintro e w2 ⟨A2, e2, rfl, hown2, hb2⟩; rw [bytes_length, Hq1.out] at hown2 ⊢; have Hb2 := Lib.hid ((Below.refl w1.heap.size w1).drew.trans hb2); have Hown2 := Lib.hid hown2; have Hc2 := Lib.hid (And.intro (R.out w2 Hb2.out).1 (R.out w2 Hb2.out).2.1); clear hown2 hb2)
      | (go_at_call_of 30 (Value.int .i64 (nn : Int)); refine (FNum_any (nn : Int) w2 (by omega) (by omega)).mono ?_; rw [show ((nn : Int)).toNat = nn by omega]; rintro e w3 ⟨A3, e3, rfl, hown3, hb3⟩; rw [bytes_length, Hq2.out] at hown3 ⊢; have Hw3 := Lib.hid hb3; have Hb3 := Lib.hid (Hb2.out.trans (hb3.mono Hb2.out.size)); have Hown3 := Lib.hid hown3; have Hc3 := Lib.hid (And.intro (R.out w3 Hb3.out).1 (R.out w3 Hb3.out).2.1); clear hown3 hb3)
      | (refine step_app (by rfl) (.tmp 8) (.tmp 12) _ (by rfl) 5 _ 1 Try.underlying23 u8_info rfl w1.drew.heap.size A2 q1 e2 (bytesV (numB k.toNat)) (by rfl) (own_below Hown2.out Hw3.out) A3 q2 e3 (bytesV (numB nn)) (by rfl) (by rw [bytes_length]; exact Hq2.out) (Seen.of_own Hown3.out) (bytes_one _) (by unfold maxLen; omega) (by omega) (Hb3.out.size) ?_; intro A4 e4 w4 hown4 hg4 _; have Hb4 := Lib.hid (below_grown Hb3.out hg4 (fun k hk => (Hown2.out.lt k hk).1) Hb3.out.size); have Hown4 := Lib.hid hown4; have Hc4 := Lib.hid (And.intro (R.out w4 Hb4.out).1 (R.out w4 Hb4.out).2.1); clear hown4 hg4))
  all_goals
    have hz : OutAt7 w1 A4 (q1 + q2) e4 (headM m) w4 := ⟨by unfold headM; rw [Hk.out, H.out.n0, bytes_append]; exact Hown4.out, by unfold headM; rw [Hk.out, H.out.n0, List.length_append, Hq1.out, Hq2.out], Hb4.out⟩
    have Z0 := Lib.hid hz
    clear hz Hc2 Hc3 Hc4 Hown2 Hown3 Hown4 Hb2 Hb3 Hb4 Hw3 c0 c1 c2 c3 hw1
    obtain ⟨n4, hn4⟩ : ∃ n, q1 + q2 = n := ⟨_, rfl⟩
    rw [hn4] at Z0 ⊢
    clear hn4
    go_wp2
    go_loopw [3, 4] (fun ov iv wr => ∃ (i : Nat) (A : Option Addr) (n c : Nat), iv = .int .i64 (i : Int) ∧ ov = .slice A n c ∧ i ≤ nn ∧ OutAt7 w1 A n c (headM m ++ encN (m.ns.take i)) wr) (fun _ iv _ => nn - (intOf iv).toNat)
    case atStart => exact ⟨0, A4, n4, e4, rfl, rfl, by omega, by simpa [encN] using Z0.out⟩
    case round =>
      obtain ⟨i, A, n, c, rfl, rfl, hi, hz⟩ := hrel
      have Z := Lib.hid hz; clear hz
      obtain ⟨⟨c0, c1, c2, c3⟩⟩ : Nonempty _ := ⟨R.out _ Z.out.2.2⟩
      by_cases hlt : i < nn
      · obtain ⟨g, o, x, hA, hx, hc⟩ := (H1.out.ns.below Z.out.2.2).num (j := i) (by have := H.out.n0; omega)
        subst hA
        have hxr := N2.out x (List.mem_of_getElem? hx)
        have Hx := Lib.hid hx; clear hx
        obtain ⟨q5, hq5⟩ : ∃ q, (numB x.toNat).length = q := ⟨_, rfl⟩
        have hq59 := numB_len9 (n := x.toNat) (by omega)
        rw [hq5] at hq59
        have Hq5 := Lib.hid hq5; clear hq5
        have hn7 : n ≤ 70000 := by have h1 := (Hpart.out i 0).1; have h2 := Z.out.2.1; omega
        go_wp2_with (first
          | (go_at_call 30; refine (FNum_any x wr (by omega) (by omega)).mono ?_; rintro e w5 ⟨A5, e5, rfl, hown5, hb5⟩; rw [bytes_length, Hq5.out] at hown5 ⊢; have Hb5 := Lib.hid hb5; have Hown5 := Lib.hid hown5; clear hown5 hb5)
          | (at_builtin; refine wpList_app2 rfl (.tmp 21) (.tmp 27) _ rfl 5 _ 1 Try.underlying23 u8_info rfl w1.heap.size A n c (bytesV (headM m ++ encN (m.ns.take i))) rfl (own_below Z.out.1 Hb5.out) A5 q5 e5 (bytesV (numB x.toNat)) rfl (by rw [bytes_length]; exact Hq5.out) (Seen.of_own Hown5.out) (bytes_one _) (by unfold maxLen; omega) (by omega) (Nat.le_trans Z.out.2.2.size Hb5.out.size) ?_; intro A6 c6 w6 hown6 hg6 _; have Hz6 := Lib.hid (Z.out.app Hb5.out hg6 hown6 Hq5.out); clear hown6 hg6))
        go_roundw
        case rel => exact ⟨i + 1, A6, n + q5, c6, by go_num, rfl, by omega, by rw [encN_take Hx.out, ← List.append_assoc]; exact Hz6.out⟩
        case measure => simp [intOf]; omega
      · obtain rfl : i = nn := by omega
        have hz := Z.out
        rw [← H.out.n0, List.take_length] at hz
        have Z3 := Lib.hid hz
        clear hz
        obtain ⟨q7, hq7⟩ : ∃ q, (numB bn).length = q := ⟨_, rfl⟩
        obtain ⟨q8, hq8⟩ : ∃ q, (numB ln).length = q := ⟨_, rfl⟩
        have hq79 := numB_len9 (n := bn) (by omega)
        have hq89 := numB_len9 (n := ln) (by omega)
        rw [hq7] at hq79
        rw [hq8] at hq89
        have Hq7 := Lib.hid hq7; have Hq8 := Lib.hid hq8; clear hq7 hq8
        have hn7 : n ≤ 70000 := by have h1 := (Hpart.out i 0).1; have h2 := Z.out.2.1; omega
        have htl : (bytesV (numB bn ++ m.b)).length = q7 + bn := by rw [bytes_length, List.length_append, Hq7.out, H.out.b0]
        have Htl := Lib.hid htl; clear htl
        go_wp2_with (first
          | (go_at_call 31; refine (FText_any B bn bc m.b wr H.out.b0 (by omega) (H1.out.b.below Z3.out.2.2)).mono ?_; rintro e w5 ⟨A5, e5, rfl, hown5, hb5⟩; rw [Htl.out] at hown5 ⊢; have Hb5 := Lib.hid hb5; have Hown5 := Lib.hid hown5; clear hown5 hb5)
          | (at_builtin; refine wpList_app2 rfl (.tmp 29) (.tmp 32) _ rfl 5 _ 1 Try.underlying23 u8_info rfl w1.heap.size A n c (bytesV (headM m ++ encN m.ns)) rfl (own_below Z3.out.1 Hb5.out) A5 (q7 + bn) e5 (bytesV (numB bn ++ m.b)) rfl Htl.out (Seen.of_own Hown5.out) (bytes_one _) (by unfold maxLen; omega) (by omega) (Nat.le_trans Z3.out.2.2.size Hb5.out.size) ?_; intro A6 c6 w6 hown6 hg6 _; have Hz6 := Lib.hid (show OutAt7 w1 A6 (n + (q7 + bn)) c6 (P1 m) w6 from by unfold P1; rw [H.out.b0]; exact Z3.out.app Hb5.out hg6 hown6 (by rw [← bytes_length]; exact Htl.out)); have hcs := R.out w6 Hz6.out.2.2; have d3 := hcs.2.2.2; clear hcs hown6 hg6)
          | (go_at_call 30; refine (FNum_any (ln : Int) w6 (by omega) (by omega)).mono ?_; rw [show ((ln : Int)).toNat = ln by omega]; rintro e w7 ⟨A7, e7, rfl, hown7, hb7⟩; rw [bytes_length, Hq8.out] at hown7 ⊢; have Hb7 := Lib.hid hb7; have Hown7 := Lib.hid hown7; clear hown7 hb7)
          | (at_builtin; refine wpList_app2 rfl (.tmp 34) (.tmp 38) _ rfl 5 _ 1 Try.underlying23 u8_info rfl w1.heap.size A6 (n + (q7 + bn)) c6 (bytesV (P1 m)) rfl (own_below Hz6.out.1 Hb7.out) A7 q8 e7 (bytesV (numB ln)) rfl (by rw [bytes_length]; exact Hq8.out) (Seen.of_own Hown7.out) (bytes_one _) (by unfold maxLen; omega) (by omega) (Nat.le_trans Hz6.out.2.2.size Hb7.out.size) ?_; intro A8 c8 w8 hown8 hg8 _; have Hz8 := Lib.hid (show OutAt7 w1 A8 (n + (q7 + bn) + q8) c8 (P2 m) w8 from by unfold P2; rw [H.out.l0]; exact Hz6.out.app Hb7.out hg8 hown8 Hq8.out); clear hown8 hg8))
        obtain ⟨ps, p1, p2⟩ := H1.out.ls
        have Q1 := Lib.hid p1; have Q2 := Lib.hid p2
        clear p1 p2 c0 c1 c2 c3 d3
        obtain ⟨n8, hn8⟩ : ∃ x, n + (q7 + bn) + q8 = x := ⟨_, rfl⟩
        rw [hn8] at Hz8 ⊢
        go_loopw [3, 5] (fun ov iv wr => ∃ (i : Nat) (A : Option Addr) (n c : Nat), iv = .int .i64 (i : Int) ∧ ov = .slice A n c ∧ i ≤ ln ∧ OutAt7 w1 A n c (P2 m ++ encT (m.ls.take i)) wr) (fun _ iv _ => ln - (intOf iv).toNat)
        case atStart => exact ⟨0, A8, n8, c8, rfl, rfl, by omega, by simpa [encT] using Hz8.out⟩
        case round =>
          obtain ⟨i2, A9, n9, c9, rfl, rfl, hi2, hz⟩ := hrel
          have Y := Lib.hid hz; clear hz
          obtain ⟨⟨c0, c1, c2, c3⟩⟩ : Nonempty _ := ⟨R.out _ Y.out.2.2⟩
          by_cases hlt2 : i2 < ln
          · obtain ⟨g, o, P, q, cc, x, rfl, hx, hlx, hsx, hc⟩ := lists_at (Q1.out.below Y.out.2.2) (Q2.out.below Y.out.2.2) (j := i2) (by have := H.out.l0; omega)
            have hxr := L2.out x (List.mem_of_getElem? hx)
            have Hx := Lib.hid hx; have Hlx := Lib.hid hlx; have Hsx := Lib.hid hsx
            have hqq : q ≤ 2048 := by omega
            clear hx hlx hsx
            obtain ⟨qa, hqa⟩ : ∃ x, (numB q).length = x := ⟨_, rfl⟩
            have hqa9 := numB_len9 (n := q) (by omega)
            rw [hqa] at hqa9
            have hta : (bytesV (numB q ++ x)).length = qa + q := by rw [bytes_length, List.length_append, hqa, Hlx.out]
            have Hta := Lib.hid hta; clear hta hqa
            have hn9 : n9 ≤ 70000 := by have h1 := (Hpart.out 0 i2).2.1; have h2 := Y.out.2.1; omega
            go_wp2_with (first
              | (go_at_call 31; refine (FText_any P q cc x _ Hlx.out (by omega) Hsx.out).mono ?_; rintro e wa ⟨Aa, ea, rfl, howna, hba⟩; rw [Hta.out] at howna ⊢; have Hba := Lib.hid hba; have Howna := Lib.hid howna; clear howna hba)
              | (at_builtin; refine wpList_app2 rfl (.tmp 47) (.tmp 53) _ rfl 5 _ 1 Try.underlying23 u8_info rfl w1.heap.size A9 n9 c9 (bytesV (P2 m ++ encT (m.ls.take i2))) rfl (own_below Y.out.1 Hba.out) Aa (qa + q) ea (bytesV (numB q ++ x)) rfl Hta.out (Seen.of_own Howna.out) (bytes_one _) (by unfold maxLen; omega) (by omega) (Nat.le_trans Y.out.2.2.size Hba.out.size) ?_; intro Ab cb wb hownb hgb _; have Hzb := Lib.hid (Y.out.app Hba.out hgb hownb (by rw [← bytes_length]; exact Hta.out)); clear hownb hgb))
            go_roundw
            case rel => exact ⟨i2 + 1, Ab, n9 + (qa + q), cb, by go_num, rfl, by omega, by rw [encT_take Hx.out, Hlx.out, ← List.append_assoc]; exact Hzb.out⟩
            case measure => simp [intOf]; omega
          · obtain rfl : i2 = ln := by omega
            have hz := Y.out
            rw [← H.out.l0, List.take_length, ← fieldsM_eq] at hz
            have Y2 := Lib.hid hz
            clear hz
            go_wp2_with fail
            refine (RSeal_any A9 n9 c9 (fieldsM m) _ Y2.out.2.1 (Seen.of_own Y2.out.1) (by have := Hfl.out; have := Y2.out.2.1; omega)).mono ?_
            rintro e w10 ⟨A10, c10, rfl, hown10, hb10⟩
            have hb := Hb1.out.trans ((Y2.out.2.2.trans (hb10.mono Y2.out.2.2.size)).mono Hb1.out.size)
            have ho := own_base hown10 (Nat.le_trans Hb1.out.size Y2.out.2.2.size)
            have Hb := Lib.hid hb; have Ho := Lib.hid ho
            clear hb ho hown10 hb10
            go_wp2
            go_ret
            exact ⟨A10, c10, rfl, Ho.out, Hb.out⟩
end Go.Proofs.Ytmlmkfooiikcgaa
