/-
  Contracts of dotterelref22's Put (any arguments) and Bytes. Conditions: what each names.
-/
import Derived.Test.YtkjfaijdmpnjkaaDupRf2
namespace Go.Proofs.Ytkjfaijdmpnjkaa
open Go.ChangeShapes Go.WideShapes Go.ChangeAt Go.RowKit
set_option linter.unusedVariables false

set_option maxRecDepth 100000 in
set_option maxHeartbeats 4000000 in
theorem RPut_any (A : Option Addr) (m cp : Nat) (x : List Lst) (c n e : Int) (w : World) (hl : x.length = m) (hm : m ≤ 1000) (hmc : m ≤ cp) (hcp : cp ≤ maxLen) (hs : ListAt w A x) :
    Calls Try.prog 7 #[.slice A m cp, .int .i64 c, .int .i64 n, .int .i64 e] w (RPutRet x c n e w) := by
  cases hR : rightL c n e with
  | false =>
    refine (RPut_arg A m cp c n e w (fun h => by rw [rightL_iff.2 h] at hR; cases hR)).mono ?_
    rintro en w' ⟨rfl, rfl⟩
    exact RPutRet.same rfl (by unfold putA; rw [if_pos hR]) (by decide) hl hmc hcp hs (Below.refl _ _)
  | true =>
    have hr := rightL_iff.1 hR
    by_cases h0 : putA x c n e = 0
    · exact RPut_store A m cp x c n e w hl hm hs hr h0
    have KA := Lib.hid (At_any A m cp x c w hl (by omega) hs)
    have g1 : ¬ c < 0 := by omega
    have g2 : ¬ c > 255 := by omega
    have g3 : ¬ n < 1 := by omega
    have g4 : ¬ n > 1099511627776 := by omega
    have g5 : ¬ e < 0 := by omega
    have g6 : ¬ e > 63 := by omega
    have Hl := Lib.hid hl; have Hs := Lib.hid hs; have H0 := Lib.hid h0; have HR := Lib.hid hR; have Hmc := Lib.hid hmc; have Hcp := Lib.hid hcp
    clear hl hs h0 hR hr hmc hcp
    go_enter Try.func7, Try.ntmps7
    go_upto_region 4 with (go_at_call 16; refine KA.out.mono ?_; rintro e w1 ⟨v, rfl, hv, rfl⟩)
    rcases hv with ⟨rfl, hat⟩ | ⟨i, l, rfl, hi, hat⟩
    · have hp : ∀ a, (if 32 ≤ x.length then (6 : Int) else 0) = a → putA x c n e = a := fun a h => by
        unfold putA
        rw [hat, if_neg (by rw [HR.out]; decide)]
        exact h
      have hn : 32 ≤ x.length := by
        by_cases h : 32 ≤ x.length
        · exact h
        · exact absurd (hp 0 (if_neg h)) H0.out
      have Hp := Lib.hid (hp 6 (if_pos hn))
      have q1 : (m : Int) ≥ 32 := by have := Hl.out; omega
      clear hat hp hn
      go_wp2
      go_ret2
      exact RPutRet.same rfl Hp.out (by decide) Hl.out Hmc.out Hcp.out Hs.out (Below.refl _ _)
    · obtain ⟨g, o, rfl, d0, d1, d2⟩ := Hs.out.get hi
      have hin : i < m := by have := (List.getElem?_eq_some_iff.1 hi).1; have := Hl.out; omega
      have hp : ∀ a, (if n ≤ l.2.1 then (13 : Int) else 0) = a → putA x c n e = a := fun a h => by
        unfold putA
        rw [hat, if_neg (by rw [HR.out]; decide)]
        exact h
      have q1 : n ≤ l.2.1 := by
        by_cases h : n ≤ l.2.1
        · exact h
        · exact absurd (hp 0 (if_neg h)) H0.out
      have Hp := Lib.hid (hp 13 (if_pos q1))
      have i0 : (0 : Int) ≤ (i : Int) := by omega
      have i1 : (i : Int) < (m : Int) := by omega
      have i2 : ¬ (i : Int) < 0 := by omega
      clear hat hi hp
      go_wp2
      go_ret2
      exact RPutRet.same rfl Hp.out (by decide) Hl.out Hmc.out Hcp.out Hs.out (Below.refl _ _)

/-! ### Bytes -/
theorem flat_snoc (x : List Lst) (i : Nat) {l : Lst} (hi : x[i]? = some l) : flatL (x.take (i + 1)) = flatL (x.take i) ++ lstB l := by
  rw [take_snocL hi, flatL_snoc]
theorem flat_len {x : List Lst} (h : TabOk x) (i : Nat) : (flatL (x.take i)).length ≤ 864 := by
  have h1 := flatL_len (x := x.take i) fun l hl => h.right l (List.mem_of_mem_take hl)
  have h2 : (x.take i).length ≤ 32 := by rw [List.length_take]; have := h.len; omega
  omega
/-- what is written up to here, in a row of its own -/
def OutAt (w wr : World) (A : Option Addr) (k c : Nat) (ys : List UInt8) : Prop := ys.length = k ∧ wr.ownsRow w.heap.size 5 1 (.slice A k c) k (bytesV ys) ∧ Below w.heap.size w wr

set_option maxRecDepth 100000 in
set_option maxHeartbeats 4000000 in
theorem RBytes_any (A : Option Addr) (m cp : Nat) (x : List Lst) (w : World) (hl : x.length = m) (hs : ListAt w A x) (hx : TabOk x) :
    Calls Try.prog 15 #[.slice A m cp] w (OwnRet 5 (bytesV (bytesL x)) w) := by
  have hm : m ≤ 32 := by have := hx.len; omega
  have Hl := Lib.hid hl; have Hs := Lib.hid hs; have Hx := Lib.hid hx
  clear hl hs hx
  have KN := Lib.hid (FNum_any (m : Int) w (by omega) (by omega))
  rw [toNat_of] at KN
  go_enter Try.func15, Try.ntmps15
  go_wp2_with (go_at_call 26; refine KN.out.mono ?_; rintro e w1 ⟨A1, c1, rfl, ho1, hb1⟩; rw [bytes_length] at ho1 ⊢; have Ho1 := Lib.hid ho1; have Hb1 := Lib.hid hb1; clear ho1 hb1)
  go_loopw [3, 4] (fun sv iv wr => ∃ (i k : Nat) (A' : Option Addr) (c' : Nat), i ≤ m ∧ iv = .int .i64 (i : Int) ∧ sv = .slice A' k c' ∧ OutAt w wr A' k c' (numB m ++ flatL (x.take i))) (fun _ iv _ => m - (intOf iv).toNat)
  case atStart => exact ⟨0, _, A1, c1, by omega, rfl, rfl, by simp [flatL], by simpa [flatL] using Ho1.out, Hb1.out⟩
  case round =>
    obtain ⟨i, k, A', c', hin, rfl, rfl, hk, ho, hb⟩ := hrel
    have Hk := Lib.hid hk
    have hfl := flat_len Hx.out i
    have hn9 := numB_len9 (n := m) (by omega)
    have hk9 : k ≤ 900 := by rw [List.length_append] at hk; omega
    clear hfl hn9 hk
    by_cases hi : i < m
    · obtain ⟨r, hr⟩ : ∃ r, x[i]? = some r := ⟨_, List.getElem?_eq_getElem (by have := Hl.out; omega)⟩
      have hright := rightL_iff.1 (Hx.out.right r (List.mem_of_getElem? hr))
      obtain ⟨g, o, hAg, d0, d1, d2⟩ := Hs.out.get hr
      cases hAg
      obtain ⟨rc, rn, re⟩ := r
      simp only at hright d0 d1 d2
      have l1 := numB_len9 (n := rc.toNat) (by omega)
      have l2 := numB_len9 (n := rn.toNat) (by omega)
      have l3 := numB_len9 (n := re.toNat) (by omega)
      obtain ⟨p1, e1⟩ : ∃ p, (numB rc.toNat).length = p := ⟨_, rfl⟩
      obtain ⟨p2, e2⟩ : ∃ p, (numB rn.toNat).length = p := ⟨_, rfl⟩
      obtain ⟨p3, e3⟩ : ∃ p, (numB re.toNat).length = p := ⟨_, rfl⟩
      rw [e1] at l1; rw [e2] at l2; rw [e3] at l3
      have E1 := Lib.hid e1; have E2 := Lib.hid e2; have E3 := Lib.hid e3
      have c0 := (hb.cell (block_lt_of_cell d0)).trans d0
      have F1 := Lib.hid d1; have F2 := Lib.hid d2
      have Ho := Lib.hid ho; have Hb := Lib.hid hb; have Hr := Lib.hid hr; have Hri := Lib.hid hright
      have i0 : (0 : Int) ≤ (i : Int) := by omega
      have i1 : (i : Int) < (m : Int) := by omega
      clear ho hb hr hright e1 e2 e3 d0 d1 d2
      go_wp2_with (first
        | (go_at_call_of 26 (Value.int .i64 rc); refine (FNum_any rc _ (by have := Hri.out; omega) (by have := Hri.out; omega)).mono ?_; rintro e5 v5 ⟨B5, b5, rfl, on5, bn5⟩; rw [bytes_length, E1.out] at on5 ⊢; have On5 := Lib.hid on5; have Oa5 := Lib.hid (own_belowM Ho.out bn5); have Ob5 := Lib.hid (Hb.out.trans (bn5.mono Hb.out.size)); clear on5 bn5)
        | (at_builtin; refine wpList_app rfl (.tmp 14) (.tmp 20) _ rfl 5 _ 1 Try.underlying36 u8_info rfl w.heap.size A' k c' (bytesV (numB m ++ flatL (x.take i))) rfl Oa5.out B5 p1 b5 (bytesV (numB rc.toNat)) rfl (by rw [bytes_length]; exact E1.out) (.of_own On5.out) (bytes_one _) (by unfold maxLen; omega) (by omega) Ob5.out.size ?_; intro C5 c5 w5 ho5 hb5; rw [← bytes_append] at ho5; have Hc5 := Lib.hid ho5; have Hd5 := Lib.hid (Ob5.out.trans hb5); have D51 := (Hd5.out.cell (block_lt_of_cell F1.out)).trans F1.out; have D52 := (Hd5.out.cell (block_lt_of_cell F2.out)).trans F2.out; clear ho5 hb5)
        | (go_at_call_of 26 (Value.int .i64 rn); refine (FNum_any rn _ (by have := Hri.out; omega) (by have := Hri.out; omega)).mono ?_; rintro e6 v6 ⟨B6, b6, rfl, on6, bn6⟩; rw [bytes_length, E2.out] at on6 ⊢; have On6 := Lib.hid on6; have Oa6 := Lib.hid (own_belowM Hc5.out bn6); have Ob6 := Lib.hid (Hd5.out.trans (bn6.mono Hd5.out.size)); clear on6 bn6)
        | (at_builtin; refine wpList_app rfl (.tmp 22) (.tmp 28) _ rfl 5 _ 1 Try.underlying36 u8_info rfl w.heap.size C5 (k + p1) c5 (bytesV (numB m ++ flatL (x.take i) ++ numB rc.toNat)) rfl Oa6.out B6 p2 b6 (bytesV (numB rn.toNat)) rfl (by rw [bytes_length]; exact E2.out) (.of_own On6.out) (bytes_one _) (by unfold maxLen; omega) (by omega) Ob6.out.size ?_; intro C6 c6 w6 ho6 hb6; rw [← bytes_append] at ho6; have Hc6 := Lib.hid ho6; have Hd6 := Lib.hid (Ob6.out.trans hb6); have D61 := (Hd6.out.cell (block_lt_of_cell F1.out)).trans F1.out; have D62 := (Hd6.out.cell (block_lt_of_cell F2.out)).trans F2.out; clear ho6 hb6)
        | (go_at_call_of 26 (Value.int .i64 re); refine (FNum_any re _ (by have := Hri.out; omega) (by have := Hri.out; omega)).mono ?_; rintro e7 v7 ⟨B7, b7, rfl, on7, bn7⟩; rw [bytes_length, E3.out] at on7 ⊢; have On7 := Lib.hid on7; have Oa7 := Lib.hid (own_belowM Hc6.out bn7); have Ob7 := Lib.hid (Hd6.out.trans (bn7.mono Hd6.out.size)); clear on7 bn7)
        | (at_builtin; refine wpList_app rfl (.tmp 30) (.tmp 36) _ rfl 5 _ 1 Try.underlying36 u8_info rfl w.heap.size C6 (k + p1 + p2) c6 (bytesV (numB m ++ flatL (x.take i) ++ numB rc.toNat ++ numB rn.toNat)) rfl Oa7.out B7 p3 b7 (bytesV (numB re.toNat)) rfl (by rw [bytes_length]; exact E3.out) (.of_own On7.out) (bytes_one _) (by unfold maxLen; omega) (by omega) Ob7.out.size ?_; intro C7 c7 w7 ho7 hb7; rw [← bytes_append] at ho7; have Hc7 := Lib.hid ho7; have Hd7 := Lib.hid (Ob7.out.trans hb7); have D71 := (Hd7.out.cell (block_lt_of_cell F1.out)).trans F1.out; have D72 := (Hd7.out.cell (block_lt_of_cell F2.out)).trans F2.out; clear ho7 hb7))
      go_roundw
      case rel =>
        have hsn := flat_snoc x i Hr.out
        have e9 : numB m ++ flatL (x.take (i + 1)) = numB m ++ flatL (x.take i) ++ numB rc.toNat ++ numB rn.toNat ++ numB re.toNat := by
          rw [hsn]
          unfold lstB
          simp only [List.append_assoc]
        refine ⟨i + 1, k + p1 + p2 + p3, C7, c7, by omega, by go_num, rfl, ?_, by rw [e9]; exact Hc7.out, Hd7.out⟩
        rw [e9, List.length_append, List.length_append, List.length_append, Hk.out, E1.out, E2.out, E3.out]
      case measure => simp [intOf]; omega
    · obtain rfl : i = m := by omega
      have i1 : ¬ (i : Int) < (i : Int) := by omega
      have hk := Hk.out
      rw [List.take_of_length_le (by rw [Hl.out]; exact Nat.le_refl _)] at ho hk
      have e9 : numB i ++ flatL x = bytesL x := by unfold bytesL; rw [Hl.out]
      rw [e9] at ho hk
      have Ho := Lib.hid ho; have Hb := Lib.hid hb; have Hk2 := Lib.hid hk
      clear ho hb hk e9
      go_wp2
      go_ret
      exact ⟨A', c', by rw [bytes_length, Hk2.out]; rfl, by rw [bytes_length, Hk2.out]; exact Ho.out, Hb.out⟩
end Go.Proofs.Ytkjfaijdmpnjkaa
