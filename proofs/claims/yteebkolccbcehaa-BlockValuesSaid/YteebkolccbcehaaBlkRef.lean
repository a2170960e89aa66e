/-
  Contracts of the document's contents (dotterelref21): New, Write, Trim, Read, Load. Conditions: bytes that can be read, numbers that an int holds.
-/
import Derived.Test.YteebkolccbcehaaBlkLd
namespace Go.Proofs.Yteebkolccbcehaa
open Go.ChangeShapes Go.WideShapes Go.ChangeAt Go.RowKit
set_option linter.unusedVariables false
set_option linter.unusedSimpArgs false

theorem RNew_any (w : World) : Calls Try.prog 8 #[] w fun e w' => ∃ A, e = .returned (.slice A 128 128) ∧ Seen w' A (bytesV z128) ∧ (∀ p q, A = some ⟨p, q, none⟩ → w.heap.size ≤ p) ∧ Below w.heap.size w w' := by
  obtain ⟨i0, hi, hz0, hz1, hz2⟩ := info_parts u8_info
  go_enter Try.func8, Try.ntmps8
  go_wp2_with (at_make; go_loud (refine wpList_make_full _ rfl (.const (.int .i64 128)) (.const (.int .i64 128)) _ rfl w.heap.size 5 i0 (.int .u8 0) 1 Try.underlying28 hi hz0 hz1 .i64 .i64 _ _ 128 rfl rfl (by omega) (by omega) (by rw [hz2]; omega) (by unfold maxLen; omega) (Nat.le_refl _) ?_; intro w1 hown hgr; rw [made_u8] at hown; have Hs1 := Lib.hid (Seen.of_own hown); have Hb1 := Lib.hid ((Below.refl w.heap.size w).grown hgr (Nat.le_refl _) (fun k e => by cases e)); clear hown hgr))
  go_ret
  exact ⟨_, rfl, Hs1.out, fun p q e => by injection e with e; injection e with e1 e2; omega, Hb1.out⟩
theorem RWrite_no (A : Option Addr) (n c : Nat) (i : Int) (B : Option Addr) (m d : Nat) (w : World) (h : isB i = true → m ≠ 16) :
    Calls Try.prog 9 #[.slice A n c, .int .i64 i, .slice B m d] w fun e w' => e = .returned (.tuple #[.slice A n c, .int .i64 1]) ∧ w = w' := by
  by_cases h0 : i < 0
  · clear h
    go_enter Try.func9, Try.ntmps9
    go_wp2
    go_ret2
    exact ⟨rfl, rfl⟩
  · by_cases h7 : i > 7
    · clear h
      go_enter Try.func9, Try.ntmps9
      go_wp2
      go_ret2
      exact ⟨rfl, rfl⟩
    · have hm : ((m : Int) == 16) = false := by
        have := h (by unfold isB; simp; omega)
        rw [beq_eq_false_iff_ne]; omega
      clear h
      go_enter Try.func9, Try.ntmps9
      go_wp2
      go_ret2
      exact ⟨rfl, rfl⟩
set_option maxRecDepth 100000 in
set_option maxHeartbeats 2000000 in
theorem RWrite_yes1 (A : Option Addr) (c : Nat) (l : List UInt8) (i : Nat) (B : Option Addr) (d : Nat) (b : List UInt8) (w : World) (hl : l.length = 128) (hc : 128 ≤ c) (hcm : c ≤ maxLen) (hs : Seen w A (bytesV l)) (hi : i < 8) (hb : b.length = 16) (hsb : Seen w B (bytesV b)) (hne : ¬ c = 16 * i + 16) :
    Calls Try.prog 9 #[.slice A 128 c, .int .i64 (i : Int), .slice B 16 d] w fun e w' => ∃ A2 c2, e = .returned (.tuple #[.slice A2 128 c2, .int .i64 0]) ∧ 128 ≤ c2 ∧ c2 ≤ maxLen ∧ Seen w' A2 (bytesV (setB l i b)) ∧ (∀ p q, A2 = some ⟨p, q, none⟩ → w.heap.size ≤ p) ∧ Below w.heap.size w w' := by
  unfold maxLen at hcm
  obtain ⟨p, q, rfl⟩ : ∃ p q, A = some ⟨p, q, none⟩ := by
    rcases hs with h0 | ⟨p, q, hA, _⟩
    · have := congrArg List.length h0; simp [bytes_length, hl] at this
    · exact ⟨p, q, hA⟩
  have g0 : ¬ (i : Int) < 0 := by omega
  have g7 : ¬ (i : Int) > 7 := by omega
  have i0 : (0 : Int) ≤ (i : Int) := by omega
  have i8 : (i : Int) < 8 := by omega
  have Hs := Lib.hid hs; have Hsb := Lib.hid hsb; have Hl := Lib.hid hl; have Hb := Lib.hid hb
  clear hs hsb hl hb
  go_enter Try.func9, Try.ntmps9
  have hown0 : (w.alloc (.cells #[] 5)).ownsRow w.heap.size 5 1 (.slice (some ⟨w.heap.size, 0, none⟩) 0 0) 0 [] := World.ownsRow_lit w #[] 0 (Nat.le_refl _) (by unfold maxLen; omega) rfl
  have hb0 : Below w.heap.size w (w.alloc (.cells #[] 5)) := (Below.refl _ _).alloc (Nat.le_refl _) _
  go_wp2_with (at_builtin; first
    | (refine wpList_app rfl (.tmp 30) (.tmp 35) _ rfl 5 _ 1 Try.underlying28 u8_info rfl w.heap.size A3 (16 * i + 16) c3 (bytesV (l.take (16 * i) ++ b)) rfl hown3 _ _ _ (bytesV (l.drop (16 * i + 16))) rfl (by have := Hl.out; rw [bytes_length]; simp; omega) (by have := seen_drop (K := 16 * i + 16) (c := c) (Hs.out.below hb3) (by have := Hl.out; omega); first | (rw [if_neg (by omega)] at this; exact this) | (rw [if_pos (by omega)] at this; exact this)) (bytes_one _) (by unfold maxLen; omega) (by omega) hb3.size ?_; intro A4 c4 w4 hown4 hb4; have Hown4 := Lib.hid hown4; have Hb4 := Lib.hid (hb3.trans hb4); clear hown4 hb4 hown3 hb3)
    | (refine wpList_app rfl (.tmp 27) (.tmp 28) _ rfl 5 _ 1 Try.underlying28 u8_info rfl w.heap.size A2 (16 * i) c2 (bytesV (l.take (16 * i))) rfl hown2 B 16 d (bytesV b) rfl (by rw [bytes_length]; exact Hb.out) (Hsb.out.below hb2) (bytes_one _) (by unfold maxLen; omega) (by omega) hb2.size ?_; intro A3 c3 w3 hown3 hb3'; have hb3 := hb2.trans hb3'; rw [← bytes_append] at hown3; clear hb3' hown2 hb2)
    | (refine wpList_app rfl (.tmp 21) (.tmp 25) _ rfl 5 _ 1 Try.underlying28 u8_info rfl w.heap.size _ 0 0 [] rfl hown0 (some ⟨p, q, none⟩) (16 * i) c (bytesV (l.take (16 * i))) rfl (by have := Hl.out; rw [bytes_length]; simp; omega) (seen_take _ (Hs.out.below hb0)) (bytes_one _) (by unfold maxLen; omega) (by omega) hb0.size ?_; intro A2 c2 w2 hown2 hb2'; simp only [Nat.zero_add, List.nil_append] at hown2; simp only [Nat.zero_add]; have hb2 := hb0.trans hb2'; clear hb2' hown0 hb0))
  go_ret2
  have e : bytesV (l.take (16 * i) ++ b) ++ bytesV (l.drop (16 * i + 16)) = bytesV (setB l i b) := by rw [← bytes_append]; rfl
  have := Hown4.out
  rw [e, show 16 * i + 16 + (128 - (16 * i + 16)) = 128 by omega] at this
  obtain ⟨h1, h2⟩ := own_cap this (by omega)
  exact ⟨A4, c4, by rw [show 16 * i + 16 + (112 - 16 * i) = 128 by omega]; rfl, h1, h2, Seen.of_own this, fun p q e => by subst e; exact own_lo this p rfl, Hb4.out⟩
set_option maxRecDepth 100000 in
set_option maxHeartbeats 2000000 in
theorem RWrite_yes2 (A : Option Addr) (l : List UInt8) (B : Option Addr) (d : Nat) (b : List UInt8) (w : World) (hl : l.length = 128) (hs : Seen w A (bytesV l)) (hb : b.length = 16) (hsb : Seen w B (bytesV b)) :
    Calls Try.prog 9 #[.slice A 128 128, .int .i64 7, .slice B 16 d] w fun e w' => ∃ A2 c2, e = .returned (.tuple #[.slice A2 128 c2, .int .i64 0]) ∧ 128 ≤ c2 ∧ c2 ≤ maxLen ∧ Seen w' A2 (bytesV (setB l 7 b)) ∧ (∀ p q, A2 = some ⟨p, q, none⟩ → w.heap.size ≤ p) ∧ Below w.heap.size w w' := by
  obtain ⟨p, q, rfl⟩ : ∃ p q, A = some ⟨p, q, none⟩ := by
    rcases hs with h0 | ⟨p, q, hA, _⟩
    · have := congrArg List.length h0; simp [bytes_length, hl] at this
    · exact ⟨p, q, hA⟩
  have Hs := Lib.hid hs; have Hsb := Lib.hid hsb; have Hl := Lib.hid hl; have Hb := Lib.hid hb
  clear hs hsb hl hb
  go_enter Try.func9, Try.ntmps9
  have hown0 : (w.alloc (.cells #[] 5)).ownsRow w.heap.size 5 1 (.slice (some ⟨w.heap.size, 0, none⟩) 0 0) 0 [] := World.ownsRow_lit w #[] 0 (Nat.le_refl _) (by unfold maxLen; omega) rfl
  have hb0 : Below w.heap.size w (w.alloc (.cells #[] 5)) := (Below.refl _ _).alloc (Nat.le_refl _) _
  go_wp2_with (at_builtin; first
    | (refine wpList_app rfl (.tmp 30) (.tmp 35) _ rfl 5 _ 1 Try.underlying28 u8_info rfl w.heap.size A3 128 c3 (bytesV (l.take 112 ++ b)) rfl hown3 _ _ _ (bytesV (l.drop 128)) rfl (by have := Hl.out; rw [bytes_length]; simp; omega) (by have := seen_drop (K := 128) (c := 128) (Hs.out.below hb3) (by have := Hl.out; omega); first | (rw [if_neg (by omega)] at this; exact this) | (rw [if_pos (by omega)] at this; exact this)) (bytes_one _) (by unfold maxLen; omega) (by omega) hb3.size ?_; intro A4 c4 w4 hown4 hb4; have Hown4 := Lib.hid hown4; have Hb4 := Lib.hid (hb3.trans hb4); clear hown4 hb4 hown3 hb3)
    | (refine wpList_app rfl (.tmp 27) (.tmp 28) _ rfl 5 _ 1 Try.underlying28 u8_info rfl w.heap.size A2 112 c2 (bytesV (l.take 112)) rfl hown2 B 16 d (bytesV b) rfl (by rw [bytes_length]; exact Hb.out) (Hsb.out.below hb2) (bytes_one _) (by unfold maxLen; omega) (by omega) hb2.size ?_; intro A3 c3 w3 hown3 hb3'; have hb3 := hb2.trans hb3'; rw [← bytes_append] at hown3; clear hb3' hown2 hb2)
    | (refine wpList_app rfl (.tmp 21) (.tmp 25) _ rfl 5 _ 1 Try.underlying28 u8_info rfl w.heap.size _ 0 0 [] rfl hown0 (some ⟨p, q, none⟩) 112 128 (bytesV (l.take 112)) rfl (by have := Hl.out; rw [bytes_length]; simp; omega) (seen_take 112 (Hs.out.below hb0)) (bytes_one _) (by unfold maxLen; omega) (by omega) hb0.size ?_; intro A2 c2 w2 hown2 hb2'; simp only [Nat.zero_add, List.nil_append] at hown2; simp only [Nat.zero_add]; have hb2 := hb0.trans hb2'; clear hb2' hown0 hb0))
  go_ret2
  have e : bytesV (l.take 112 ++ b) ++ bytesV (l.drop 128) = bytesV (setB l 7 b) := by rw [← bytes_append]; rfl
  have := Hown4.out
  rw [e] at this
  obtain ⟨h1, h2⟩ := own_cap this (by omega)
  exact ⟨A4, c4, rfl, h1, h2, Seen.of_own this, fun p q e => by subst e; exact own_lo this p rfl, Hb4.out⟩
theorem RWrite_yes (A : Option Addr) (c : Nat) (l : List UInt8) (i : Nat) (B : Option Addr) (d : Nat) (b : List UInt8) (w : World) (hl : l.length = 128) (hc : 128 ≤ c) (hcm : c ≤ maxLen) (hs : Seen w A (bytesV l)) (hi : i < 8) (hb : b.length = 16) (hsb : Seen w B (bytesV b)) :
    Calls Try.prog 9 #[.slice A 128 c, .int .i64 (i : Int), .slice B 16 d] w fun e w' => ∃ A2 c2, e = .returned (.tuple #[.slice A2 128 c2, .int .i64 0]) ∧ 128 ≤ c2 ∧ c2 ≤ maxLen ∧ Seen w' A2 (bytesV (setB l i b)) ∧ (∀ p q, A2 = some ⟨p, q, none⟩ → w.heap.size ≤ p) ∧ Below w.heap.size w w' := by
  by_cases h : c = 16 * i + 16
  · obtain rfl : i = 7 := by omega
    obtain rfl : c = 128 := by omega
    exact RWrite_yes2 A l B d b w hl hs hb hsb
  · exact RWrite_yes1 A c l i B d b w hl hc hcm hs hi hb hsb h
/-- Trim -/
theorem RTrim_no (A : Option Addr) (n c : Nat) (i : Int) (w : World) (h : isB i = false) :
    Calls Try.prog 11 #[.slice A n c, .int .i64 i] w fun e w' => e = .returned (.tuple #[.slice A n c, .int .i64 1]) ∧ Below w.heap.size w w' := by
  obtain ⟨i0, hi, hz0, hz1, hz2⟩ := info_parts u8_info
  have K := Lib.hid (fun B m d V => RWrite_no A n c i B m d V (fun e => by rw [h] at e; cases e))
  clear h
  go_enter Try.func11, Try.ntmps11
  go_wp2_with (first
    | (at_make; go_loud (refine wpList_make_full _ rfl (.const (.int .i64 16)) (.const (.int .i64 16)) _ rfl w.heap.size 5 i0 (.int .u8 0) 1 Try.underlying28 hi hz0 hz1 .i64 .i64 _ _ 16 rfl rfl (by omega) (by omega) (by rw [hz2]; omega) (by unfold maxLen; omega) (Nat.le_refl _) ?_; intro w1 hown hgr; have Hb1 := Lib.hid ((Below.refl w.heap.size w).grown hgr (Nat.le_refl _) (fun k e => by cases e)); clear hown hgr))
    | (go_at_call 9; refine (K.out _ _ _ _).mono ?_; rintro e w2 ⟨rfl, rfl⟩))
  go_ret2
  exact ⟨rfl, Hb1.out⟩
theorem RTrim_yes (A : Option Addr) (c : Nat) (l : List UInt8) (i : Nat) (w : World) (hl : l.length = 128) (hc : 128 ≤ c) (hcm : c ≤ maxLen) (hs : Seen w A (bytesV l)) (hi : i < 8) :
    Calls Try.prog 11 #[.slice A 128 c, .int .i64 (i : Int)] w fun e w' => ∃ A2 c2, e = .returned (.tuple #[.slice A2 128 c2, .int .i64 0]) ∧ 128 ≤ c2 ∧ c2 ≤ maxLen ∧ Seen w' A2 (bytesV (setB l i zB)) ∧ (∀ p q, A2 = some ⟨p, q, none⟩ → w.heap.size ≤ p) ∧ Below w.heap.size w w' := by
  obtain ⟨i0, hif, hz0, hz1, hz2⟩ := info_parts u8_info
  have Hs := Lib.hid hs; have Hi := Lib.hid hi
  clear hs hi
  go_enter Try.func11, Try.ntmps11
  go_wp2_with (first
    | (at_make; go_loud (refine wpList_make_full _ rfl (.const (.int .i64 16)) (.const (.int .i64 16)) _ rfl w.heap.size 5 i0 (.int .u8 0) 1 Try.underlying28 hif hz0 hz1 .i64 .i64 _ _ 16 rfl rfl (by omega) (by omega) (by rw [hz2]; omega) (by unfold maxLen; omega) (Nat.le_refl _) ?_; intro w1 hown hgr; rw [made_u8] at hown; have Hb1 := Lib.hid ((Below.refl w.heap.size w).grown hgr (Nat.le_refl _) (fun k e => by cases e)); have Hz1 := Lib.hid (Seen.of_own hown); clear hown hgr))
    | (go_at_call 9; refine (RWrite_yes A c l i _ 16 zB _ hl hc hcm (Hs.out.below Hb1.out) Hi.out rfl Hz1.out).mono ?_; rintro e w2 ⟨A2, c2, rfl, h1, h2, h3, h4, hb2⟩; have B2 := Lib.hid (Hb1.out.trans (hb2.mono Hb1.out.size)); have H3 := Lib.hid h3; have H4 := Lib.hid h4; clear h3 h4 hb2))
  go_ret2
  exact ⟨A2, c2, rfl, h1, h2, H3.out, fun p q e => Nat.le_trans Hb1.out.size (H4.out p q e), B2.out⟩
theorem RRead_no (A : Option Addr) (n c : Nat) (i : Int) (w : World) (h : isB i = false) :
    Calls Try.prog 16 #[.slice A n c, .int .i64 i] w fun e w' => e = .returned (.tuple #[.slice none 0 0, .int .i64 1]) ∧ w = w' := by
  have h' : i < 0 ∨ i > 7 := by unfold isB at h; simp at h; omega
  clear h
  by_cases h0 : i < 0
  · clear h'
    go_enter Try.func16, Try.ntmps16
    go_wp2
    go_ret2
    exact ⟨rfl, rfl⟩
  · have h7 : i > 7 := by omega
    clear h'
    go_enter Try.func16, Try.ntmps16
    go_wp2
    go_ret2
    exact ⟨rfl, rfl⟩
/-- what the document's Read answers of a block that is there -/
def RReadRet (l : List UInt8) (i : Nat) (w : World) (e : Ending) (w' : World) : Prop := (∃ A2 c2, e = .returned (.tuple #[.slice A2 16 c2, .int .i64 0]) ∧ Seen w' A2 (bytesV (getB l i))) ∧ w = w'
theorem RRead_yes (A : Option Addr) (c : Nat) (l : List UInt8) (i : Nat) (w : World) (hl : l.length = 128) (hc : 128 ≤ c) (hcm : c ≤ maxLen) (hs : Seen w A (bytesV l)) (hi : i < 8) :
    Calls Try.prog 16 #[.slice A 128 c, .int .i64 (i : Int)] w (RReadRet l i w) := by
  unfold maxLen at hcm
  obtain ⟨p, q, rfl⟩ : ∃ p q, A = some ⟨p, q, none⟩ := by
    rcases hs with h0 | ⟨p, q, hA, _⟩
    · have := congrArg List.length h0; simp [bytes_length, hl] at this
    · exact ⟨p, q, hA⟩
  have g0 : ¬ (i : Int) < 0 := by omega
  have g7 : ¬ (i : Int) > 7 := by omega
  have i0 : (0 : Int) ≤ (i : Int) := by omega
  have i8 : (i : Int) < 8 := by omega
  have hne : ¬ c = 16 * i := by omega
  have hsd := seen_take 16 (seen_drop_n (K := 16 * i) hne hs (by omega))
  have Hsd := Lib.hid (show Seen w (some ⟨p, q + 16 * i, none⟩) (bytesV (getB l i)) from by simp only [Option.map_some, Addr.add_mid] at hsd; exact hsd)
  clear hs hsd hl
  go_enter Try.func16, Try.ntmps16
  go_wp2
  go_ret2
  exact ⟨⟨some ⟨p, q + 16 * i, none⟩, _, rfl, Hsd.out⟩, rfl⟩
/-- what the document's Load answers -/
def RLoadRet (bs : List UInt8) (w : World) (e : Ending) (w' : World) : Prop := (∃ v, e = .returned (.tuple #[v, .bool (okB bs)])) ∧ Below w.heap.size w w'
theorem RLoad_any (A : Option Addr) (n c : Nat) (bs : List UInt8) (w : World) (hn : bs.length = n) (hl : n ≤ 900000) (hc : n ≤ c) (hcm : c ≤ maxLen) (hs : Seen w A (bytesV bs)) :
    Calls Try.prog 21 #[.slice A n c] w (RLoadRet bs w) := by
  have K := ROpen_any A n c bs w hn hl hc hcm hs
  cases ho : openB bs with
  | false =>
    rw [ho] at K
    have Hk := Lib.hid (show okB bs = false from by unfold okB; rw [ho]; rfl)
    clear ho hs hn
    go_enter Try.func21, Try.ntmps21
    go_wp2_with (go_at_call 27; refine K.mono ?_; rintro e w2 ⟨rfl, hb⟩; have Hb := Lib.hid hb; clear hb; simp only [Bool.false_eq_true, if_false])
    go_ret2
    exact ⟨⟨_, by rw [Hk.out]; rfl⟩, Hb.out⟩
  | true =>
    rw [ho] at K
    have h4 : 4 ≤ n := by unfold openB at ho; simp at ho; omega
    by_cases h : n = 132
    · subst h
      have Hk := Lib.hid (show okB bs = true from by unfold okB; rw [ho]; simp; omega)
      clear ho hs hn
      go_enter Try.func21, Try.ntmps21
      go_wp2_with (go_at_call 27; refine K.mono ?_; rintro e w2 ⟨rfl, hb⟩; have Hb := Lib.hid hb; clear hb; simp only [if_true])
      go_ret2
      exact ⟨⟨_, by rw [Hk.out]; rfl⟩, Hb.out⟩
    · have Hk := Lib.hid (show okB bs = false from okB_no (by omega))
      obtain ⟨m, hm⟩ : ∃ m, n - 4 = m := ⟨_, rfl⟩
      rw [hm] at K
      have g : ((m : Int) == 128) = false := by rw [beq_eq_false_iff_ne]; omega
      clear ho hs hn hm h
      go_enter Try.func21, Try.ntmps21
      go_wp2_with (go_at_call 27; refine K.mono ?_; rintro e w2 ⟨rfl, hb⟩; have Hb := Lib.hid hb; clear hb; simp only [if_true])
      go_ret2
      exact ⟨⟨_, by rw [Hk.out]; rfl⟩, Hb.out⟩
end Go.Proofs.Yteebkolccbcehaa
