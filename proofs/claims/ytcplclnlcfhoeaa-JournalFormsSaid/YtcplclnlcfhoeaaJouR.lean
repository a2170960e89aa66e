/-
  Contract of the document's Form (dotterelref05).
-/
import Derived.Test.YtcplclnlcfhoeaaJouF
import Derived.Test.YtcplclnlcfhoeaaPackF
import Derived.Test.YtcplclnlcfhoeaaCrcE
namespace Go.Proofs.Ytcplclnlcfhoeaa
open Go.ChangeShapes Go.WideShapes Go.ChangeAt Go.RowKit
set_option linter.unusedVariables false

def lenV : Value → Nat
  | .slice _ n _ => n
  | _ => 0
/-- what the document's Form hands back -/
def RFormRet (gen n : Int) (t : List UInt8) (w : World) (en : Ending) (w' : World) : Prop :=
  Below w.heap.size w w' ∧
  ((formE gen n t ≠ 0 ∧ en = .returned (.tuple #[.slice none 0 0, .int .i64 (formE gen n t : Int)])) ∨
   (formE gen n t = 0 ∧ ∃ A m c, en = .returned (.tuple #[.slice A m c, .int .i64 0]) ∧ (formX 1 gen.toNat n.toNat t).length = m ∧ Seen w' A (bytesV (formX 1 gen.toNat n.toNat t))))

set_option maxRecDepth 100000 in
theorem RForm_range (gen n : Int) (A : Option Addr) (m c : Nat) (t : List UInt8) (w : World) (g1 : -9223372036854775808 ≤ gen) (g2 : gen ≤ 9223372036854775807) (n1 : -9223372036854775808 ≤ n) (n2 : n ≤ 9223372036854775807)
    (h : gen < 0 ∨ 1099511627776 < gen ∨ n < 0 ∨ 1099511627776 < n) :
    Calls Try.prog 8 #[.int .i64 gen, .int .i64 n, .slice A m c] w (RFormRet gen n t w) := by
  have e : formE gen n t = 5 := if_pos h
  have E := Lib.hid e; clear e
  by_cases h1 : gen < 0
  · clear h
    go_enter Try.func8, Try.ntmps8
    go_wp2
    go_ret2
    exact ⟨Below.refl _ _, .inl ⟨by rw [E.out]; simp, by rw [E.out]; rfl⟩⟩
  · by_cases h2 : 1099511627776 < gen
    · clear h
      go_enter Try.func8, Try.ntmps8
      go_wp2
      go_ret2
      exact ⟨Below.refl _ _, .inl ⟨by rw [E.out]; simp, by rw [E.out]; rfl⟩⟩
    · by_cases h3 : n < 0
      · clear h
        go_enter Try.func8, Try.ntmps8
        go_wp2
        go_ret2
        exact ⟨Below.refl _ _, .inl ⟨by rw [E.out]; simp, by rw [E.out]; rfl⟩⟩
      · have h4 : 1099511627776 < n := by omega
        clear h
        go_enter Try.func8, Try.ntmps8
        go_wp2
        go_ret2
        exact ⟨Below.refl _ _, .inl ⟨by rw [E.out]; simp, by rw [E.out]; rfl⟩⟩

set_option maxRecDepth 100000 in
set_option maxHeartbeats 4000000 in
theorem RForm_in (gen n : Nat) (A : Option Addr) (m c : Nat) (t : List UInt8) (w : World) (hg : gen ≤ 1099511627776) (hn : n ≤ 1099511627776) (hm : t.length = m) (h : m ≤ 1100) (hs : Seen w A (bytesV t)) :
    Calls Try.prog 8 #[.int .i64 (gen : Int), .int .i64 (n : Int), .slice A m c] w (RFormRet gen n t w) := by
  obtain ⟨B, hB⟩ : ∃ B, w.heap.size = B := ⟨_, rfl⟩
  have HB := Lib.hid hB
  have Hs := Lib.hid hs; clear hs
  have Hm := Lib.hid hm
  have hnl := numB_len9 (n := n) (by omega)
  have hgl := numB_len9 (n := gen) (by omega)
  have htl := numB_len9 (n := m) (by omega)
  have hfl := fields_length gen n t
  have hrl := rest_length gen n t
  rw [hm] at hfl
  obtain ⟨l1, hl1⟩ : ∃ l1, (numB gen).length = l1 := ⟨_, rfl⟩
  obtain ⟨l2, hl2⟩ : ∃ l2, (numB n).length = l2 := ⟨_, rfl⟩
  obtain ⟨l3, hl3⟩ : ∃ l3, (numB m).length = l3 := ⟨_, rfl⟩
  rw [hl2] at hnl hfl
  rw [hl1] at hgl hfl
  rw [hl3] at htl hfl
  obtain ⟨l, hl⟩ : ∃ l, (restB gen n t).length = l := ⟨_, rfl⟩
  rw [hl] at hrl
  have hlb : l ≤ 1200 := by omega
  have hl7 : 4 ≤ l := by omega
  have Hl1 := Lib.hid hl1; have Hl2 := Lib.hid hl2; have Hl3 := Lib.hid hl3; have Hl := Lib.hid hl; have Hfl := Lib.hid hfl; have Hrl := Lib.hid hrl
  clear hl1 hl2 hl3 hl hfl hrl hm hB
  go_enter Try.func8, Try.ntmps8
  go_wp2_with (first
    | (go_at_call_of 24 (Value.int .i64 (gen : Int)); refine (FNum_any gen w (by omega) (by omega)).mono ?_; rw [show ((gen : Int)).toNat = gen by omega]; rintro e w1 ⟨A1, c1, rfl, hown1, hb1⟩; rw [bytes_length, Hl1.out] at hown1 ⊢; have Hown1 := Lib.hid hown1; have Hb1 := Lib.hid hb1; clear hown1 hb1)
    | (fail))
  have hsz1 : w.heap.size ≤ w1.heap.size := Hb1.out.size
  refine (FNum_any n w1 (by omega) (by omega)).mono ?_
  rw [show ((n : Int)).toNat = n by omega]
  rintro e w2 ⟨A2, c2, rfl, hown2, hb2⟩
  rw [bytes_length, Hl2.out] at hown2 ⊢
  have Hown2 := Lib.hid hown2
  have Hown1' := Lib.hid (own_below Hown1.out hb2)
  have Hb2 := Lib.hid (Hb1.out.trans (hb2.mono hsz1))
  have hsz2 : w.heap.size ≤ w2.heap.size := Hb2.out.size
  clear hown2 hb2
  go_wp2_with (first
    | (at_builtin; refine wpList_app rfl (.tmp 25) (.tmp 27) _ rfl 5 _ 1 Try.underlying22 u8_info rfl w.heap.size A1 l1 c1 (bytesV (numB gen)) rfl Hown1'.out A2 l2 c2 (bytesV (numB n)) rfl (by rw [bytes_length]; exact Hl2.out) (Seen.of_own Hown2.out) (bytes_one _) (by unfold maxLen; omega) (by omega) hsz2 ?_; intro A3 c3 w3 hown3 hb3; rw [← bytes_append] at hown3; have Hown3 := Lib.hid hown3; have Hb3 := Lib.hid (Hb2.out.trans hb3); clear hown3 hb3)
    | (go_at_call 25; refine (FText_any A m c t w3 Hm.out (by omega) (Hs.out.below Hb3.out)).mono ?_; rintro e w4 ⟨A4, c4, rfl, hown4, hb4⟩; rw [bytes_length, List.length_append, Hl3.out, Hm.out] at hown4 ⊢; have Hown4 := Lib.hid hown4; have Hown3' := Lib.hid (own_below Hown3.out hb4); have Hb4 := Lib.hid (Hb3.out.trans (hb4.mono Hb3.out.size)); clear hown4 hb4)
    | (at_builtin; refine wpList_app rfl (.tmp 28) (.tmp 30) _ rfl 5 _ 1 Try.underlying22 u8_info rfl w.heap.size A3 (l1 + l2) c3 (bytesV (numB gen ++ numB n)) rfl Hown3'.out A4 (l3 + m) c4 (bytesV (numB m ++ t)) rfl (by rw [bytes_length, List.length_append, Hl3.out, Hm.out]) (Seen.of_own Hown4.out) (bytes_one _) (by unfold maxLen; omega) (by omega) Hb4.out.size ?_; intro A5 c5 w5 hown5 hb5; rw [← bytes_append] at hown5; have Hs5 := Lib.hid (show Seen w5 A5 (bytesV (fieldsOf gen n t)) from by unfold fieldsOf; rw [Hm.out]; exact Seen.of_own hown5); have Hb5 := Lib.hid (Hb4.out.trans hb5); clear hown5 hb5)
    | (go_at_call 23; refine (RSeal_any A5 (l1 + l2 + (l3 + m)) c5 (fieldsOf gen n t) w5 (by rw [Hfl.out]) Hs5.out (by omega)).mono ?_; rw [show sealOf (fieldsOf gen n t) = restB gen n t from rfl]; rintro e w6 ⟨A6, c6, rfl, hown6, hb6⟩; rw [bytes_length, Hl.out] at hown6 ⊢; have Hs6 := Lib.hid (Seen.of_own hown6); have Hb6 := Lib.hid (Hb5.out.trans (hb6.mono Hb5.out.size)); have hsz6 : w.heap.size ≤ w6.heap.size := Nat.le_trans Hb5.out.size hb6.size; clear hown6 hb6)
    | (at_builtin; refine wpList_app rfl (.tmp 42) (.tmp 43) _ rfl 5 _ 1 Try.underlying22 u8_info rfl w.heap.size (some ⟨w6.heap.size, 0, none⟩) 3 3 _ rfl (World.ownsRow_lit w6 #[.int .u8 1, .int .u8 ((l : Int) % 256), .int .u8 ((l : Int) / 256 % 256)] 3 hsz6 (by unfold maxLen; omega) rfl) A6 l c6 (bytesV (restB gen n t)) rfl (by rw [bytes_length]; exact Hl.out) (Hs6.out.alloc _) (bytes_one _) (by unfold maxLen; omega) (by omega) (by simp; omega) ?_; intro A7 c7 w7 hown7 hb7; have Hown7 := Lib.hid hown7; have Hb7 := Lib.hid ((Hb6.out.alloc hsz6 (.cells #[.int .u8 1, .int .u8 ((l : Int) % 256), .int .u8 ((l : Int) / 256 % 256)] 5)).trans hb7); clear hown7 hb7))
  obtain ⟨N0, hN0⟩ : ∃ N0, 3 + l = N0 := ⟨_, rfl⟩
  have hown8 : w7.ownsRow w.heap.size 5 1 (.slice A7 N0 c7) N0 (bytesV (headOf 1 l ++ restB gen n t)) := by
    have := Hown7.out
    rw [hN0] at this
    rw [bytes_append]
    have e1 : byteV (UInt8.ofNat l) = .int .u8 ((l : Int) % 256) := by simp [byteV]
    have e2 : byteV (UInt8.ofNat (l / 256)) = .int .u8 ((l : Int) / 256 % 256) := by simp [byteV]
    rw [← e1, ← e2, show (.int .u8 1 : Value) = byteV 1 from rfl] at this
    exact this
  have Hown8 := Lib.hid hown8; clear hown8 Hown7
  obtain ⟨q, hq⟩ : ∃ q, secsOf l = q := ⟨_, rfl⟩
  have hq1 : N0 ≤ 64 * q := by rw [← hN0, ← hq]; exact secs_le
  have hq2 : 64 * q < N0 + 64 := by rw [← hN0, ← hq]; unfold secsOf; omega
  have Hq := Lib.hid hq
  have HmanyE := Lib.hid (show manyOf gen n t = q by unfold manyOf; rw [Hl.out, hq])
  rw [hN0]
  clear hq
  go_loopw [9] (fun ov wr => ∃ (N : Nat) (A8 : Option Addr) (c8 : Nat), ov = .slice A8 N c8 ∧ N0 ≤ N ∧ N ≤ 64 * q ∧ wr.ownsRow w.heap.size 5 1 (.slice A8 N c8) N (bytesV (headOf 1 l ++ restB gen n t ++ List.replicate (N - N0) 0)) ∧ Below w.heap.size w wr) (fun ov _ => 64 * q - lenV ov)
  case atStart => exact ⟨N0, A7, c7, rfl, Nat.le_refl _, hq1, by rw [Nat.sub_self]; simpa using Hown8.out, Hb7.out⟩
  case round =>
    obtain ⟨N, A8, c8, rfl, hN1, hN2, hown, hbw⟩ := hrel
    have Hown := Lib.hid hown; have Hbw := Lib.hid hbw
    have hszr : w.heap.size ≤ wr.heap.size := hbw.size
    clear hown hbw
    by_cases hend : N = 64 * q
    · have hmod : (N : Int) % 64 = 0 := by omega
      have Hend := Lib.hid hend
      have hseen : Seen wr A8 (bytesV (formX 1 gen n t)) := by
        have := Seen.of_own Hown.out
        unfold formX
        rw [Hl.out]
        unfold padOf
        rw [Hq.out, hN0, ← List.append_assoc, ← Hend.out]
        exact this
      have hlen : (formX 1 gen n t).length = N := by rw [form_length, HmanyE.out, Hend.out]
      have Hseen := Lib.hid hseen; have Hlen := Lib.hid hlen
      clear hseen hlen hend
      by_cases h16 : 16 < q
      · have hE2 : formE (gen : Int) (n : Int) t = 15 := by unfold formE; rw [if_neg (by omega), if_pos (by simp only [Int.toNat_natCast, HmanyE.out]; exact h16)]
        have E := Lib.hid hE2; clear hE2
        have h16i : (1024 : Int) < (N : Int) := by have := Hend.out; omega
        go_wp2
        go_ret2
        exact ⟨Hbw.out, .inl ⟨by rw [E.out]; simp, by rw [E.out]; rfl⟩⟩
      · have hE2 : formE (gen : Int) (n : Int) t = 0 := by unfold formE; rw [if_neg (by omega), if_neg (by simp only [Int.toNat_natCast, HmanyE.out]; exact h16)]
        have E := Lib.hid hE2; clear hE2
        have h16i : ¬ (1024 : Int) < (N : Int) := by have := Hend.out; omega
        go_wp2
        go_ret2
        exact ⟨Hbw.out, .inr ⟨E.out, A8, N, c8, rfl, by rw [Int.toNat_natCast, Int.toNat_natCast]; exact Hlen.out, by rw [Int.toNat_natCast, Int.toNat_natCast]; exact Hseen.out⟩⟩
    · have hmod : ((N : Int) % 64 != 0) = true := by simp; omega
      go_wp2_with (at_builtin; refine wpList_app rfl (.tmp 49) (.tmp 50) _ rfl 5 _ 1 Try.underlying22 u8_info rfl w.heap.size A8 N c8 _ rfl (Hown.out.alloc _) (some ⟨wr.heap.size, 0, none⟩) 1 1 [.int .u8 0] rfl rfl (Seen.of_cells (heap_alloc_new wr _)) (by simp [Value.oneCell']) (by unfold maxLen; omega) (by omega) (by simp; omega) ?_; intro A9 c9 w9 hown9 hb9; have Hown9 := Lib.hid hown9; have Hb9 := Lib.hid ((Hbw.out.alloc hszr (.cells #[.int .u8 0] 5)).trans hb9); clear hown9 hb9)
      go_roundw
      case rel =>
        refine ⟨N + 1, A9, c9, rfl, by omega, by omega, ?_, Hb9.out⟩
        have := Hown9.out
        rw [show N + 1 - N0 = (N - N0) + 1 by omega, List.replicate_succ', ← List.append_assoc, bytes_append]
        exact this
      case measure => simp [lenV]; omega
theorem RForm_any (gen n : Int) (A : Option Addr) (m c : Nat) (t : List UInt8) (w : World) (g1 : -9223372036854775808 ≤ gen) (g2 : gen ≤ 9223372036854775807) (n1 : -9223372036854775808 ≤ n) (n2 : n ≤ 9223372036854775807)
    (hm : t.length = m) (h : m ≤ 1100) (hs : Seen w A (bytesV t)) : Calls Try.prog 8 #[.int .i64 gen, .int .i64 n, .slice A m c] w (RFormRet gen n t w) := by
  by_cases hr : gen < 0 ∨ 1099511627776 < gen ∨ n < 0 ∨ 1099511627776 < n
  · exact RForm_range gen n A m c t w g1 g2 n1 n2 hr
  · obtain ⟨g', rfl⟩ : ∃ g' : Nat, gen = (g' : Int) := ⟨gen.toNat, by omega⟩
    obtain ⟨n', rfl⟩ : ∃ n' : Nat, n = (n' : Int) := ⟨n.toNat, by omega⟩
    exact RForm_in g' n' A m c t w (by omega) (by omega) hm h hs
end Go.Proofs.Ytcplclnlcfhoeaa
