/-
  Contracts of dotterelref02 (the document's answer for crc): Sum, Seal, Open, for any bytes, up to a million of them.
-/
import Derived.Test.YteebkolccbcehaaCrcD
namespace Go.Proofs.Yteebkolccbcehaa
open Go.ChangeShapes Go.WideShapes Go.ChangeAt Go.RowKit
set_option linter.unusedVariables false

theorem xor_byte (r : Nat) (x : UInt8) (h : r < 4294967296) : bits .xor .u32 (r : Int) ((x.toNat : Int) % 4294967296) = ((r ^^^ x.toNat : Nat) : Int) := by
  have := byte_lt x
  rw [show ((x.toNat : Int) % 4294967296) = (x.toNat : Int) by omega]
  exact u32_xor_nat _ _ h (by omega)
theorem xor_odd {y : Nat} (h : y < 4294967296) (ho : y % 2 = 1) : bits .xor .u32 ((y : Int) / 2) 3988292384 = ((st y : Nat) : Int) := by
  rw [show ((y : Int) / 2) = ((y / 2 : Nat) : Int) by omega, xor_poly _ (by omega)]
  unfold st
  rw [if_pos ho]
theorem half_even {y : Nat} (ho : ¬ y % 2 = 1) : ((y : Int) / 2) = ((st y : Nat) : Int) := by
  unfold st
  rw [if_neg ho]
  omega

theorem RSum_any (A : Option Addr) (n c : Nat) (bs : List UInt8) (w : World) (hn : bs.length = n) (h : Seen w A (bytesV bs)) (hl : n ≤ 1000000) :
    Calls Try.prog 19 #[.slice A n c] w fun e w' => e = .returned (.int .u32 ((crcOf bs : Nat) : Int)) ∧ w = w' := by
  have Hh := Lib.hid h; clear h
  go_enter Try.func19, Try.ntmps19
  go_wp2
  go_loop [3, 4] (fun s i => ∃ j : Nat, j ≤ n ∧ i = .int .i64 j ∧ s = .int .u32 ((feed 4294967295 (bs.take j) : Nat) : Int)) (fun _ i => n - (intOf i).toNat)
  case atStart => exact ⟨0, by omega, rfl, rfl⟩
  case round =>
    obtain ⟨j, hj, rfl, rfl⟩ := hrel
    have hr := feed_lt (bs.take j) (r := 4294967295) (by omega)
    obtain ⟨r, hre⟩ : ∃ r, feed 4294967295 (bs.take j) = r := ⟨_, rfl⟩
    rw [hre] at hr ⊢
    have Hre := Lib.hid hre; clear hre
    by_cases hlt : j < n
    · obtain ⟨g, o, x, rfl, hx, hxt, hc⟩ := Hh.out.byteAt (j := j) (by omega)
      have Hx := Lib.hid (And.intro hx hxt); clear hx hxt
      have Hn := Lib.hid hn; clear hn
      have e1 := xor_byte r x hr
      have hz := xor_lt32 hr (show x.toNat < 4294967296 by have := byte_lt x; omega)
      obtain ⟨z, hze⟩ : ∃ z, r ^^^ x.toNat = z := ⟨_, rfl⟩
      rw [hze] at e1 hz
      have Hz := Lib.hid hze; clear hze
      go_wp2
      go_loop [3, 5] (fun s i => ∃ m : Nat, m ≤ 8 ∧ i = .int .i64 m ∧ s = .int .u32 ((stN m z : Nat) : Int)) (fun _ i => 8 - (intOf i).toNat)
      case atStart => exact ⟨0, by omega, rfl, rfl⟩
      case round =>
        clear e1
        obtain ⟨m, hm, rfl, rfl⟩ := hrel
        have hs := stN_lt m hz
        have hs1 := stN_succ m z
        obtain ⟨y, hye⟩ : ∃ y, stN m z = y := ⟨_, rfl⟩
        rw [hye] at hs hs1 ⊢
        have Hs1 := Lib.hid hs1; clear hs1
        have Hy := Lib.hid hye; clear hye
        by_cases hmt : m < 8
        · by_cases ho : y % 2 = 1
          · have e3 := xor_odd hs ho
            have h3 : ((y : Int) % 2 == 1) = true := by simp; omega
            go_wp2
            go_round
            case rel => exact ⟨m + 1, by omega, by go_num, by rw [Hs1.out]⟩
            case measure => simp [intOf]; omega
          · have E3 := Lib.hid (half_even ho)
            have h3 : ((y : Int) % 2 == 1) = false := by simp; omega
            go_wp2
            go_round
            case rel => exact ⟨m + 1, by omega, by go_num, by rw [Hs1.out, E3.out]⟩
            case measure => simp [intOf]; omega
        · have e8 : m = 8 := by omega
          have E8 := Lib.hid e8; clear e8
          go_wp2
          go_round
          case rel => exact ⟨j + 1, by omega, by go_num, by rw [Hx.out.2, feed_append, Hre.out]; show _ = Value.int .u32 ((stN 8 (r ^^^ x.toNat) : Nat) : Int); rw [Hz.out, ← Hy.out, E8.out]⟩
          case measure => simp [intOf]; omega
    · go_wp2
      go_ret
      have e : j = n := by omega
      exact ⟨u32_eq (by unfold crcOf; rw [← Hre.out, e, List.take_of_length_le (by omega)]; have := feed_lt bs (r := 4294967295) (by omega); omega), rfl⟩

theorem le4_take {q k : Nat} (h : k < 4) : (le4 q).take (k + 1) = (le4 q).take k ++ [UInt8.ofNat (q / 256 ^ k)] := by
  rcases k with _ | _ | _ | _ | k
  · simp [le4]
  · simp [le4]
  · simp [le4]
  · simp [le4]
  · omega
theorem byteV_mod (y : Nat) : byteV (UInt8.ofNat y) = .int .u8 ((y % 256 : Nat) : Int) := by simp [byteV]

theorem RSeal_any (A : Option Addr) (n c : Nat) (bs : List UInt8) (w : World) (hn : bs.length = n) (h : Seen w A (bytesV bs)) (hl : n ≤ 1000000) :
    Calls Try.prog 20 #[.slice A n c] w (OwnRet 5 (bytesV (sealOf bs)) w) := by
  have Hh := Lib.hid h
  have Hn := Lib.hid hn
  have hq := crc_eq bs
  obtain ⟨q, hqe⟩ : ∃ q, crcOf bs = q := ⟨_, rfl⟩
  rw [hqe] at hq
  have Hq := Lib.hid hqe
  clear hqe
  go_enter Try.func20, Try.ntmps20
  have hown0 : (w.alloc (.cells #[] 5)).ownsRow w.heap.size 5 1 (.slice (some ⟨w.heap.size, 0, none⟩) 0 0) 0 [] := World.ownsRow_lit w #[] 0 (Nat.le_refl _) (by unfold maxLen; omega) rfl
  have hb0 : Below w.heap.size w (w.alloc (.cells #[] 5)) := (Below.refl _ _).alloc (Nat.le_refl _) _
  go_wp2_with (first | (go_at_call 19; refine (RSum_any A n c bs _ hn h hl).mono ?_; rintro e w' ⟨rfl, rfl⟩; clear hn h; rw [Hq.out]) | (at_builtin; refine wpList_app rfl (.tmp 8) (.tmp 9) _ rfl 5 _ 1 Try.underlying28 u8_info rfl w.heap.size _ 0 0 [] rfl hown0 A n c (bytesV bs) rfl (by rw [bytes_length]; exact Hn.out) (Hh.out.below hb0) (bytes_one bs) (by unfold maxLen; omega) (by omega) hb0.size ?_; intro A2 c2 w2 hown2 hb2; simp only [Nat.zero_add, List.nil_append] at hown2; simp only [Nat.zero_add]))
  have Hb2 := Lib.hid (hb0.trans hb2)
  have Hown2 := Lib.hid hown2
  clear hb0 hb2 hown0 hown2
  go_loopw [3, 4, 5] (fun x out i wr => ∃ (k : Nat) (A3 : Option Addr) (c3 : Nat), k ≤ 4 ∧ i = .int .i64 k ∧ x = .int .u32 ((q / 256 ^ k : Nat) : Int) ∧ out = .slice A3 (n + k) c3 ∧ wr.ownsRow w.heap.size 5 1 (.slice A3 (n + k) c3) (n + k) (bytesV (bs ++ (le4 q).take k)) ∧ Below w.heap.size w wr) (fun _ _ i _ => 4 - (intOf i).toNat)
  case atStart => exact ⟨0, A2, c2, by omega, rfl, by simp, rfl, by simpa using Hown2.out, Hb2.out⟩
  case round =>
    obtain ⟨k, A3, c3, hk, rfl, rfl, rfl, hown, hbw⟩ := hrel
    have Hown := Lib.hid hown; clear hown
    have Hbw := Lib.hid hbw
    have hsz := hbw.size
    clear hbw
    obtain ⟨y, hye⟩ : ∃ y, q / 256 ^ k = y := ⟨_, rfl⟩
    have hy : y < 4294967296 := by rw [← hye]; exact Nat.lt_of_le_of_lt (Nat.div_le_self _ _) hq
    have hye' : q / 256 ^ (k + 1) = y / 256 := by rw [Nat.pow_succ, ← Nat.div_div_eq_div_mul, hye]
    rw [hye]
    have Hy := Lib.hid hye; clear hye
    have Hy' := Lib.hid hye'; clear hye'
    by_cases hlt : k < 4
    · go_wp2_with (at_builtin; refine wpList_app rfl (.tmp 15) (.tmp 19) _ rfl 5 _ 1 Try.underlying28 u8_info rfl w.heap.size A3 (n + k) c3 (bytesV (bs ++ (le4 q).take k)) rfl (Hown.out.alloc _) (some ⟨wr.heap.size, 0, none⟩) 1 1 [.int .u8 ((y : Int) % 256)] rfl rfl (Seen.of_cells (heap_alloc_new wr _)) (by simp [Value.oneCell']) (by unfold maxLen; omega) (by omega) (by simp; omega) ?_; intro A4 c4 w4 hown4 hb4)
      have Hown4 := Lib.hid hown4
      have Hb4 := Lib.hid ((Hbw.out.alloc Hbw.out.size (.cells #[.int .u8 ((y : Int) % 256)] 5)).trans hb4)
      clear hown4 hb4
      go_wp2
      go_roundw
      case rel =>
        refine ⟨k + 1, A4, c4, by omega, by go_num, by rw [Hy'.out]; go_num, rfl, ?_, Hb4.out⟩
        rw [le4_take hlt, Hy.out, ← List.append_assoc, bytes_append, show bytesV [UInt8.ofNat y] = [byteV (UInt8.ofNat y)] from rfl, byteV_mod]
        exact Hown4.out
      case measure => simp [intOf]; omega
    · have hk4 : k = 4 := by omega
      have Hk4 := Lib.hid hk4; clear hk4
      go_wp2
      go_ret
      have el : (bytesV (sealOf bs)).length = n + 4 := by rw [bytes_length, sealOf_length, Hn.out]
      have e : bytesV (bs ++ (le4 q).take k) = bytesV (sealOf bs) := by rw [Hk4.out, sealOf, Hq.out]; rfl
      have ho := Hown.out
      rw [e] at ho
      have hk4 := Hk4.out
      subst hk4
      exact ⟨A3, c3, by rw [el]; rfl, by rw [el]; exact ho, Hbw.out⟩
end Go.Proofs.Yteebkolccbcehaa
