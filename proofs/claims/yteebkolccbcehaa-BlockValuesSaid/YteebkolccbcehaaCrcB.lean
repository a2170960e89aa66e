/-
  Contracts of crc.tailOf and crc.Sum.
-/
import Derived.Test.YteebkolccbcehaaCrcA
import Derived.Deep.WholeRow
namespace Go.Proofs.Yteebkolccbcehaa
open Go.ChangeShapes Go.WideShapes Go.ChangeAt Go.RowKit
set_option linter.unusedVariables false

/-- a sum's four bytes as an array -/
def tailV (x : Nat) : Array Value := #[.int .u8 ((x % 256 : Nat) : Int), .int .u8 ((x / 256 % 256 : Nat) : Int), .int .u8 ((x / 65536 % 256 : Nat) : Int), .int .u8 ((x / 16777216 % 256 : Nat) : Int)]
theorem tail_bytes (x : Nat) : (tailV x).toList = bytesV (le4 x) := by
  simp [tailV, bytesV, le4, byteV]

theorem arr4_info : (Try.prog.info? 58).map (·.size) = some 4 := by kernel_rfl

theorem tailOf_any (x : Nat) (w : World) (hx : x < 4294967296) :
    Calls Try.prog 28 #[.int .u32 (x : Int)] w fun e w' => e = .returned (.agg (tailV x)) ∧ Below w.heap.size w w' := by
  have et : tailV x = #[.int .u8 ((x : Int) % 256), .int .u8 ((x : Int) / 256 % 256), .int .u8 ((x : Int) / 65536 % 256), .int .u8 ((x : Int) / 16777216)] := by
    have e4 : ((x / 16777216 % 256 : Nat) : Int) = (x : Int) / 16777216 := by omega
    unfold tailV
    rw [e4]
    rfl
  have Et := Lib.hid et; clear et
  have Hi := Lib.hid arr4_info
  go_enter Try.func28, Try.ntmps28
  go_wp2
  rw [Et.out]
  refine bodyPost_ret (v := .agg _) (results_cell_row rfl _ _ w.heap.size 58 _ (0, 0) _ rfl (heap_alloc_new _ _) Try.underlying58 rfl Hi.out) rfl ⟨rfl, ?_⟩
  exact (Below.refl _ _).alloc (Nat.le_refl _) _

/-! ### Sum -/
/-- the lists that Sum is handed: list i is the slice ls[i], which reads as bs[i] -/
def Lists (w : World) (ls : List (Option Addr × Nat × Nat)) (bs : List (List UInt8)) : Prop :=
  ls.length = bs.length ∧ ∀ (i : Nat) A n c, ls[i]? = some (A, n, c) → ∃ b, bs[i]? = some b ∧ b.length = n ∧ n ≤ 1000000 ∧ Seen w A (bytesV b)
def listsV (ls : List (Option Addr × Nat × Nat)) : List Value := ls.map fun l => .slice l.1 l.2.1 l.2.2

theorem take_byte {b : List UInt8} {j : Nat} (h : j < b.length) : b.take (j + 1) = b.take j ++ [b[j]] := by
  rw [List.take_succ_eq_append_getElem h]
theorem feed_snoc (r : Nat) (b : List UInt8) (j : Nat) (h : j < b.length) : feed r (b.take (j + 1)) = stN 8 (feed r (b.take j) ^^^ b[j].toNat) := by
  rw [take_byte h, feed_append]; rfl
theorem idx_eq (r : Nat) (x : UInt8) : bits .xor .u8 ((r : Int) % 256) (x.toNat : Int) = ((r % 256 ^^^ x.toNat : Nat) : Int) := by
  rw [show ((r : Int) % 256) = ((r % 256 : Nat) : Int) by omega]
  exact u8_xor_nat _ _ (by omega) (byte_lt x)
theorem new_eq (r : Nat) (x : UInt8) (h : r < 4294967296) : bits .xor .u32 ((r : Int) / 256) ((stN 8 (r % 256 ^^^ x.toNat) : Nat) : Int) = ((stN 8 (r ^^^ x.toNat) : Nat) : Int) := by
  rw [show ((r : Int) / 256) = ((r / 256 : Nat) : Int) by omega, u32_xor_nat _ _ (by omega) (stN_lt 8 (by have := Nat.xor_lt_two_pow (n := 8) (x := r % 256) (y := x.toNat) (by omega) (byte_lt x); omega)), tab_step]
theorem tab_full (w : World) (i : Nat) (h : i < 256) : (w.alloc (.cells (tabV 256) 61)).cell? ⟨w.heap.size, i, none⟩ = some (.int .u32 ((stN 8 i : Nat) : Int)) := by
  rw [cell_of_row _ _ _ _ _ _ (heap_alloc_new w _), tab_get h, if_pos h]

theorem not_eq {r : Nat} (h : r < 4294967296) : bits .xor .u32 IntKind.u32.max (r : Int) = ((4294967295 - r : Nat) : Int) := by
  rw [show IntKind.u32.max = ((4294967295 : Nat) : Int) from rfl, u32_xor_nat _ _ (by omega) h, not_xor h, Nat.xor_comm]
theorem Sum_any (g c : Nat) (ls : List (Option Addr × Nat × Nat)) (bs : List (List UInt8)) (w : World) (hl : Lists w ls bs) (hs : ∀ (j : Nat) v, (listsV ls)[j]? = some v → w.cell? ⟨g, j, none⟩ = some v) (h63 : ls.length ≤ 1000) :
    Calls Try.prog 26 #[.slice (some ⟨g, 0, none⟩) ls.length c] w fun e w' => e = .returned (.int .u32 ((crcOf bs.flatten : Nat) : Int)) ∧ Below w.heap.size w w' := by
  have Hl := Lib.hid hl; clear hl
  have Hs := Lib.hid hs; clear hs
  have hz := zero_tab
  go_enter Try.func26, Try.ntmps26
  go_wp2_with (first | (go_at_call 29; refine (byteSums_any w).mono ?_; rintro e w1 ⟨rfl, hb1⟩; have Hb := Lib.hid hb1; clear hb1) | (refine wpList_store_row rfl 61 (.tmp 3) (.tmp 9) rfl w1.heap.size (tabV 256) rfl rfl 61 (tabV 0) (heap_alloc_new _ _) (by rw [tab_size]; exact tab_info) (by rw [tab_size, tab_size]) (tab_one 256) ?_; rw [World.setRow_alloc_new]))
  clear hz
  obtain ⟨w2, hw2, hb2, tab2⟩ : ∃ w2, w1.alloc (.cells (tabV 256) 61) = w2 ∧ Below w.heap.size w w2 ∧ ∀ i, i < 256 → w2.cell? ⟨w1.heap.size, i, none⟩ = some (.int .u32 ((stN 8 i : Nat) : Int)) :=
    ⟨_, rfl, Hb.out.alloc Hb.out.size _, fun i h => tab_full w1 i h⟩
  rw [hw2]
  clear hw2
  have H2 := Lib.hid hb2; clear hb2
  have Ht := Lib.hid tab2; clear tab2
  go_loop [4, 12] (fun s i => ∃ k : Nat, k ≤ ls.length ∧ i = .int .i64 k ∧ s = .int .u32 ((feed 4294967295 (bs.take k).flatten : Nat) : Int)) (fun _ i => ls.length - (intOf i).toNat)
  case atStart => exact ⟨0, by omega, rfl, rfl⟩
  case round =>
    obtain ⟨k, hk, rfl, rfl⟩ := hrel
    have hr := feed_lt (bs.take k).flatten (r := 4294967295) (by omega)
    by_cases hlt : k < ls.length
    · obtain ⟨A, n, cc, hA⟩ : ∃ A n cc, ls[k]? = some (A, n, cc) := ⟨_, _, _, List.getElem?_eq_getElem hlt⟩
      obtain ⟨b, hbk, hbn, hn6, hsee⟩ := Hl.out.2 k A n cc hA
      have hcell := Hs.out k (.slice A n cc) (by simp [listsV, hA])
      have hcell2 : w2.cell? ⟨g, k, none⟩ = some (.slice A n cc) := by rw [H2.out.cell (block_lt_of_cell hcell)]; exact hcell
      have Hsee := Lib.hid (hsee.below H2.out)
      have hkb : (bs.take (k + 1)).flatten = (bs.take k).flatten ++ b := by
        rw [List.take_add_one, hbk]; simp
      have Hkb := Lib.hid hkb
      obtain ⟨r, hre⟩ : ∃ r, feed 4294967295 (bs.take k).flatten = r := ⟨_, rfl⟩
      rw [hre] at hr
      rw [hre]
      have Hre := Lib.hid hre
      clear hre hkb hsee hcell hA hbk
      obtain rfl : b.length = n := hbn
      go_wp2
      clear hcell2
      go_loop [4, 18] (fun s i => ∃ j : Nat, j ≤ b.length ∧ i = .int .i64 j ∧ s = .int .u32 ((feed r (b.take j) : Nat) : Int)) (fun _ i => b.length - (intOf i).toNat)
      case atStart => exact ⟨0, by omega, rfl, rfl⟩
      case round =>
        obtain ⟨j, hj, rfl, rfl⟩ := hrel
        have hq := feed_lt (b.take j) hr
        by_cases hjt : j < b.length
        · have hs1 := feed_snoc r b j hjt
          have Hs1 := Lib.hid hs1; clear hs1
          obtain ⟨g1, o1, rfl, hc1⟩ := Hsee.out.byte hjt
          obtain ⟨q, hqe⟩ : ∃ q, feed r (b.take j) = q := ⟨_, rfl⟩
          rw [hqe] at hq
          rw [hqe]
          have Hqe := Lib.hid hqe; clear hqe
          have e1 := idx_eq q b[j]
          have h256 : q % 256 ^^^ b[j].toNat < 256 := Nat.xor_lt_two_pow (n := 8) (by omega) (byte_lt _)
          obtain ⟨z, hze⟩ : ∃ z, q % 256 ^^^ b[j].toNat = z := ⟨_, rfl⟩
          have e2 := new_eq q b[j] hq
          rw [hze] at e1 e2 h256
          have He2 := Lib.hid e2; clear e2 hze
          have hc2 := Ht.out z h256
          go_wp2
          go_round
          case rel => exact ⟨j + 1, by omega, by go_num, by rw [He2.out, Hs1.out, Hqe.out]⟩
          case measure => simp [intOf]; omega
        · obtain rfl : j = b.length := by omega
          go_wp2
          go_round
          case rel => exact ⟨k + 1, by omega, by go_num, by rw [Hkb.out, feed_append, Hre.out, List.take_length]⟩
          case measure => simp [intOf]; omega
    · go_wp2
      go_ret
      exact ⟨u32_eq (by rw [not_eq hr]; congr 2; rw [show k = bs.length by have := Hl.out.1; omega, List.take_length]), H2.out⟩
end Go.Proofs.Yteebkolccbcehaa
