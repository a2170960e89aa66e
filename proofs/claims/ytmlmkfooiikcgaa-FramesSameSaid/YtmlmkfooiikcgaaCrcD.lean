/-
  Contracts of crc.Open: for any bytes, up to a million of them.
-/
import Derived.Test.YtmlmkfooiikcgaaCrcC
import Derived.Deep.RegionHeld3
import Derived.Deep.DeepCutAuto
namespace Go.Proofs.Ytmlmkfooiikcgaa
open Go.ChangeShapes Go.WideShapes Go.ChangeAt Go.RowKit
set_option linter.unusedVariables false

/-- what Open hands back of bytes that are whole -/
def OpenRet (xs : List Value) (w : World) (en : Ending) (w' : World) : Prop :=
  ∃ A c, en = .returned (.tuple #[.slice A xs.length c, .bool true]) ∧ w'.ownsRow w.heap.size 5 1 (.slice A xs.length c) xs.length xs ∧ Below w.heap.size w w'

theorem Open_short (A : Option Addr) (n c : Nat) (w : World) (hn : n < 4) :
    Calls Try.prog 26 #[.slice A n c] w fun e w' => e = .returned (.tuple #[.slice none 0 0, .bool false]) ∧ w = w' := by
  go_enter Try.func26, Try.ntmps26
  go_wp2
  go_ret2
  exact ⟨rfl, rfl⟩

theorem arrayAt_four (a : Addr) (k : Nat) (w : World) : (Instr.arrayAt 67 (.slice (some a) 4 k)).run Try.prog w = .ok (.pointer (some a)) w := by
  unfold Instr.arrayAt
  simp [Sem.run_bind, run_underlying Try.underlying67]
theorem size_u8 (w : World) : (sizeOf 5).run Try.prog w = .ok 1 w := by kernel_rfl
theorem eq4 (a0 a1 a2 a3 b0 b1 b2 b3 : Int) (w : World) :
    (Op.equalIn 10000 67 (.agg #[.int .u8 a0, .int .u8 a1, .int .u8 a2, .int .u8 a3]) (.agg #[.int .u8 b0, .int .u8 b1, .int .u8 b2, .int .u8 b3])).run Try.prog w = .ok (a0 == b0 && (a1 == b1 && (a2 == b2 && a3 == b3))) w := by
  rw [Op.equalIn]
  simp only [Sem.run_bind, run_underlying Try.underlying67, Result.andThen_ok, size_u8, Std.Legacy.Range.forIn_eq_forIn_range']
  simp [List.range', Sem.run_bind, part]
  have h : ∀ a b w, (Op.equalIn 9999 5 (.int .u8 a) (.int .u8 b)).run Try.prog w = .ok (a == b) w := fun a b w => run_equalIn_int w 9998 5 .u8 .u8 a b Try.underlying5
  simp only [h, Result.andThen_ok]
  by_cases e0 : a0 = b0 <;> by_cases e1 : a1 = b1 <;> by_cases e2 : a2 = b2 <;> by_cases e3 : a3 = b3 <;> simp [e0, e1, e2, e3]

theorem drop_four {bs : List UInt8} {n : Nat} (h : bs.length = n + 4) : bs.drop n = [bs.getD (n + 0) 0, bs.getD (n + 1) 0, bs.getD (n + 2) 0, bs.getD (n + 3) 0] := by
  refine List.ext_getElem (by simp; omega) fun i h1 h2 => ?_
  have hi : i < 4 := by simpa using h2
  rw [List.getElem_drop]
  have e : ∀ k, k < 4 → bs.getD (n + k) 0 = bs[n + k]?.getD 0 := fun k _ => List.getD_eq_getElem?_getD
  rcases i with _ | _ | _ | _ | i
  · simp [List.getElem?_eq_getElem (show n < bs.length by omega)]
  · simp [List.getElem?_eq_getElem (show n + 1 < bs.length by omega)]
  · simp [List.getElem?_eq_getElem (show n + 2 < bs.length by omega)]
  · simp [List.getElem?_eq_getElem (show n + 3 < bs.length by omega)]
  · omega
theorem open_eq {bs : List UInt8} {n : Nat} (h : bs.length = n + 4) (y0 y1 y2 y3 : Nat) (hy0 : (bs.getD (n + 0) 0).toNat = y0) (hy1 : (bs.getD (n + 1) 0).toNat = y1) (hy2 : (bs.getD (n + 2) 0).toNat = y2) (hy3 : (bs.getD (n + 3) 0).toNat = y3) (q : Nat) (hq : crcOf (bs.take n) = q) :
    ((y0 : Int) == ((q % 256 : Nat) : Int) && ((y1 : Int) == ((q / 256 % 256 : Nat) : Int) && ((y2 : Int) == ((q / 65536 % 256 : Nat) : Int) && (y3 : Int) == ((q / 16777216 % 256 : Nat) : Int)))) = openB bs := by
  unfold openB
  rw [h, show n + 4 - 4 = n by omega, drop_four h, hq]
  have e : ∀ x : UInt8, ∀ m : Nat, (x = UInt8.ofNat m) ↔ x.toNat = m % 256 := fun x m => by
    rw [← UInt8.toNat_inj]; simp
  rw [Bool.eq_iff_iff]
  simp only [Bool.and_eq_true, beq_iff_eq, decide_eq_true_eq, le4, List.cons.injEq, e, hy0, hy1, hy2, hy3, and_true]
  omega
theorem hold4 {w w' : World} {g p0 p1 p2 p3 : Nat} {v0 v1 v2 v3 : Option Value} (hlt : g < w.heap.size) (hb : Below w.heap.size w w') (h0 : w.cell? ⟨g, p0, none⟩ = v0) (h1 : w.cell? ⟨g, p1, none⟩ = v1)
    (h2 : w.cell? ⟨g, p2, none⟩ = v2) (h3 : w.cell? ⟨g, p3, none⟩ = v3) : Below w.heap.size w w' ∧ w'.cell? ⟨g, p0, none⟩ = v0 ∧ w'.cell? ⟨g, p1, none⟩ = v1 ∧ w'.cell? ⟨g, p2, none⟩ = v2 ∧ w'.cell? ⟨g, p3, none⟩ = v3 :=
  ⟨hb, (hb.cell (p := ⟨g, p0, none⟩) hlt).trans h0, (hb.cell (p := ⟨g, p1, none⟩) hlt).trans h1, (hb.cell (p := ⟨g, p2, none⟩) hlt).trans h2, (hb.cell (p := ⟨g, p3, none⟩) hlt).trans h3⟩
theorem Open_long (g o n c : Nat) (bs : List UInt8) (w : World) (hn : bs.length = n + 4) (hl : n ≤ 999000) (hc : n + 4 ≤ c) (hcm : c ≤ maxLen) (h : Seen w (some ⟨g, o, none⟩) (bytesV bs)) :
    Calls Try.prog 26 #[.slice (some ⟨g, o, none⟩) (n + 4) c] w
      (if openB bs = true then OpenRet (bytesV (bs.take n)) w else fun e w' => e = .returned (.tuple #[.slice none 0 0, .bool false]) ∧ Below w.heap.size w w') := by
  unfold maxLen at hcm
  have cells : ∀ i : Nat, i < 4 → w.cell? ⟨g, o + n + i, none⟩ = some (.int .u8 (((bs.getD (n + i) 0).toNat : Nat) : Int)) := fun i hi => by
    obtain ⟨g', o', hA, hcell⟩ := h.byte (j := n + i) (by omega)
    injection hA with hA
    injection hA with h1 h2 _
    subst h1; subst h2
    rw [Nat.add_assoc, hcell]
    simp [List.getD, List.getElem?_eq_getElem (show n + i < bs.length by omega)]
  obtain ⟨y0, hy0⟩ : ∃ y, (bs.getD (n + 0) 0).toNat = y := ⟨_, rfl⟩
  obtain ⟨y1, hy1⟩ : ∃ y, (bs.getD (n + 1) 0).toNat = y := ⟨_, rfl⟩
  obtain ⟨y2, hy2⟩ : ∃ y, (bs.getD (n + 2) 0).toNat = y := ⟨_, rfl⟩
  obtain ⟨y3, hy3⟩ : ∃ y, (bs.getD (n + 3) 0).toNat = y := ⟨_, rfl⟩
  have c0 := cells 0 (by omega)
  have c1 := cells 1 (by omega)
  have c2 := cells 2 (by omega)
  have c3 := cells 3 (by omega)
  rw [hy0] at c0; rw [hy1] at c1; rw [hy2] at c2; rw [hy3] at c3
  rw [Nat.add_zero] at c0
  have heq := open_eq hn y0 y1 y2 y3 hy0 hy1 hy2 hy3 (crcOf (bs.take n)) rfl
  have he : ∀ w, (Op.equalIn 10000 67 (.agg #[.int .u8 (y0 : Int), .int .u8 (y1 : Int), .int .u8 (y2 : Int), .int .u8 (y3 : Int)]) (.agg (tailV (crcOf (bs.take n))))).run Try.prog w = .ok (openB bs) w := fun w => by
    rw [← heq]; exact eq4 _ _ _ _ _ _ _ _ w
  clear heq
  clear cells hy0 hy1 hy2 hy3
  have Hn := Lib.hid hn; clear hn
  have Hh := Lib.hid h; clear h
  have hlt : g < w.heap.size := block_lt_of_cell c0
  have ha := arrayAt_four
  have b0 : (0 : Int) ≤ (n : Int) := by omega
  have b1 : (n : Int) ≤ (n : Int) + 4 := by omega
  have b2 : (n : Int) + 4 ≤ (c : Int) := by omega
  have b3 : (n : Int) ≤ (c : Int) := by omega
  have b4 : ¬ c = n := by omega
  cases hB : openB bs with
  | false =>
    rw [hB] at he
    simp only [Bool.false_eq_true, if_false]
    go_enter Try.func26, Try.ntmps26
    go_wp2_with fail
    go_region_held3 (fun w' => Below w.heap.size w w' ∧ w'.cell? ⟨g, o + n, none⟩ = some (.int .u8 y0) ∧ w'.cell? ⟨g, o + n + 1, none⟩ = some (.int .u8 y1) ∧ w'.cell? ⟨g, o + n + 2, none⟩ = some (.int .u8 y2) ∧ w'.cell? ⟨g, o + n + 3, none⟩ = some (.int .u8 y3))
      (first | exact ⟨(Below.refl _ _).drew, c0, c1, c2, c3⟩ | exact hold4 hlt ((Below.refl _ _).alloc (Nat.le_refl _) _).drew c0 c1 c2 c3 | exact hold4 hlt hbA c0 c1 c2 c3 | exact hold4 hlt hbB c0 c1 c2 c3)
      (first | (go_at_call 41; refine (Sum_one (some ⟨g, o, none⟩) n c 1 (bs.take n) _ _ (by have := Hn.out; simp; omega) (cell_of_row _ _ _ _ _ (0, 0) (heap_alloc_new w _)) (seen_take n (Hh.out.below ((Below.refl _ _).alloc (Nat.le_refl _) _).drew)) (by omega)).mono ?_; rintro e w3 ⟨rfl, hbx⟩; have hbA : Below w.heap.size w w3 := ((Below.refl _ _).alloc (Nat.le_refl _) _).drew.trans (hbx.mono (by simp)); clear hbx) | (go_at_call 40; refine (tailOf_any _ _ (crc_eq _)).mono ?_; rintro e w4 ⟨rfl, hbx⟩; have hbB : Below w.heap.size w w4 := hbA.trans (hbx.mono hbA.size); clear hbx))
    all_goals
      go_wp2
      go_ret2
      exact ⟨rfl, hbB⟩
  | true =>
    rw [hB] at he
    simp only [if_true]
    go_enter Try.func26, Try.ntmps26
    go_wp2_with fail
    go_region_held3 (fun w' => Below w.heap.size w w' ∧ w'.cell? ⟨g, o + n, none⟩ = some (.int .u8 y0) ∧ w'.cell? ⟨g, o + n + 1, none⟩ = some (.int .u8 y1) ∧ w'.cell? ⟨g, o + n + 2, none⟩ = some (.int .u8 y2) ∧ w'.cell? ⟨g, o + n + 3, none⟩ = some (.int .u8 y3))
      (first | exact ⟨(Below.refl _ _).drew, c0, c1, c2, c3⟩ | exact hold4 hlt ((Below.refl _ _).alloc (Nat.le_refl _) _).drew c0 c1 c2 c3 | exact hold4 hlt hbA c0 c1 c2 c3 | exact hold4 hlt hbB c0 c1 c2 c3)
      (first | (go_at_call 41; refine (Sum_one (some ⟨g, o, none⟩) n c 1 (bs.take n) _ _ (by have := Hn.out; simp; omega) (cell_of_row _ _ _ _ _ (0, 0) (heap_alloc_new w _)) (seen_take n (Hh.out.below ((Below.refl _ _).alloc (Nat.le_refl _) _).drew)) (by omega)).mono ?_; rintro e w3 ⟨rfl, hbx⟩; have hbA : Below w.heap.size w w3 := ((Below.refl _ _).alloc (Nat.le_refl _) _).drew.trans (hbx.mono (by simp)); clear hbx) | (go_at_call 40; refine (tailOf_any _ _ (crc_eq _)).mono ?_; rintro e w4 ⟨rfl, hbx⟩; have hbB : Below w.heap.size w w4 := hbA.trans (hbx.mono hbA.size); clear hbx))
    all_goals
      go_wp2_with (at_builtin; refine wpList_app rfl (.const (.slice none 0 0)) (.tmp 25) _ rfl 5 _ 1 Try.underlying23 u8_info rfl w.heap.size none 0 0 [] rfl (World.ownsRow_nil _ _ _ _) (some ⟨g, o, none⟩) n c (bytesV (bs.take n)) rfl (by have := Hn.out; rw [bytes_length]; simp; omega) (seen_take n (Hh.out.below hbB)) (bytes_one _) (by unfold maxLen; omega) (by omega) hbB.size ?_; intro A5 c5 w5 hown5 hb6)
      go_ret2
      have el : (bytesV (bs.take n)).length = n := by have := Hn.out; rw [bytes_length]; simp; omega
      rw [List.nil_append, Nat.zero_add] at hown5
      exact ⟨A5, c5, by rw [el]; rfl, by rw [el]; exact hown5, hbB.trans hb6⟩

theorem Open_any (A : Option Addr) (n c : Nat) (bs : List UInt8) (w : World) (hn : bs.length = n) (hl : n ≤ 900000) (hc : n ≤ c) (hcm : c ≤ maxLen) (h : Seen w A (bytesV bs)) :
    Calls Try.prog 26 #[.slice A n c] w
      (if openB bs = true then OpenRet (bytesV (bs.take (n - 4))) w else fun e w' => e = .returned (.tuple #[.slice none 0 0, .bool false]) ∧ Below w.heap.size w w') := by
  by_cases h4 : n < 4
  · have hf : openB bs = false := by unfold openB; rw [decide_eq_false (by omega)]; rfl
    rw [hf]
    simp only [Bool.false_eq_true, if_false]
    refine (Open_short A n c w h4).mono ?_
    rintro e w' ⟨rfl, rfl⟩
    exact ⟨rfl, Below.refl _ _⟩
  · obtain ⟨m, rfl⟩ : ∃ m, n = m + 4 := ⟨n - 4, by omega⟩
    have h' := h
    rcases h with h0 | ⟨g, o, rfl, _⟩
    · have : bs.length = 0 := by rw [← bytes_length bs, h0]; rfl
      omega
    · rw [show m + 4 - 4 = m by omega]
      exact Open_long g o m c bs w hn (by omega) hc hcm h'

theorem Open_no (A : Option Addr) (n c : Nat) (bs : List UInt8) (w : World) (hn : bs.length = n) (hl : n ≤ 900000) (hc : n ≤ c) (hcm : c ≤ maxLen) (h : Seen w A (bytesV bs)) (hf : openB bs = false) :
    Calls Try.prog 26 #[.slice A n c] w fun e w' => e = .returned (.tuple #[.slice none 0 0, .bool false]) ∧ Below w.heap.size w w' := by
  have := Open_any A n c bs w hn hl hc hcm h
  rw [hf] at this
  simpa using this
theorem Open_yes (A : Option Addr) (n c : Nat) (bs : List UInt8) (w : World) (hn : bs.length = n) (hl : n ≤ 900000) (hc : n ≤ c) (hcm : c ≤ maxLen) (h : Seen w A (bytesV bs)) (hf : openB bs = true) :
    Calls Try.prog 26 #[.slice A n c] w (OpenRet (bytesV (bs.take (n - 4))) w) := by
  have := Open_any A n c bs w hn hl hc hcm h
  rw [hf, if_pos rfl] at this
  exact this
theorem Seal_n (A : Option Addr) (n c : Nat) (bs : List UInt8) (w : World) (hn : bs.length = n) (h : Seen w A (bytesV bs)) (hl : n ≤ 1000000) :
    Calls Try.prog 22 #[.slice A n c] w (OwnRet 5 (bytesV (sealOf bs)) w) := by
  subst hn
  exact Seal_any A c bs w h hl
end Go.Proofs.Ytmlmkfooiikcgaa
