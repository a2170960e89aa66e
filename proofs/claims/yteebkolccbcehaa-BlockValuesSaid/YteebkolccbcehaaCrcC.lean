/-
  Contracts of crc.Seal and crc.Open: for any bytes, up to a million of them.
-/
import Derived.Test.YteebkolccbcehaaCrcB
namespace Go.Proofs.Yteebkolccbcehaa
open Go.ChangeShapes Go.WideShapes Go.ChangeAt Go.RowKit
set_option linter.unusedVariables false


theorem tail_one (q : Nat) : (tailV q).all (·.oneCell') = true := by simp [tailV, Value.oneCell']
theorem Lists_one {w : World} {A : Option Addr} {c : Nat} {bs : List UInt8} (h : Seen w A (bytesV bs)) (hl : bs.length ≤ 1000000) : Lists w [(A, bs.length, c)] [bs] := by
  refine ⟨rfl, fun i A' n' c' hi => ?_⟩
  cases i with
  | zero =>
    simp only [List.getElem?_cons_zero, Option.some.injEq, Prod.mk.injEq] at hi
    obtain ⟨rfl, rfl, rfl⟩ := hi
    exact ⟨bs, rfl, rfl, hl, h⟩
  | succ i => simp at hi

/-- Sum of one list -/
theorem Sum_one (A : Option Addr) (n c c2 : Nat) (bs : List UInt8) (w : World) (g : Nat) (hn : bs.length = n) (hs : w.cell? ⟨g, 0, none⟩ = some (.slice A n c)) (h : Seen w A (bytesV bs)) (hl : n ≤ 1000000) :
    Calls Try.prog 26 #[.slice (some ⟨g, 0, none⟩) 1 c2] w fun e w' => e = .returned (.int .u32 ((crcOf bs : Nat) : Int)) ∧ Below w.heap.size w w' := by
  subst hn
  have := Sum_any g c2 [(A, bs.length, c)] [bs] w (Lists_one h hl) (fun j v hv => by
    cases j with
    | zero => simp [listsV] at hv; subst hv; exact hs
    | succ j => simp [listsV] at hv) (by simp)
  simpa using this

theorem Seal_any (A : Option Addr) (c : Nat) (bs : List UInt8) (w : World) (h : Seen w A (bytesV bs)) (hl : bs.length ≤ 1000000) :
    Calls Try.prog 24 #[.slice A bs.length c] w (OwnRet 5 (bytesV (sealOf bs)) w) := by
  obtain ⟨i0, hi, hz0, hz1, hz2⟩ := info_parts u8_info
  have Hh := Lib.hid h; clear h
  go_enter Try.func24, Try.ntmps24
  go_wp2_with (first | (refine wpList_make_own _ rfl _ _ 28 rfl w.heap.size 5 i0 _ 1 Try.underlying28 hi hz0 hz1 .i64 .i64 _ (bs.length + 4) rfl rfl (by omega) (by rw [hz2]; omega) (by unfold maxLen; omega) (Nat.le_refl _) ?_; intro w1 hown1 hg1; have hb1 : Below w.heap.size w w1 := (Below.refl _ _).grown hg1 (Nat.le_refl _) (by simp)) | (at_builtin; refine wpList_app rfl (.tmp 9) (.tmp 10) _ rfl 5 _ 1 Try.underlying28 u8_info rfl w.heap.size _ 0 (bs.length + 4) [] rfl hown1 A bs.length c (bytesV bs) rfl (bytes_length bs) (Hh.out.below hb1) (bytes_one bs) (by unfold maxLen; omega) (by omega) hb1.size ?_; intro A2 c2 w2 hown2 hb2; simp only [Nat.zero_add, List.nil_append] at hown2; simp only [Nat.zero_add]))
  have hz2' := hb2.size
  have Hb3 := Lib.hid ((hb1.trans hb2).alloc (by have := hb1.size; omega) (.cells #[.slice A bs.length c] 28))
  have hs3 : Seen (w2.alloc (.cells #[.slice A bs.length c] 28)) A (bytesV bs) := Hh.out.below Hb3.out
  refine (Sum_one A bs.length c 1 bs _ _ rfl (cell_of_row _ _ _ _ _ _ (heap_alloc_new _ _)) hs3 hl).mono ?_
  rintro e w3 ⟨rfl, hb4⟩
  have hown3 := own_below (hown2.alloc (.cells #[.slice A bs.length c] 28)) hb4
  have Hb4 := Lib.hid (Hb3.out.trans (hb4.mono Hb3.out.size))
  clear hs3 hb4 hb1 hb2 hg1 hown1 hown2 hz2'
  have hcrc := crc_eq bs
  obtain ⟨q, hq⟩ : ∃ q, crcOf bs = q := ⟨_, rfl⟩
  rw [hq] at hcrc ⊢
  have Hq := Lib.hid hq; clear hq
  go_wp2_with (first | (go_at_call 28; refine (tailOf_any q _ hcrc).mono ?_; rintro e w4 ⟨rfl, hb5⟩; have hown4 := own_below hown3 hb5; have Hb5 := Lib.hid (Hb4.out.trans (hb5.mono Hb4.out.size)); clear hb5 hown3) | (refine wpList_store_row rfl 58 (.tmp 4) (.tmp 15) rfl w4.heap.size (tailV q) rfl rfl 58 _ (heap_alloc_new _ _) arr4_info rfl (tail_one q) ?_; rw [World.setRow_alloc_new]) | (at_builtin; refine wpList_app rfl (.tmp 16) (.tmp 17) _ rfl 5 _ 1 Try.underlying28 u8_info rfl w.heap.size A2 bs.length c2 (bytesV bs) rfl (hown4.alloc _) _ 4 4 (tailV q).toList rfl rfl (Seen.of_cells (heap_alloc_new _ _)) (by rw [tail_bytes]; exact bytes_one _) (by unfold maxLen; omega) (by omega) (Hb5.out.alloc Hb5.out.size _).size ?_; intro A5 c5 w5 hown5 hb6))
  go_ret
  have e : bytesV bs ++ (tailV q).toList = bytesV (sealOf bs) := by rw [tail_bytes, ← bytes_append, sealOf, Hq.out]
  have el : (bytesV (sealOf bs)).length = bs.length + 4 := by rw [bytes_length, sealOf_length]
  rw [e] at hown5
  exact ⟨A5, c5, by rw [el]; rfl, by rw [el]; exact hown5, (Hb5.out.alloc Hb5.out.size _).trans hb6⟩
end Go.Proofs.Yteebkolccbcehaa
