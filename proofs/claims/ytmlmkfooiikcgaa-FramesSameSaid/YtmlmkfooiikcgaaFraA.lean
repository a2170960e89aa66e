/-
  Contracts of frames.Read and of dotterelref07's Read, of any bytes; of dotterellaw07's awake.
-/
import Derived.Test.YtmlmkfooiikcgaaFraO
import Derived.Test.YtmlmkfooiikcgaaFraQ
namespace Go.Proofs.Ytmlmkfooiikcgaa
open Go.ChangeShapes Go.WideShapes Go.ChangeAt Go.RowKit
set_option linter.unusedVariables false

theorem Read_any (A : Option Addr) (n c : Nat) (bs : List UInt8) (w : World) (hn : bs.length = n) (hl : n ≤ 900000) (hc : n ≤ c) (hcm : c ≤ maxLen) (h : Seen w A (bytesV bs)) {m : Msg} {er : Nat} (hr : readM bs = (m, er)) :
    Calls Try.prog 13 #[.slice A n c] w (ReadRet m er w) := by
  cases ho : openB bs with
  | false =>
    rw [readM_no ho] at hr
    injection hr with h1 h2
    subst h1; subst h2
    exact Read_shut A n c bs w hn hl hc hcm h ho
  | true =>
    rw [readM_yes ho, hn] at hr
    have := Read_whole A n c bs w hn hl hc hcm h ho
    rw [hr] at this
    exact this
theorem RRead_any (A : Option Addr) (n c : Nat) (bs : List UInt8) (w : World) (hn : bs.length = n) (hl : n ≤ 900000) (hc : n ≤ c) (hcm : c ≤ maxLen) (h : Seen w A (bytesV bs)) {m : Msg} {er : Nat} (hr : readM bs = (m, er)) :
    Calls Try.prog 17 #[.slice A n c] w (ReadRet m er w) := by
  cases ho : openB bs with
  | false =>
    rw [readM_no ho] at hr
    injection hr with h1 h2
    subst h1; subst h2
    exact RRead_shut A n c bs w hn hl hc hcm h ho
  | true =>
    rw [readM_yes ho, hn] at hr
    have := RRead_whole A n c bs w hn hl hc hcm h ho
    rw [hr] at this
    exact this

def oneM : Msg := ⟨1, [], [], []⟩
theorem oneAt (w : World) : MsgAt w oneM none 0 0 none 0 0 none 0 0 :=
  ⟨by decide, by decide, rfl, by unfold maxLen; omega, .inl rfl, fun n h => (by cases h), rfl, by unfold maxLen; omega, .inl rfl, rfl, by unfold maxLen; omega, fun l h => (by cases h), [], .inl rfl, rfl, fun i A n c h => by simp at h⟩
theorem one_right : rightM oneM = true := by kernel_rfl
theorem zero_wrong : rightM zeroM = false := by kernel_rfl
theorem one_fields : fieldsM oneM = [1, 0, 0, 0] := by
  have h1 : numB 1 = [1] := by rw [numB_lt (by omega)]; rfl
  have h0 : numB 0 = [0] := by rw [numB_lt (by omega)]; rfl
  show numB 1 ++ numB 0 ++ [] ++ (numB 0 ++ []) ++ numB 0 ++ [] = _
  rw [h1, h0]; rfl
theorem one_form : formM oneM = [1, 0, 0, 0] ++ le4 (crcOf [1, 0, 0, 0]) := by
  unfold formM sealOf
  rw [one_fields]
theorem nil_shut : readM [] = (zeroM, 4) := readM_no (by unfold openB; rfl)

set_option maxRecDepth 100000 in
theorem awake_any (w : World) : Calls Try.prog 9 #[] w fun e w' => e = .returned (.bool true) ∧ Below w.heap.size w w' := by
  go_enter Try.func9, Try.ntmps9
  go_wp2_with fail
  refine (Put_yes oneM none none none 0 0 0 0 0 0 w (oneAt w) one_right).mono ?_
  rintro e w1 ⟨A1, n1, c1, rfl, hlen, hown, hb1⟩
  obtain rfl : n1 = 8 := by rw [← hlen, one_form]; rfl
  obtain ⟨g, cap, hv, hg1, hg2⟩ := hown.form (by omega)
  injection hv with hA _ hc
  subst hA; subst hc
  have c0 : w1.cell? ⟨g, 0, none⟩ = some (.int .u8 1) := by
    have := hown.cells (g := g) rfl 0 (.int .u8 1) (by rw [one_form]; rfl)
    rwa [Addr.add_lit] at this
  have Hb1 := Lib.hid hb1; clear hb1 hown hlen
  go_wp2_with fail
  refine (Read_any none 0 0 [] w1 rfl (by omega) (by omega) (by unfold maxLen; omega) (Seen.nil _ _) nil_shut).mono ?_
  rintro e w2 ⟨N, nn, nc, B, bn, bc, L, ln, lc, rfl, hm, hb2⟩
  have c1 : w2.cell? ⟨g, 0, none⟩ = some (.int .u8 1) := by rw [hb2.cell (p := ⟨g, 0, none⟩) hg2]; exact c0
  have Hb2 := Lib.hid (Hb1.out.trans (hb2.mono Hb1.out.size))
  have hg3 := (Nat.lt_of_lt_of_le hg2 hb2.size)
  obtain ⟨w3, hw3, hb3⟩ : ∃ w3, w2.alloc (.cells #[.int .i64 0, .slice N nn nc, .slice B bn bc, .slice L ln lc] 26) = w3 ∧ Below w2.heap.size w2 w3 := ⟨_, rfl, (Below.refl _ _).alloc (Nat.le_refl _) _⟩
  have c2 : w3.cell? ⟨g, 0, none⟩ = some (.int .u8 1) := by rw [hb3.cell (p := ⟨g, 0, none⟩) hg3]; exact c1
  have Hb3 := Lib.hid (Hb2.out.trans (hb3.mono Hb2.out.size))
  clear hb2 hb3 hm c0 c1
  have hchk := Check_any zeroM none none none 0 0 0 0 0 0 w3 (zeroAt w3)
  rw [chk_no zero_wrong] at hchk
  have Hchk := Lib.hid hchk; clear hchk
  go_wp2_with (first
    | (refine wpList_store_row rfl 26 (.tmp 3) (.tmp 12) rfl w2.heap.size #[.int .i64 0, .slice N nn nc, .slice B bn bc, .slice L ln lc] rfl rfl 26 _ (heap_alloc_new _ _) msg_info rfl (by simp [Value.oneCell']) ?_; rw [World.setRow_alloc_new, hw3])
    | (go_at_call 12; refine Hchk.out.mono ?_; rintro e w4 ⟨rfl, hb4⟩; have Hb4 := Lib.hid (Hb3.out.trans (hb4.mono Hb3.out.size)); clear hb4))
  go_ret
  exact ⟨rfl, Hb4.out⟩
end Go.Proofs.Ytmlmkfooiikcgaa
