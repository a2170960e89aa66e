/-
  Contract of dotterelref03's TakeText.
-/
import Derived.Test.YtmlmkfooiikcgaaPackT
import Derived.Deep.RegionHeld3
import Derived.Deep.QuietTactic
import Derived.BigQuiet
import Derived.StillTailTactics
namespace Go.Proofs.Ytmlmkfooiikcgaa
open Go.ChangeShapes Go.WideShapes Go.ChangeAt Go.RowKit
set_option linter.unusedVariables false

theorem rd_shape {bs l : List UInt8} {s er : Nat} {most : Int} (h : rdNum bs 0 most = (s, l, er)) (h0 : er ≠ 0) : s = 0 ∧ l = bs := by
  unfold rdNum at h
  rw [if_neg (by omega)] at h
  split at h
  · simp only [Prod.mk.injEq] at h
    exact ⟨h.1.symm, h.2.1.symm⟩
  · split at h
    · simp only [Prod.mk.injEq] at h
      exact ⟨h.1.symm, h.2.1.symm⟩
    · simp only [Prod.mk.injEq] at h
      omega

set_option maxHeartbeats 1000000 in
set_option maxRecDepth 100000 in
theorem TakeText_any (A : Option Addr) (n c : Nat) (bs : List UInt8) (most : Int) (w : World) (hn : bs.length = n) (hl : n ≤ 2000000) (hnc : n ≤ c) (hcm : c ≤ maxLen) (h : Seen w A (bytesV bs)) (h1 : -9223372036854775808 ≤ most) (h2 : most ≤ 9223372036854775807) :
    Calls Try.prog 36 #[.slice A n c, .int .i64 most] w (GotRet A bs 0 (rdText bs 0 most).1 (rdText bs 0 most).2.2 (rdText bs 0 most).2.1 w) := by
  have Hh := Lib.hid h; clear h
  have Hn := Lib.hid hn; clear hn
  obtain ⟨s, l, er, hrd⟩ : ∃ s l er, rdNum bs 0 most = (s, l, er) := ⟨_, _, _, rfl⟩
  have hrt : rdText bs 0 most = if l.length < s then ([], l, 2) else (l.take s, l.drop s, er) := by unfold rdText; rw [hrd]
  have htake := fun w hs => Take_any A n c bs most w Hn.out hl hnc hcm hs h1 h2
  rw [hrd] at htake
  have Htake := Lib.hid htake; clear htake
  have Hrd := Lib.hid hrd; clear hrd
  have Hrt := Lib.hid hrt; clear hrt
  go_enter Try.func36, Try.ntmps36
  go_wp2_with fail
  refine (Htake.out _ (Hh.out.alloc _)).mono ?_
  rintro e w2 ⟨A1, c1, A2, c2, rfl, hs1, hlc, hcm2, hs2, hb2⟩
  have hG1 : w2.heap[w.heap.size]? = some (.cells #[.int .i64 0, .slice none 0 0, .int .i64 0, .slice none 0 0] 62 (0, 0)) := by
    rw [hb2.block _ (by simp)]; exact heap_alloc_new _ _
  have hb3 : Below w.heap.size w w2 := ((Below.refl _ _).alloc (Nat.le_refl _) _).trans (hb2.mono (by simp))
  have HG1 := Lib.hid hG1; clear hG1
  have Hb3 := Lib.hid hb3; clear hb3 hb2
  have hlt : w.heap.size < w2.heap.size := (Array.getElem?_eq_some_iff.1 HG1.out).1
  have Hlt := Lib.hid hlt; clear hlt hs1
  by_cases her : er = 0
  · have he0 : ((er : Int) != 0) = false := by simp; omega
    have Her := Lib.hid her; clear her
    by_cases hls : l.length < s
    · go_wp2_with (first | (refine wpList_store_row rfl 62 (.tmp 5) (.tmp 8) rfl w2.heap.size #[.int .i64 (s : Int), .slice A1 0 c1, .int .i64 (er : Int), .slice A2 l.length c2] rfl rfl 62 _ (heap_alloc_new _ _) got_info rfl (by simp [Value.oneCell']) ?_; rw [World.setRow_alloc_new]; obtain ⟨w3, hw3, hb4, hg1, hg2⟩ : ∃ w3, w2.alloc (.cells #[.int .i64 (s : Int), .slice A1 0 c1, .int .i64 (er : Int), .slice A2 l.length c2] 62) = w3 ∧ Below w.heap.size w w3 ∧ w3.heap[w.heap.size]? = some (.cells #[.int .i64 0, .slice none 0 0, .int .i64 0, .slice none 0 0] 62 (0, 0)) ∧ w3.heap[w2.heap.size]? = some (.cells #[.int .i64 (s : Int), .slice A1 0 c1, .int .i64 (er : Int), .slice A2 l.length c2] 62 (0, 0)) := ⟨_, rfl, Hb3.out.alloc Hb3.out.size _, by rw [Below.heap_alloc _ _ _ Hlt.out]; exact HG1.out, heap_alloc_new _ _⟩; rw [hw3]; clear hw3; have Hb4 := Lib.hid hb4; have Hg1 := Lib.hid hg1; have Hg2 := Lib.hid hg2; have k0 : w3.cell? ⟨w2.heap.size, 0, none⟩ = some (.int .i64 (s : Int)) := row_cell hg2 0; have k2 : w3.cell? ⟨w2.heap.size, 2, none⟩ = some (.int .i64 (er : Int)) := row_cell hg2 2; have k3 : w3.cell? ⟨w2.heap.size, 3, none⟩ = some (.slice A2 l.length c2) := row_cell hg2 3; clear hb4 hg1 hg2) | (refine wpList_store_row rfl 62 (.tmp 4) (.tmp 21) rfl w.heap.size #[.int .i64 0, .slice none 0 0, .int .i64 2, .slice A2 l.length c2] rfl rfl 62 _ Hg1.out got_info rfl (by simp [Value.oneCell']) ?_))
      refine bodyPost_ret (v := .agg #[.int .i64 0, .slice none 0 0, .int .i64 2, .slice A2 l.length c2]) (results_cell_row rfl _ _ w.heap.size 62 #[.int .i64 0, .slice none 0 0, .int .i64 2, .slice A2 l.length c2] (0, 0) _ rfl (row_put Hg1.out Hb4.out).1 Try.underlying62 rfl got_info) rfl ?_
      rw [Hrt.out, if_pos hls]
      exact got_left rfl rfl hlc hcm2 hs2 (row_put Hg1.out Hb4.out).2
    · have hsl : s ≤ l.length := by omega
      have b1 : (0 : Int) ≤ (s : Int) := by omega
      have b2 : (s : Int) ≤ (l.length : Int) := by omega
      have b3 : (s : Int) ≤ (c2 : Int) := by omega
      have b4 : s ≤ c2 := by omega
      by_cases hcs : c2 = s
      · subst hcs
        go_wp2_with (refine wpList_store_row rfl 62 (.tmp 5) (.tmp 8) rfl w2.heap.size #[.int .i64 (c2 : Int), .slice A1 0 c1, .int .i64 (er : Int), .slice A2 l.length c2] rfl rfl 62 _ (heap_alloc_new _ _) got_info rfl (by simp [Value.oneCell']) ?_; rw [World.setRow_alloc_new]; obtain ⟨w3, hw3, hb4, hg1, hg2⟩ : ∃ w3, w2.alloc (.cells #[.int .i64 (c2 : Int), .slice A1 0 c1, .int .i64 (er : Int), .slice A2 l.length c2] 62) = w3 ∧ Below w.heap.size w w3 ∧ w3.heap[w.heap.size]? = some (.cells #[.int .i64 0, .slice none 0 0, .int .i64 0, .slice none 0 0] 62 (0, 0)) ∧ w3.heap[w2.heap.size]? = some (.cells #[.int .i64 (c2 : Int), .slice A1 0 c1, .int .i64 (er : Int), .slice A2 l.length c2] 62 (0, 0)) := ⟨_, rfl, Hb3.out.alloc Hb3.out.size _, by rw [Below.heap_alloc _ _ _ Hlt.out]; exact HG1.out, heap_alloc_new _ _⟩; rw [hw3]; clear hw3; have Hb4 := Lib.hid hb4; have Hg1 := Lib.hid hg1; have Hg2 := Lib.hid hg2; have k0 : w3.cell? ⟨w2.heap.size, 0, none⟩ = some (.int .i64 (c2 : Int)) := row_cell hg2 0; have k2 : w3.cell? ⟨w2.heap.size, 2, none⟩ = some (.int .i64 (er : Int)) := row_cell hg2 2; have k3 : w3.cell? ⟨w2.heap.size, 3, none⟩ = some (.slice A2 l.length c2) := row_cell hg2 3; clear hb4 hg1 hg2)
        go_still_tail 11, (by kernel_rfl)
        change wpList _ _ _ _ _ w3.drew
        obtain ⟨w4, hw4, g1, hb4⟩ : ∃ w4, w3.drew = w4 ∧ w4.heap[w.heap.size]? = some (.cells #[.int .i64 0, .slice none 0 0, .int .i64 0, .slice none 0 0] 62 (0, 0)) ∧ Below w.heap.size w w4 := ⟨_, rfl, Hg1.out, Hb4.out.drew⟩
        rw [hw4]
        clear hw4
        have G1 := Lib.hid g1; clear g1
        have HB4 := Lib.hid hb4; clear hb4
        go_wp2_with (refine wpList_store_row rfl 62 (.tmp 4) (.tmp 32) rfl w.heap.size _ rfl rfl 62 _ G1.out got_info rfl (by simp [Value.oneCell']) ?_)
        refine bodyPost_ret (v := .agg #[.int .i64 0, .slice A2 c2 c2, .int .i64 0, .slice A2 0 0]) (results_cell_row rfl _ _ w.heap.size 62 #[.int .i64 0, .slice A2 c2 c2, .int .i64 0, .slice A2 0 0] (0, 0) _ rfl (row_put G1.out HB4.out).1 Try.underlying62 rfl got_info) rfl ?_
        rw [Hrt.out, if_neg hls, Her.out]
        have e1 : (l.take c2).length = c2 := by rw [List.length_take]; omega
        have e2 : (l.drop c2).length = 0 := by rw [List.length_drop]; omega
        refine ⟨A2, c2, A2, 0, by rw [e1, e2]; rfl, fun w0 h0 => seen_take c2 (hs2 w0 h0), by rw [e2]; omega, Nat.zero_le _, fun _ _ => by rw [List.drop_of_length_le (by omega)]; exact Seen.nil _ _, (row_put G1.out HB4.out).2⟩
      · go_wp2_with (refine wpList_store_row rfl 62 (.tmp 5) (.tmp 8) rfl w2.heap.size #[.int .i64 (s : Int), .slice A1 0 c1, .int .i64 (er : Int), .slice A2 l.length c2] rfl rfl 62 _ (heap_alloc_new _ _) got_info rfl (by simp [Value.oneCell']) ?_; rw [World.setRow_alloc_new]; obtain ⟨w3, hw3, hb4, hg1, hg2⟩ : ∃ w3, w2.alloc (.cells #[.int .i64 (s : Int), .slice A1 0 c1, .int .i64 (er : Int), .slice A2 l.length c2] 62) = w3 ∧ Below w.heap.size w w3 ∧ w3.heap[w.heap.size]? = some (.cells #[.int .i64 0, .slice none 0 0, .int .i64 0, .slice none 0 0] 62 (0, 0)) ∧ w3.heap[w2.heap.size]? = some (.cells #[.int .i64 (s : Int), .slice A1 0 c1, .int .i64 (er : Int), .slice A2 l.length c2] 62 (0, 0)) := ⟨_, rfl, Hb3.out.alloc Hb3.out.size _, by rw [Below.heap_alloc _ _ _ Hlt.out]; exact HG1.out, heap_alloc_new _ _⟩; rw [hw3]; clear hw3; have Hb4 := Lib.hid hb4; have Hg1 := Lib.hid hg1; have Hg2 := Lib.hid hg2; have k0 : w3.cell? ⟨w2.heap.size, 0, none⟩ = some (.int .i64 (s : Int)) := row_cell hg2 0; have k2 : w3.cell? ⟨w2.heap.size, 2, none⟩ = some (.int .i64 (er : Int)) := row_cell hg2 2; have k3 : w3.cell? ⟨w2.heap.size, 3, none⟩ = some (.slice A2 l.length c2) := row_cell hg2 3; clear hb4 hg1 hg2)
        go_still_tail 11, (by kernel_rfl)
        change wpList _ _ _ _ _ w3.drew
        obtain ⟨w4, hw4, g1, hb4⟩ : ∃ w4, w3.drew = w4 ∧ w4.heap[w.heap.size]? = some (.cells #[.int .i64 0, .slice none 0 0, .int .i64 0, .slice none 0 0] 62 (0, 0)) ∧ Below w.heap.size w w4 := ⟨_, rfl, Hg1.out, Hb4.out.drew⟩
        rw [hw4]
        clear hw4
        have G1 := Lib.hid g1; clear g1
        have HB4 := Lib.hid hb4; clear hb4
        go_wp2_with (refine wpList_store_row rfl 62 (.tmp 4) (.tmp 32) rfl w.heap.size _ rfl rfl 62 _ G1.out got_info rfl (by simp [Value.oneCell']) ?_)
        refine bodyPost_ret (v := .agg #[.int .i64 0, .slice A2 s c2, .int .i64 0, .slice (A2.map (·.add s)) (l.length - s) (c2 - s)]) (results_cell_row rfl _ _ w.heap.size 62 #[.int .i64 0, .slice A2 s c2, .int .i64 0, .slice (A2.map (·.add s)) (l.length - s) (c2 - s)] (0, 0) _ rfl (row_put G1.out HB4.out).1 Try.underlying62 rfl got_info) rfl ?_
        rw [Hrt.out, if_neg hls, Her.out]
        have e1 : (l.take s).length = s := by rw [List.length_take]; omega
        have e2 : (l.drop s).length = l.length - s := List.length_drop
        refine ⟨A2, c2, A2.map (·.add s), c2 - s, by rw [e1, e2]; rfl, fun w0 h0 => seen_take s (hs2 w0 h0), by rw [e2]; omega, by omega, fun w0 h0 => ?_, (row_put G1.out HB4.out).2⟩
        have := seen_drop (K := s) (hs2 w0 h0) hlc
        rw [if_neg hcs] at this
        exact this
  · have Hsh := Lib.hid (rd_shape Hrd.out her)
    have hd : ((er : Int) != 0) = true := by simp; omega
    go_wp2_with (first | (refine wpList_store_row rfl 62 (.tmp 5) (.tmp 8) rfl w2.heap.size #[.int .i64 (s : Int), .slice A1 0 c1, .int .i64 (er : Int), .slice A2 l.length c2] rfl rfl 62 _ (heap_alloc_new _ _) got_info rfl (by simp [Value.oneCell']) ?_; rw [World.setRow_alloc_new]; obtain ⟨w3, hw3, hb4, hg1, hg2⟩ : ∃ w3, w2.alloc (.cells #[.int .i64 (s : Int), .slice A1 0 c1, .int .i64 (er : Int), .slice A2 l.length c2] 62) = w3 ∧ Below w.heap.size w w3 ∧ w3.heap[w.heap.size]? = some (.cells #[.int .i64 0, .slice none 0 0, .int .i64 0, .slice none 0 0] 62 (0, 0)) ∧ w3.heap[w2.heap.size]? = some (.cells #[.int .i64 (s : Int), .slice A1 0 c1, .int .i64 (er : Int), .slice A2 l.length c2] 62 (0, 0)) := ⟨_, rfl, Hb3.out.alloc Hb3.out.size _, by rw [Below.heap_alloc _ _ _ Hlt.out]; exact HG1.out, heap_alloc_new _ _⟩; rw [hw3]; clear hw3; have Hb4 := Lib.hid hb4; have Hg1 := Lib.hid hg1; have Hg2 := Lib.hid hg2; have k0 : w3.cell? ⟨w2.heap.size, 0, none⟩ = some (.int .i64 (s : Int)) := row_cell hg2 0; have k2 : w3.cell? ⟨w2.heap.size, 2, none⟩ = some (.int .i64 (er : Int)) := row_cell hg2 2; have k3 : w3.cell? ⟨w2.heap.size, 3, none⟩ = some (.slice A2 l.length c2) := row_cell hg2 3; clear hb4 hg1 hg2) | (refine wpList_load_row rfl 62 (.tmp 5) rfl w2.heap.size rfl 62 _ (0, 0) _ Hg2.out Try.underlying62 rfl got_info ?_) | (refine wpList_store_row rfl 62 (.tmp 4) (.tmp 12) rfl w.heap.size #[.int .i64 (s : Int), .slice A1 0 c1, .int .i64 (er : Int), .slice A2 l.length c2] rfl rfl 62 _ Hg1.out got_info rfl (by simp [Value.oneCell']) ?_))
    refine bodyPost_ret (v := .agg #[.int .i64 (s : Int), .slice A1 0 c1, .int .i64 (er : Int), .slice A2 l.length c2]) (results_cell_row rfl _ _ w.heap.size 62 #[.int .i64 (s : Int), .slice A1 0 c1, .int .i64 (er : Int), .slice A2 l.length c2] (0, 0) _ rfl (row_put Hg1.out Hb4.out).1 Try.underlying62 rfl got_info) rfl ?_
    have hz := Hsh.out.1
    rw [Hrt.out, if_neg (by omega), hz]
    subst hz
    exact ⟨A1, c1, A2, c2, by simp, fun _ _ => Seen.nil _ _, hlc, hcm2, hs2, (row_put Hg1.out Hb4.out).2⟩

theorem RText_is (g e : Nat) (bs : List UInt8) (most : Int) (w : World) (h : IsR w g bs e) (h1 : -9223372036854775808 ≤ most) (h2 : most ≤ 9223372036854775807) {x l : List UInt8} {e' m : Nat} (hrd : rdText bs e most = (x, l, e')) (hm : x.length = m) :
    Calls Try.prog 44 #[.pointer (some ⟨g, 0, none⟩), .int .i64 most] w fun en w' => ∃ A c, en = .returned (.slice A m c) ∧ w'.ownsRow w.heap.size 5 1 (.slice A m c) m (bytesV x) ∧ IsR w' g l e' ∧ Turned (fun k => k = g) w w' := by
  have := RText_any g e bs most w h h1 h2
  rw [hrd] at this
  subst hm
  exact this
theorem RNum_is (g e : Nat) (bs : List UInt8) (most : Int) (w : World) (h : IsR w g bs e) (h1 : -9223372036854775808 ≤ most) (h2 : most ≤ 9223372036854775807) {a e' : Nat} {l : List UInt8} (hrd : rdNum bs e most = (a, l, e')) :
    Calls Try.prog 43 #[.pointer (some ⟨g, 0, none⟩), .int .i64 most] w fun en w' => en = .returned (.int .i64 (a : Int)) ∧ IsR w' g l e' ∧ Turned (fun k => k = g) w w' := by
  have := RNum_any g e bs most w h h1 h2
  rw [hrd] at this
  exact this
theorem TakeText_is (A : Option Addr) (n c : Nat) (bs : List UInt8) (most : Int) (w : World) (hn : bs.length = n) (hl : n ≤ 2000000) (hnc : n ≤ c) (hcm : c ≤ maxLen) (h : Seen w A (bytesV bs)) (h1 : -9223372036854775808 ≤ most) (h2 : most ≤ 9223372036854775807) {x l : List UInt8} {e' m k : Nat} (hrd : rdText bs 0 most = (x, l, e')) (hm : x.length = m) (hk : l.length = k) :
    Calls Try.prog 36 #[.slice A n c, .int .i64 most] w fun e w' => ∃ A1 c1 A2 c2, e = .returned (.agg #[.int .i64 0, .slice A1 m c1, .int .i64 (e' : Int), .slice A2 k c2]) ∧ Cut A bs A1 x ∧ k ≤ c2 ∧ c2 ≤ maxLen ∧ Cut A bs A2 l ∧ Below w.heap.size w w' := by
  have := TakeText_any A n c bs most w hn hl hnc hcm h h1 h2
  rw [hrd] at this
  subst hm; subst hk
  exact this
theorem Take_is (A : Option Addr) (n c : Nat) (bs : List UInt8) (most : Int) (w : World) (hn : bs.length = n) (hl : n ≤ 2000000) (hnc : n ≤ c) (hcm : c ≤ maxLen) (h : Seen w A (bytesV bs)) (h1 : -9223372036854775808 ≤ most) (h2 : most ≤ 9223372036854775807) {l : List UInt8} {a e' k : Nat} (hrd : rdNum bs 0 most = (a, l, e')) (hk : l.length = k) :
    Calls Try.prog 35 #[.slice A n c, .int .i64 most] w fun e w' => ∃ A1 c1 A2 c2, e = .returned (.agg #[.int .i64 (a : Int), .slice A1 0 c1, .int .i64 (e' : Int), .slice A2 k c2]) ∧ Cut A bs A1 [] ∧ k ≤ c2 ∧ c2 ≤ maxLen ∧ Cut A bs A2 l ∧ Below w.heap.size w w' := by
  have := Take_any A n c bs most w hn hl hnc hcm h h1 h2
  rw [hrd] at this
  subst hk
  exact this
end Go.Proofs.Ytmlmkfooiikcgaa
