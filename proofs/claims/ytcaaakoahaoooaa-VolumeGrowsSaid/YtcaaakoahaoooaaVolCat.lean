/-
  Contracts of slices.Concat of two slices of ints, and of volume's having. Conditions: how the slices lie; a state in memory, whose numbers are within bounds.
-/
import Derived.Test.YtcaaakoahaoooaaVolSim
namespace Go.Proofs.Ytcaaakoahaoooaa
open Go.ChangeShapes Go.WideShapes Go.ChangeAt Go.RowKit Go.Sort
set_option linter.unusedVariables false

theorem VGrow (n : Nat) (w : World) (hn : n ≤ 1000) :
    Calls Try.prog 107 #[.slice none 0 0, .int .i64 (n : Int)] w fun e w' => ∃ A c, e = .returned (.slice A 0 c) ∧ w'.ownsRow w.heap.size 3 1 (.slice A 0 c) 0 [] ∧ Below w.heap.size w w' := by
  by_cases h0 : n = 0
  · subst h0
    refine (Any8.slices_Grow_room Try.growA none 0 0 0 w (by omega) (by omega) (by omega) (by omega)).mono ?_
    rintro e w' ⟨rfl, rfl⟩
    exact ⟨none, 0, rfl, World.ownsRow_nil _ _ _ _, Below.refl _ _⟩
  · obtain ⟨i0, hi, hz, hs, hb⟩ := info_parts int_info
    refine (Any8.slices_Grow_grow Try.growA i0 _ hi hz (by rw [hs]; omega) none 0 0 n [] w (by omega) (by omega) (by rw [hb]; omega) (by omega) (by simp) (fun _ => rfl) (fun a h => by cases h)).mono ?_
    rintro e w' ⟨rfl, rfl⟩
    refine ⟨_, _, rfl, ⟨by simp, .inr ⟨w.heap.size, _, _, rfl, Nat.le_refl _, heap_alloc_new w.drew _, by omega, ?_, ?_, by simp⟩⟩, (Below.refl _ _).drew.alloc (Nat.le_refl _) _⟩
    · exact grownCap_le_maxLen _ _ _ _ (by unfold maxLen; omega)
    · have := grownCap_ge w n 0 (Try.growA_ren.t 25)
      simp [size_zeroCells, Value.cells]
      omega
def sumN (n1 n2 i : Nat) : Nat := if i = 0 then 0 else if i = 1 then n1 else n1 + n2
set_option maxRecDepth 100000 in
set_option maxHeartbeats 2000000 in
theorem VConcat (s t : Sl) (us vs : List Int) (g : Nat) (w : World) (hg : w.cell? ⟨g, 0, none⟩ = some (.slice s.A s.n s.c)) (hg1 : w.cell? ⟨g, 1, none⟩ = some (.slice t.A t.n t.c)) (h : IntsT w s us) (k : IntsT w t vs) (hl : us.length ≤ 100) (hl2 : vs.length ≤ 100) :
    Calls Try.prog 101 #[.slice (some ⟨g, 0, none⟩) 2 2] w (IntsRet (us ++ vs) w) := by
  obtain ⟨A1, n1, c1⟩ := s
  obtain ⟨A2, n2, c2⟩ := t
  have e1 := h.len; have e2 := k.len
  simp only at e1 e2 hg hg1
  have h1 : n1 ≤ 100 := by omega
  have h2 : n2 ≤ 100 := by omega
  have HS := Lib.hid h.see.1; have HT := Lib.hid k.see.1; have G0 := Lib.hid hg; have G1 := Lib.hid hg1; have E1 := Lib.hid e1; have E2 := Lib.hid e2
  have hgl := block_lt_of_cell hg
  clear h k e1 e2 hg hg1 hl hl2
  go_enter Try.func101, Try.ntmps101
  go_wp2
  go_loopw [3, 11] (fun zv iv wr => ∃ i : Nat, i ≤ 2 ∧ iv = .int .i64 (i : Int) ∧ zv = .int .i64 (sumN n1 n2 i : Nat) ∧ wr = w) (fun zv iv _ => 2 - (intOf iv).toNat)
  case atStart => exact ⟨0, by omega, rfl, rfl, rfl⟩
  case round =>
    obtain ⟨i, hi, rfl, rfl, rfl⟩ := hrel
    rcases (by omega : i = 0 ∨ i = 1 ∨ i = 2) with rfl | rfl | rfl
    · have g0 := G0.out
      have e0 : sumN n1 n2 0 = 0 := rfl
      rw [e0]
      clear e0
      have hz : (0 : Int) ≤ (n1 : Int) := by omega
      have hz2 : ¬ ((n1 : Int) < 0) := by omega
      go_wp2
      go_roundw
      case rel => exact ⟨1, by omega, by go_num, rfl, trivial⟩
      case measure => simp [intOf]
    · have g1 := G1.out
      have e0 : sumN n1 n2 1 = n1 := rfl
      rw [e0]
      clear e0
      have hz2 : ¬ ((n1 : Int) + (n2 : Int) < 0) := by omega
      go_wp2
      go_roundw
      case rel => exact ⟨2, by omega, by go_num, by show _ = Value.int .i64 ((n1 + n2 : Nat) : Int); rw [Int.natCast_add], trivial⟩
      case measure => simp [intOf]
    · have e0 : sumN n1 n2 2 = n1 + n2 := rfl
      rw [e0]
      clear e0
      obtain ⟨n, hn⟩ : ∃ n, n1 + n2 = n := ⟨_, rfl⟩
      have hn2 : n ≤ 200 := by omega
      rw [hn]
      have KG := Lib.hid (VGrow n wr (by omega))
      have Hn := Lib.hid hn
      clear hn
      go_wp2_with (go_at_call 107; refine KG.out.mono ?_; rintro e w1 ⟨A0, c0, rfl, hown0, hb0⟩; have Hown0 := Lib.hid hown0; have Hb0 := Lib.hid hb0; clear hown0 hb0)
      have hgw : g < wr.heap.size := hgl
      obtain ⟨wo, hwo⟩ : ∃ wo : World, wo = wr := ⟨_, rfl⟩
      rw [← hwo] at Hown0 Hb0 HS HT G0 G1
      go_loopw [6, 27] (fun sv iv wq => ∃ (i : Nat) (A' : Option Addr) (c' : Nat), i ≤ 2 ∧ iv = .int .i64 (i : Int) ∧ sv = .slice A' (sumN n1 n2 i) c' ∧ wq.ownsRow wo.heap.size 3 1 (.slice A' (sumN n1 n2 i) c') (sumN n1 n2 i) (numsV ((us ++ vs).take (sumN n1 n2 i))) ∧ Below wo.heap.size wo wq) (fun sv iv _ => 2 - (intOf iv).toNat)
      case atStart => exact ⟨0, _, _, by omega, rfl, rfl, by simpa [sumN, numsV] using Hown0.out, Hb0.out⟩
      case round =>
        obtain ⟨i, A', c', hi, rfl, rfl, ho, hb⟩ := hrel
        rcases (by omega : i = 0 ∨ i = 1 ∨ i = 2) with rfl | rfl | rfl
        · have e0 : sumN n1 n2 0 = 0 := rfl
          rw [e0] at ho ⊢
          have et : (us ++ vs).take 0 = ([] : List Int) := by simp
          rw [et] at ho
          have gg : wr.cell? ⟨g, 0, none⟩ = some (.slice A1 n1 c1) := by rw [hb.cell (p := ⟨g, 0, none⟩) (by rw [hwo]; exact hgl)]; exact G0.out
          have hss := HS.out.below hb
          have hne : (numsV us).length = n1 := by rw [numsV_length]; exact E1.out
          have Ho := Lib.hid ho; have Hb := Lib.hid hb; have Hss := Lib.hid hss; have Hne := Lib.hid hne
          clear ho hb hss hne e0 et
          go_wp2_with (at_builtin; refine wpList_app2 rfl (.tmp 31) (.tmp 32) _ rfl 3 _ 8 Try.underlying30 int_info rfl wo.heap.size A' 0 c' (numsV ([] : List Int)) rfl Ho.out A1 n1 c1 (numsV us) rfl Hne.out Hss.out (numsV_one _) (by unfold maxLen; omega) (by omega) Hb.out.size ?_; intro A4 c4 w4 hown4 hg4 hbk4; have Hown4 := Lib.hid hown4; have Hg4 := Lib.hid hg4; clear hown4 hg4 hbk4)
          go_roundw
          case rel =>
            have tg : Turned (fun k => (Value.slice A' 0 c').ownBlock = some k) wr w4 := Turned.of_grown Hg4.out fun k e => e
            have e1 : sumN n1 n2 (0 + 1) = 0 + n1 := by simp [sumN]
            refine ⟨0 + 1, A4, c4, by omega, by go_num, by rw [e1, Nat.zero_add], ?_, Hb.out.trans (tg.below (fun k e => (Ho.out.lt k e).1) Hb.out.size)⟩
            rw [e1]
            have := Hown4.out
            rw [← numsV_append] at this
            have ee : (us ++ vs).take (0 + n1) = ([] : List Int) ++ us := by rw [Nat.zero_add, ← E1.out, List.take_left]; rfl
            rw [ee]
            exact this
          case measure => simp [intOf]
        · have e0 : sumN n1 n2 1 = n1 := rfl
          rw [e0] at ho ⊢
          have et : (us ++ vs).take n1 = us := by rw [← E1.out, List.take_left]
          rw [et] at ho
          have gg : wr.cell? ⟨g, 1, none⟩ = some (.slice A2 n2 c2) := by rw [hb.cell (p := ⟨g, 1, none⟩) (by rw [hwo]; exact hgl)]; exact G1.out
          have hss := HT.out.below hb
          have hne : (numsV vs).length = n2 := by rw [numsV_length]; exact E2.out
          have Ho := Lib.hid ho; have Hb := Lib.hid hb; have Hss := Lib.hid hss; have Hne := Lib.hid hne
          clear ho hb hss hne e0 et
          go_wp2_with (at_builtin; refine wpList_app2 rfl (.tmp 31) (.tmp 32) _ rfl 3 _ 8 Try.underlying30 int_info rfl wo.heap.size A' n1 c' (numsV us) rfl Ho.out A2 n2 c2 (numsV vs) rfl Hne.out Hss.out (numsV_one _) (by unfold maxLen; omega) (by omega) Hb.out.size ?_; intro A4 c4 w4 hown4 hg4 hbk4; have Hown4 := Lib.hid hown4; have Hg4 := Lib.hid hg4; clear hown4 hg4 hbk4)
          go_roundw
          case rel =>
            have tg : Turned (fun k => (Value.slice A' n1 c').ownBlock = some k) wr w4 := Turned.of_grown Hg4.out fun k e => e
            have e1 : sumN n1 n2 (1 + 1) = n1 + n2 := by simp [sumN]
            refine ⟨1 + 1, A4, c4, by omega, by go_num, by rw [e1], ?_, Hb.out.trans (tg.below (fun k e => (Ho.out.lt k e).1) Hb.out.size)⟩
            rw [e1]
            have := Hown4.out
            rw [← numsV_append] at this
            have ee : (us ++ vs).take (n1 + n2) = us ++ vs := by rw [List.take_of_length_le (by rw [List.length_append, E1.out, E2.out]; exact Nat.le_refl _)]
            rw [ee]
            exact this
          case measure => simp [intOf]
        · have e0 : sumN n1 n2 2 = n1 + n2 := rfl
          rw [e0] at ho ⊢
          have et : (us ++ vs).take (n1 + n2) = us ++ vs := by rw [List.take_of_length_le (by rw [List.length_append, E1.out, E2.out]; exact Nat.le_refl _)]
          rw [et] at ho
          have Ho := Lib.hid ho; have Hb := Lib.hid hb
          clear ho hb et e0
          go_wp2
          go_ret
          subst hwo
          exact ⟨⟨A', n1 + n2, c'⟩, rfl, Ho.out, Hb.out⟩
end Go.Proofs.Ytcaaakoahaoooaa
