/-
  Contract of volume's fewest: those who have the fewest chunks. Conditions: a state in memory.
-/
import Derived.Test.YtcaaakoahaoooaaVolFew
namespace Go.Proofs.Ytcaaakoahaoooaa
open Go.ChangeShapes Go.WideShapes Go.ChangeAt Go.RowKit
set_option linter.unusedVariables false

theorem toI_append (a b : List Nat) : toI (a ++ b) = toI a ++ toI b := by simp [toI]
theorem toI_length (l : List Nat) : (toI l).length = l.length := by simp [toI]
theorem toI_take (l : List Nat) (k : Nat) : toI (l.take k) = (toI l).take k := by simp [toI, List.map_take]
/-- what fewest hands back: the servers, in a row that it laid itself -/
def FewRet (us : List Int) (w : World) (e : Ending) (w' : World) : Prop :=
  ∃ S : Sl, e = .returned (.slice S.A S.n S.c) ∧ IntsT w' S us ∧ (∀ b o, S.A = some ⟨b, o, none⟩ → w.heap.size ≤ b) ∧ Below w.heap.size w w'
set_option maxRecDepth 100000 in
set_option maxHeartbeats 2000000 in
theorem Vfewest (g : Nat) (s : St) (L : List Int) (copies : Nat) (w : World) (h : StAt w g s) (hc : copies ≤ 100) :
    Calls Try.prog 93 #[.pointer (some ⟨g, 0, none⟩), .agg (manyA L), .int .i64 (copies : Int)] w (FewRet (toI (fewF (fun i => L.count (i : Int)) (serversL s.pk) copies)) w) := by
  have hmk : ∀ (fn : Fn) (first cap : Array Value) (w : World), (Instr.makeFunc fn first cap).run Try.prog w = .ok (.func fn first cap) w := fun _ _ _ _ => rfl
  obtain ⟨w1, hw1⟩ : ∃ w1, w.alloc (.cells (manyA L) 63) = w1 := ⟨_, rfl⟩
  have hb1 : Below w.heap.size w w1 := by rw [← hw1]; exact below_box _ _
  have hm1 : ManyAt w1 w.heap.size L := manyA_at (by rw [← hw1]; exact heap_alloc_new _ _)
  have KS := Lib.hid (Servers_any g s w1 (h.below hb1))
  have hlen : (serversL s.pk).length ≤ 16 := srvL_len s.pk 16
  obtain ⟨l, hl⟩ : ∃ l, serversL s.pk = l := ⟨_, rfl⟩
  have h16 : ∀ x ∈ l, x < 16 := fun x hx => by
    rw [← hl] at hx
    exact List.mem_range.1 (List.mem_filter.1 hx).1
  rw [hl] at KS hlen ⊢
  obtain ⟨n, hn⟩ : ∃ n, l.length = n := ⟨_, rfl⟩
  rw [hn] at KS hlen
  have Hn := Lib.hid hn; have H16 := Lib.hid h16; have Hm1 := Lib.hid hm1; have Hb1 := Lib.hid hb1
  clear h hl hn h16 hm1 hb1
  go_enter Try.func93, Try.ntmps93
  go_wp2_with (go_at_call 12; refine KS.out.mono ?_; rintro e w2 ⟨A1, c1, rfl, hown1, hb2⟩; have Ho1 := Lib.hid hown1; have Hb2 := Lib.hid (Hb1.out.trans (hb2.mono Hb1.out.size)); have Hm2 := Lib.hid (Hm1.out.below hb2); clear hown1 hb2)
  go_loopw [7, 13] (fun sv iv wr => ∃ (i : Nat) (A' : Option Addr) (c' : Nat), i ≤ n ∧ iv = .int .i64 (i : Int) ∧ sv = .slice A' i c' ∧ wr.ownsRow w2.heap.size 3 1 (.slice A' i c') i (numsV (toI (l.take i))) ∧ Below w2.heap.size w2 wr) (fun _ iv _ => n - (intOf iv).toNat)
  case atStart => exact ⟨0, _, _, by omega, rfl, rfl, World.ownsRow_nil _ _ _ _, Below.refl _ _⟩
  case round =>
    obtain ⟨i, A', c', hin, rfl, rfl, ho, hb⟩ := hrel
    by_cases hi : i < n
    · obtain ⟨x, hx⟩ : ∃ x, l[i]? = some x := ⟨_, List.getElem?_eq_getElem (by have := Hn.out; omega)⟩
      have i0 : (0 : Int) ≤ (i : Int) := by omega
      have i1 : (i : Int) < (n : Int) := by omega
      obtain ⟨e0, e1⟩ := loadsV_get s.pk hx
      have ho1 := own_belowM Ho1.out hb
      rcases own_seenM ho1 with h0 | ⟨g1, o1, hA, hc⟩
      · rw [h0] at e0; cases e0
      subst hA
      have d0 := hc _ _ e0
      have d1 := hc _ _ e1
      rw [← Nat.add_assoc] at d1
      obtain ⟨W, hW⟩ : ∃ W, wr.alloc (.cells #[.int .i64 (x : Int), .int .i64 (s.pk x)] 43) = W := ⟨_, rfl⟩
      have hbW : Below wr.heap.size wr W := by rw [← hW]; exact below_box _ _
      have hrW : W.heap[wr.heap.size]? = some (.cells #[.int .i64 (x : Int), .int .i64 (s.pk x)] 43 (0, 0)) := by rw [← hW]; exact heap_alloc_new _ _
      have f0 : W.cell? ⟨wr.heap.size, 0, none⟩ = some (.int .i64 (x : Int)) := row_cell hrW 0
      obtain ⟨Wb, hWb⟩ : ∃ Wb, W.alloc (.cells #[.int .i64 (x : Int)] 3) = Wb := ⟨_, rfl⟩
      have hbb : Below wr.heap.size wr Wb := by rw [← hWb]; exact hbW.trans (((Below.refl _ _).alloc (Nat.le_refl _) _).mono hbW.size)
      have hsb : Seen Wb (some ⟨W.heap.size, 0, none⟩) [.int .i64 (x : Int)] := by rw [← hWb]; exact Seen.of_cells (heap_alloc_new W _)
      have htk : l.take (i + 1) = l.take i ++ [x] := by
        obtain ⟨h1, h2⟩ := List.getElem?_eq_some_iff.1 hx
        rw [List.take_succ_eq_append_getElem h1, h2]
      have Ho := Lib.hid (own_belowM ho hbb); have Hb := Lib.hid (hb.trans (hbb.mono hb.size)); have Hsb := Lib.hid hsb; have Htk := Lib.hid htk
      clear ho hb hbW hrW hbb hsb htk hx e0 e1 hc ho1
      go_wp2_with (at_builtin; refine wpList_app2 rfl (.tmp 17) (.tmp 20) _ rfl 3 _ 8 Try.underlying30 int_info rfl w2.heap.size A' i c' (numsV (toI (l.take i))) rfl Ho.out (some ⟨W.heap.size, 0, none⟩) 1 1 [.int .i64 (x : Int)] rfl rfl Hsb.out (fun u hu => by simp at hu; subst hu; rfl) (by unfold maxLen; omega) (by omega) Hb.out.size ?_; intro A4 c4 w4 hown4 hg4 hbk4; have Hown4 := Lib.hid hown4; have Hg4 := Lib.hid hg4; clear hown4 hg4 hbk4)
      go_roundw
      case rel =>
        have tg : Turned (fun k => (Value.slice A' i c').ownBlock = some k) Wb w4 := Turned.of_grown Hg4.out fun k e => e
        refine ⟨i + 1, A4, c4, by omega, by go_num, rfl, ?_, Hb.out.trans (tg.below (fun k e => (Ho.out.lt k e).1) Hb.out.size)⟩
        rw [Htk.out, toI_append, numsV_append]
        exact Hown4.out
      case measure => simp [intOf]; omega
    · obtain rfl : i = n := by omega
      have i1 : ¬ (i : Int) < (i : Int) := by omega
      have hty : l.take i = l := List.take_of_length_le (by rw [Hn.out]; exact Nat.le_refl _)
      rw [hty] at ho
      have hm := Hm2.out.below hb
      have KSF := Lib.hid (VSortFew w2.heap.size w.heap.size A' i c' L l wr Hn.out H16.out (by omega) ho hm)
      have Hb := Lib.hid (Hb2.out.trans (hb.mono Hb2.out.size)); have Ho := Lib.hid ho; have Hcap := Lib.hid (own_capL ho)
      have hcap := (own_capL ho).1
      have hmax := (own_capL ho).2
      unfold maxLen at hmax
      clear ho hb hty hm
      have hmin : ∃ m : Nat, m = min copies i ∧ min (copies : Int) (i : Int) = (m : Int) := ⟨min copies i, rfl, by omega⟩
      obtain ⟨m, hm1, hm2⟩ := hmin
      have hmi : m ≤ i := by omega
      have Hm1' := Lib.hid hm1
      clear hm1
      have m0 : (0 : Int) ≤ (m : Int) := by omega
      have mc : (m : Int) ≤ (c' : Int) := by omega
      go_wp2_with (go_at_call 102; refine KSF.out.mono ?_; rintro e w5 ⟨rfl, hown5, ht5⟩; have Hown5 := Lib.hid hown5; have Ht5 := Lib.hid ht5; clear hown5 ht5)
      go_ret
      obtain ⟨st, hst⟩ : ∃ st, (l.mergeSort (fewerB fun i => L.count (i : Int))) = st := ⟨_, rfl⟩
      have hstl : st.length = i := by rw [← hst, List.length_mergeSort, Hn.out]
      have hown := Hown5.out
      rw [hst] at hown
      have hf : fewF (fun i => L.count (i : Int)) l copies = st.take m := by
        unfold fewF
        rw [hst]
        by_cases hci : copies ≤ i
        · rw [show m = copies by have := Hm1'.out; omega]
        · rw [List.take_of_length_le (by omega), List.take_of_length_le (by have := Hm1'.out; omega)]
      have hs2 := Hb2.out.size
      refine ⟨⟨A', m, c'⟩, rfl, ⟨by rw [hf, toI_length, List.length_take]; simp only; omega, by simp only; omega, Hcap.out.2, ?_⟩, fun b o e => ?_, Hb.out.trans (Ht5.out.below (fun k e => Nat.le_trans hs2 (hown.lt k e).1) Hb.out.size)⟩
      · have h1 := (SeenT.own hown).take m
        rw [hf, toI_take]
        have e1 : numsV ((toI st).take m) = (numsV (toI st)).take m := by simp [numsV, List.map_take]
        rw [e1]
        exact h1
      · simp only at e
        rcases hown.2 with ⟨hv, _⟩ | ⟨g', cap, cur, hv, hg, _⟩
        · injection hv with h1 _ _
          rw [h1] at e
          cases e
        · injection hv with h1 _ _
          rw [h1] at e
          injection e with e
          injection e with e
          omega
end Go.Proofs.Ytcaaakoahaoooaa
