/-
  Contracts of volume's Policies and admitted. Conditions: a state in memory, whose numbers are within bounds.
-/
import Derived.Test.YtcaaakoahaoooaaVolSli
import Derived.Test.YtcaaakoahaoooaaQuietB
namespace Go.Proofs.Ytcaaakoahaoooaa
open Go.ChangeShapes Go.WideShapes Go.ChangeAt Go.RowKit
set_option linter.unusedVariables false

def polV (p : Pol) : List Value := [.int .i64 p.re, .int .i64 p.we, .int .i64 p.li, .int .i64 p.bu]
def polsV (l : List Pol) : List Value := l.flatMap polV
theorem polsV_append (a b : List Pol) : polsV (a ++ b) = polsV a ++ polsV b := by simp [polsV]
theorem polsV_get : ∀ {l : List Pol} {i : Nat} {p : Pol}, l[i]? = some p → (polsV l)[i * 4]? = some (.int .i64 p.re) ∧ (polsV l)[i * 4 + 1]? = some (.int .i64 p.we) ∧ (polsV l)[i * 4 + 2]? = some (.int .i64 p.li) ∧ (polsV l)[i * 4 + 3]? = some (.int .i64 p.bu)
  | [], _, _, h => by simp at h
  | q :: r, 0, p, h => by
    simp at h
    subst h
    exact ⟨rfl, rfl, rfl, rfl⟩
  | q :: r, i + 1, p, h => by
    have := polsV_get (l := r) (i := i) (p := p) (by simpa using h)
    have e1 : (i + 1) * 4 = (i * 4) + 1 + 1 + 1 + 1 := by omega
    rw [e1]
    exact this
theorem pols_own {w : World} {B n c : Nat} {A : Option Addr} {l : List Pol} (h : w.ownsRow B 29 4 (.slice A n c) n (polsV l)) (hl : ∀ p ∈ l, InP p) : PolsAt w A l := by
  rcases own_seenM h with h0 | ⟨g, o, hA, hc⟩
  · refine .inl ?_
    cases l with
    | nil => rfl
    | cons p r => simp [polsV, polV] at h0
  · refine .inr ⟨g, o, hA, fun i p hp => ?_⟩
    obtain ⟨e0, e1, e2, e3⟩ := polsV_get hp
    exact ⟨by rw [hc _ _ e0], by rw [Nat.add_assoc, hc _ _ e1], by rw [Nat.add_assoc, hc _ _ e2], by rw [Nat.add_assoc, hc _ _ e3], hl p (List.mem_of_getElem? hp)⟩
theorem pol_infoZ : (Try.prog.info? 29).map (fun i => (i.zero, i.size, i.bytes)) = some (some (.agg #[.int .i64 0, .int .i64 0, .int .i64 0, .int .i64 0]), 4, 32) := by kernel_rfl
attribute [local go_sem ↓] ldCk_eq
set_option maxRecDepth 100000 in
theorem VpolPred (k : Ck) (g : Nat) (x : Int) (w : World) (hg : w.cell? ⟨g, 0, none⟩ = some (.int .i64 x)) (h : CkOk w k) (hm : k.ms.length ≤ 1000000) (hj : k.js.length ≤ 1000000) :
    Calls Try.prog 32 #[ckA k, .pointer (some ⟨g, 0, none⟩)] w fun e w' => e = .returned (.bool (hasK x k.dat)) ∧ Below w.heap.size w w' := by
  unfold ckA
  obtain ⟨w1, hw1, hb1, hr⟩ := ck_box w k
  have C := Lib.hid (Vhas k x w1 (h.below hb1) hm hj)
  have hld := ldCk_run (CkAt.of_row hr)
  have hx : w1.cell? ⟨g, 0, none⟩ = some (.int .i64 x) := by rw [hb1.cell (block_lt_of_cell hg)]; exact hg
  unfold ckA at C
  have Hb := Lib.hid hb1
  clear h hb1 hr hg
  go_enter Try.func32, Try.ntmps32
  go_wp2_with (go_at_call 33; refine C.out.mono ?_; rintro e w' ⟨rfl, hb3⟩; have Hb3 := Lib.hid (Hb.out.trans (hb3.mono Hb.out.size)); clear hb3)
  go_ret
  exact ⟨rfl, Hb3.out⟩
/-- policies of the volumes below n of which a server has a chunk -/
def polsN (s : St) (sv : Int) (n : Nat) : List Pol := ((List.range n).filter fun i => (s.vs i).ks.any (hasK sv)).map fun i => (s.vs i).p
theorem polsN_yes {s : St} {sv : Int} {n : Nat} (h : (s.vs n).ks.any (hasK sv) = true) : polsN s sv (n + 1) = polsN s sv n ++ [(s.vs n).p] := by simp [polsN, List.range_succ, h]
theorem polsN_no {s : St} {sv : Int} {n : Nat} (h : (s.vs n).ks.any (hasK sv) = false) : polsN s sv (n + 1) = polsN s sv n := by simp [polsN, List.range_succ, h]
theorem polsN_len (s : St) (sv : Int) (n : Nat) : (polsN s sv n).length ≤ n := by
  have := List.length_filter_le (fun i => (s.vs i).ks.any (hasK sv)) (List.range n)
  simpa [polsN] using this
theorem polsN_in {s : St} (h : StFit s) (sv : Int) {n : Nat} (hn : n ≤ 64) : ∀ p ∈ polsN s sv n, InP p := fun p hp => by
  obtain ⟨i, hi, rfl⟩ := List.mem_map.1 hp
  have := List.mem_range.1 (List.mem_filter.1 hi).1
  exact (h.vs i (by omega)).p
attribute [local go_sem ↓] ldPol_eq
set_option maxRecDepth 100000 in
set_option maxHeartbeats 1000000 in
theorem Policies_any (g : Nat) (s : St) (sv : Int) (w : World) (h : StAt w g s) (hf : StFit s) :
    Calls Try.prog 14 #[.pointer (some ⟨g, 0, none⟩), .int .i64 sv] w (OwnRetM 29 4 (polsS s sv).length (polsV (polsS s sv)) w) := by
  have hmk : ∀ (fn : Fn) (first cap : Array Value) (w : World), (Instr.makeFunc fn first cap).run Try.prog w = .ok (.func fn first cap) w := fun _ _ _ _ => rfl
  obtain ⟨w1, hw1⟩ : ∃ w1, w.alloc (.cells #[.int .i64 sv] 3) = w1 := ⟨_, rfl⟩
  have hb1 : Below w.heap.size w w1 := by rw [← hw1]; exact below_box _ _
  have hg1 : w1.heap[w.heap.size]? = some (.cells #[.int .i64 sv] 3 (0, 0)) := by rw [← hw1]; exact heap_alloc_new _ _
  obtain ⟨cs, K, X, h⟩ := h
  have H := Lib.hid (h.below hb1); have Hb1 := Lib.hid hb1; have Hf := Lib.hid hf; have Hg1 := Lib.hid hg1
  have eg : ∀ args w, (callFunc 32 args).run Try.prog w = .ok (.enter 32 args) w := enters_of Try.func32 (by kernel_rfl) rfl
  have Eg := Lib.hid eg
  clear h hb1 hg1 hf eg
  go_enter Try.func14, Try.ntmps14
  go_wp2
  go_loopw [5, 8] (fun lv iv wr => ∃ (i : Nat) (A' : Option Addr) (c' : Nat), i ≤ 64 ∧ iv = .int .i64 (i : Int) ∧ lv = .slice A' (polsN s sv i).length c' ∧ wr.ownsRow w1.heap.size 29 4 (.slice A' (polsN s sv i).length c') (polsN s sv i).length (polsV (polsN s sv i)) ∧ Below w1.heap.size w1 wr) (fun _ iv _ => 64 - (intOf iv).toNat)
  case atStart => exact ⟨0, _, _, by omega, rfl, rfl, World.ownsRow_nil _ _ _ _, Below.refl _ _⟩
  case round =>
    obtain ⟨i, A', c', hin, rfl, rfl, ho, hb⟩ := hrel
    obtain ⟨n, hn⟩ : ∃ n, (polsN s sv i).length = n := ⟨_, rfl⟩
    have hn6 : n ≤ 64 := by have := polsN_len s sv i; omega
    rw [hn] at ho ⊢
    by_cases hi : i < 64
    · have h := H.out.below hb
      have i0 : (0 : Int) ≤ (i : Int) := by omega
      have i1 : (i : Int) < 64 := by omega
      have c6 : wr.cell? ⟨g, 16 + i * 7 + 6, none⟩ = some (.slice (K i).A (K i).n (K i).c) := by rw [h.cell]; exact h.c6 i hi
      have hfv := Hf.out.vs i hi
      have hkl := hfv.kl
      rw [← h.dat i hi, List.length_map] at hkl
      have hp : PredK 32 #[.pointer (some ⟨w.heap.size, 0, none⟩)] (hasK sv) (X i) wr := fun W k hbW hk => by
        have hc := hfv.ks k.dat (by rw [← h.dat i hi]; exact List.mem_map.2 ⟨k, hk, rfl⟩)
        have hc1 := hc.ml
        have hc2 := hc.jl
        refine VpolPred k w.heap.size sv W ?_ ((h.ks i hi).ok k hk |>.below hbW) (by have : k.ms.length ≤ 16 := hc1; omega) (by have : k.js.length ≤ 16 := hc2; omega)
        have hlt := (Array.getElem?_eq_some_iff.1 Hg1.out).1
        rw [hbW.cell (p := ⟨w.heap.size, 0, none⟩) (by have := hb.size; show w.heap.size < _; omega), hb.cell hlt]
        exact row_cell Hg1.out 0
      have KC := Lib.hid (VContainsFunc (K i) (X i) 32 (.pointer (some ⟨w.heap.size, 0, none⟩)) (hasK sv) wr (h.ks i hi) hkl hp Eg.out)
      rw [h.dat i hi] at KC
      obtain ⟨b, hb0⟩ : ∃ b, (s.vs i).ks.any (hasK sv) = b := ⟨_, rfl⟩
      rw [hb0] at KC
      have Hb := Lib.hid hb; have Ho := Lib.hid ho; have Hn := Lib.hid hn
      obtain ⟨p, hpe⟩ : ∃ p, (s.vs i).p = p := ⟨_, rfl⟩
      have hat : PolAt wr g (16 + i * 7 + 1) p := by
        rw [← hpe]
        exact ⟨by rw [h.cell]; exact h.c1 i hi, by rw [h.cell]; exact h.c2 i hi, by rw [h.cell]; exact h.c3 i hi, by rw [h.cell]; exact h.c4 i hi, hfv.p⟩
      have Hat := Lib.hid hat
      clear hb ho hn hp hfv hkl h hat
      cases b with
      | true =>
        have Hs := Lib.hid (polsN_yes hb0)
        rw [hpe] at Hs
        clear hb0 hpe
        go_wp2_with (first
          | (go_at_call 31; refine KC.out.mono ?_; rintro e w2 ⟨rfl, hb2⟩; have Hb2 := Lib.hid hb2; have hld := ldPol_run (Hat.out.below hb2); obtain ⟨W3, hW3⟩ : ∃ W3, w2.alloc (.cells #[.int .i64 p.re, .int .i64 p.we, .int .i64 p.li, .int .i64 p.bu] 29) = W3 := ⟨_, rfl⟩; have Hb3 := Lib.hid (show Below w2.heap.size w2 W3 from (by rw [← hW3]; exact below_box _ _)); have Hs3 := Lib.hid (show Seen W3 (some ⟨w2.heap.size, 0, none⟩) (polV p) from (by rw [← hW3]; exact Seen.of_cells (heap_alloc_new w2 _))); have Ho3 := Lib.hid (own_belowM (own_belowM Ho.out hb2) Hb3.out); have Hb13 := Lib.hid ((Hb.out.trans (hb2.mono Hb.out.size)).trans (Hb3.out.mono (Nat.le_trans Hb.out.size hb2.size))); clear hb2)
          | (at_builtin; refine wpList_app3 rfl (.tmp 22) (.tmp 27) _ rfl 29 _ 4 32 Try.underlying44 pol_infoZ rfl (by omega) w1.heap.size A' n c' (polsV (polsN s sv i)) rfl Ho3.out w2.heap.size 0 1 1 (polV p) rfl rfl Hs3.out (fun u hu => by simp [polV] at hu; rcases hu with rfl | rfl | rfl | rfl <;> rfl) (by unfold maxLen; omega) (by omega) Hb13.out.size ?_; intro A4 c4 w4 hown4 hg4 hbk4; have Hown4 := Lib.hid hown4; have Hg4 := Lib.hid hg4; clear hown4 hg4 hbk4))
        go_roundw
        case rel =>
          have tg : Turned (fun k => (Value.slice A' n c').ownBlock = some k) W3 w4 := Turned.of_grown Hg4.out fun k e => e
          have el : (polsN s sv (i + 1)).length = n + 1 := by rw [Hs.out, List.length_append, Hn.out]; rfl
          refine ⟨i + 1, A4, c4, by omega, by go_num, by rw [el], ?_, ?_⟩
          · have := Hown4.out
            rw [el, Hs.out, polsV_append, show polsV [p] = polV p by simp [polsV]]
            exact this
          · exact Hb13.out.trans (tg.below (fun k e => (Ho3.out.lt k e).1) Hb13.out.size)
        case measure => simp [intOf]; omega
      | false =>
        have Hs := Lib.hid (polsN_no hb0)
        clear hb0 hpe
        go_wp2_with (go_at_call 31; refine KC.out.mono ?_; rintro e w2 ⟨rfl, hb2⟩; have Hb2 := Lib.hid hb2; clear hb2)
        go_roundw
        case rel => exact ⟨i + 1, A', c', by omega, by go_num, by rw [Hs.out, Hn.out], by rw [Hs.out, Hn.out]; exact own_belowM Ho.out Hb2.out, Hb.out.trans (Hb2.out.mono Hb.out.size)⟩
        case measure => simp [intOf]; omega
    · obtain rfl : i = 64 := by omega
      have i1 : ¬ ((64 : Nat) : Int) < 64 := by omega
      have Ho := Lib.hid ho; have Hb := Lib.hid hb; have Hn := Lib.hid hn
      clear ho hb hn
      go_wp2
      go_ret
      refine ⟨A', c', ?_, ?_, Hb1.out.trans (Hb.out.mono Hb1.out.size)⟩
      · show _ = Ending.returned (.slice A' (polsN s sv 64).length c')
        rw [Hn.out]; rfl
      · show World.ownsRow _ _ _ _ (.slice A' (polsN s sv 64).length c') (polsN s sv 64).length _
        rw [Hn.out]
        exact own_baseM Ho.out Hb1.out.size
end Go.Proofs.Ytcaaakoahaoooaa
