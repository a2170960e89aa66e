/-
  Contract of the document's Split: the pieces, block by block. Conditions: a right range.
-/
import Derived.Test.YtmdmpliiiecmlaaStrSpl
namespace Go.Proofs.Ytmdmpliiiecmlaa
open Go.ChangeShapes Go.WideShapes Go.ChangeAt Go.RowKit
set_option linter.unusedVariables false

def PcsRet1 (x : List Pc) (w : World) (en : Ending) (w' : World) : Prop :=
  ∃ A c, en = .returned (.slice A x.length c) ∧ w'.ownsRow w.heap.size 33 4 (.slice A x.length c) x.length (pcsV x) ∧ Below w.heap.size w w'
/-- the last piece of a row of one's own: where its cells lie; what a store into its third one leaves -/
theorem last_pc {w : World} {B n c : Nat} {A : Option Addr} {X : List Pc} {a b v o : Int} (hn : X.length = n) (h : w.ownsRow B 33 4 (.slice A (n + 1) c) (n + 1) (pcsV (X ++ [⟨a, b, v, o⟩]))) :
    ∃ g, A = some ⟨g, 0, none⟩ ∧ B ≤ g ∧ w.cell? ⟨g, n * 4 + 2, none⟩ = some (.int .i64 v) ∧ w.frozen? ⟨g, n * 4 + 2, none⟩ = false ∧
      ∀ u, (w.setCell ⟨g, n * 4 + 2, none⟩ (.int .i64 u)).ownsRow B 33 4 (.slice A (n + 1) c) (n + 1) (pcsV (X ++ [⟨a, b, u, o⟩])) := by
  obtain ⟨g, cap, e, hg, hlt⟩ := h.form (by omega)
  injection e with e
  subst e
  have hl : (pcsV (X ++ [⟨a, b, v, o⟩])).length = (n + 1) * 4 := h.1
  obtain ⟨_, _, _, hf⟩ := own_cell1 h (o := n * 4 + 2) (by omega) (.int .i64 v)
  refine ⟨g, rfl, hg, ?_, hf, fun u => ?_⟩
  · have h1 := (pcsV_get (l := X ++ [⟨a, b, v, o⟩]) (i := n) (p := ⟨a, b, v, o⟩) (by rw [← hn]; simp)).2.2.1
    rcases own_seenM h with h0 | ⟨g', o', hA, hc⟩
    · rw [h0] at hl; simp at hl
    · injection hA with hA
      injection hA with hA hA2
      subst hA; subst hA2
      have := hc _ _ h1
      rwa [Nat.zero_add] at this
  · obtain ⟨h2, _⟩ := own_cell1 h (o := n * 4 + 2) (by omega) (.int .i64 u)
    have := pcsV_last X a b v o u
    rw [hn] at this
    rw [this] at h2
    exact h2
theorem pcsV_one (p : Pc) : pcsV [p] = pcV p := by simp [pcsV]
theorem grown_last {w wr w4 : World} {A' : Option Addr} {c' n : Nat} {X : List Value} {o : Obj} (ho : wr.ownsRow w.heap.size 33 4 (.slice A' n c') n X) (hb : Below w.heap.size w wr) (hg : (wr.alloc o).grownBy w4 (Value.slice A' n c').ownBlock) : Below w.heap.size w w4 := by
  have h1 : Below wr.heap.size wr (wr.alloc o) := (Below.refl _ _).alloc (Nat.le_refl _) _
  have hb2 := hb.trans (h1.mono hb.size)
  have tg : Turned (fun k' => (Value.slice A' n c').ownBlock = some k') (wr.alloc o) w4 := Turned.of_grown hg fun k e => e
  exact hb2.trans (tg.below (fun k' e => (ho.lt k' e).1) hb2.size)
set_option maxRecDepth 100000 in
set_option maxHeartbeats 2000000 in
theorem RSplit (f m : Nat) (w : World) (hm : 1 ≤ m) (h5 : f + m ≤ 512) :
    Calls Try.prog 13 #[.int .i64 (f : Int), .int .i64 (m : Int)] w (PcsRet1 (pcsF f (f + m)) w) := by
  have f0 : (0 : Int) ≤ (f : Int) := by omega
  have f1 : (f : Int) ≤ 512 := by omega
  have m0 : (1 : Int) ≤ (m : Int) := by omega
  have m1 : (m : Int) ≤ 512 := by omega
  go_enter Try.func13, Try.ntmps13
  go_wp2
  go_loopw [5, 6] (fun sv iv wr => ∃ (i n : Nat) (A' : Option Addr) (c' : Nat), i ≤ m ∧ iv = .int .i64 (i : Int) ∧ (pcsF f (f + i)).length = n ∧ sv = .slice A' n c' ∧ wr.ownsRow w.heap.size 33 4 (.slice A' n c') n (pcsV (pcsF f (f + i))) ∧ Below w.heap.size w wr) (fun _ iv _ => 513 - (intOf iv).toNat)
  case atStart => exact ⟨0, 0, none, 0, Nat.zero_le _, rfl, by simp [pcsF], rfl, by rw [show pcsF f (f + 0) = [] by simp [pcsF]]; exact World.ownsRow_nil _ _ _ _, Below.refl _ _⟩
  case round =>
    obtain ⟨i, n, A', c', hi, rfl, hn, rfl, ho, hb⟩ := hrel
    have i0 : (0 : Int) ≤ (i : Int) := by omega
    have i1 : (i : Int) ≤ 512 := by omega
    have hn5 : n ≤ 65 := by rw [← hn, pcsF_length]; split <;> omega
    by_cases hlt : (i : Int) < (m : Int)
    · by_cases hnew : i = 0 ∨ (f + i) % 8 = 0
      · have hx := pcsF_new hnew
        have Hx := Lib.hid hx
        have Ho := Lib.hid ho; have Hb := Lib.hid hb; have Hn := Lib.hid hn
        clear ho hb hx hn
        have ex : (⟨(((f + i) / 8 : Nat) : Int), (((f + i) % 8 : Nat) : Int), 1, (i : Int)⟩ : Pc) = ⟨((f : Int) + (i : Int)) / 8, ((f : Int) + (i : Int)) % 8, 1, (i : Int)⟩ := by congr 1 <;> omega
        rw [ex] at Hx
        clear ex
        by_cases hz : i = 0
        · have g1 : ((i : Int) == 0) = true := by simp; omega
          clear hz hnew
          go_wp2_with (at_builtin; refine wpList_app3 rfl (.tmp 23) (.tmp 30) _ rfl 33 _ 4 32 Try.underlying22 pc_info rfl (by omega) w.heap.size A' n c' (pcsV (pcsF f (f + i))) rfl (own_belowM Ho.out ((Below.refl _ _).alloc (Nat.le_refl _) _)) wr.heap.size 0 1 1 (pcV ⟨((f : Int) + (i : Int)) / 8, ((f : Int) + (i : Int)) % 8, 0, (i : Int)⟩) rfl rfl (Seen.of_cells (heap_alloc_new wr _)) (pcV_one _) (by unfold maxLen; omega) (by omega) (Nat.le_trans Hb.out.size (by simp)) ?_; intro A4 c4 w4 hown4 hg4 hbk4; rw [← pcsV_one, ← pcsV_append] at hown4; obtain ⟨g, rfl, hg, hc, hf, hs⟩ := last_pc Hn.out hown4; have Hs := Lib.hid hs; have Hb4 := Lib.hid (grown_last Ho.out Hb.out hg4); clear hown4 hg4 hbk4 hs)
          go_roundw
          case rel => exact ⟨i + 1, n + 1, _, _, by omega, by go_num, by rw [← Nat.add_assoc, Hx.out, List.length_append, Hn.out]; rfl, rfl, by rw [← Nat.add_assoc, Hx.out]; exact Hs.out 1, Hb4.out.setCell hg _⟩
          case measure => simp [intOf]; omega
        · have g1 : ((i : Int) == 0) = false := by simp; omega
          have g2 : (((f : Int) + (i : Int)) % 8 == 0) = true := by simp; omega
          clear hz hnew
          go_wp2_with (at_builtin; refine wpList_app3 rfl (.tmp 23) (.tmp 30) _ rfl 33 _ 4 32 Try.underlying22 pc_info rfl (by omega) w.heap.size A' n c' (pcsV (pcsF f (f + i))) rfl (own_belowM Ho.out ((Below.refl _ _).alloc (Nat.le_refl _) _)) wr.heap.size 0 1 1 (pcV ⟨((f : Int) + (i : Int)) / 8, ((f : Int) + (i : Int)) % 8, 0, (i : Int)⟩) rfl rfl (Seen.of_cells (heap_alloc_new wr _)) (pcV_one _) (by unfold maxLen; omega) (by omega) (Nat.le_trans Hb.out.size (by simp)) ?_; intro A4 c4 w4 hown4 hg4 hbk4; rw [← pcsV_one, ← pcsV_append] at hown4; obtain ⟨g, rfl, hg, hc, hf, hs⟩ := last_pc Hn.out hown4; have Hs := Lib.hid hs; have Hb4 := Lib.hid (grown_last Ho.out Hb.out hg4); clear hown4 hg4 hbk4 hs)
          go_roundw
          case rel => exact ⟨i + 1, n + 1, _, _, by omega, by go_num, by rw [← Nat.add_assoc, Hx.out, List.length_append, Hn.out]; rfl, rfl, by rw [← Nat.add_assoc, Hx.out]; exact Hs.out 1, Hb4.out.setCell hg _⟩
          case measure => simp [intOf]; omega
      · have g1 : ((i : Int) == 0) = false := by simp; omega
        have g2 : (((f : Int) + (i : Int)) % 8 == 0) = false := by simp; omega
        obtain ⟨X, a, b, v, o, e1, e2, v0, v8⟩ := pcsF_same (f := f) (i := i) (by omega) (by omega)
        obtain ⟨k, rfl⟩ : ∃ k, n = k + 1 := ⟨n - 1, by rw [e1] at hn; simp at hn; omega⟩
        rw [e1] at ho hn
        have hk : X.length = k := by simpa using hn
        obtain ⟨g, rfl, hg, hc, hf, hs⟩ := last_pc hk ho
        have E2 := Lib.hid e2; have Hs := Lib.hid hs; have Hb := Lib.hid hb; have Hk := Lib.hid hk
        clear e1 e2 hs hb hk hn ho
        go_wp2
        go_roundw
        case rel => exact ⟨i + 1, k + 1, _, _, by omega, by go_num, by rw [← Nat.add_assoc, E2.out, List.length_append, Hk.out]; rfl, rfl, by rw [← Nat.add_assoc, E2.out]; exact Hs.out (v + 1), Hb.out.setCell hg _⟩
        case measure => simp [intOf]; omega
    · obtain rfl : i = m := by omega
      have Ho := Lib.hid ho; have Hb := Lib.hid hb; have Hn := Lib.hid hn
      clear ho hb hn
      go_wp2
      go_ret
      exact ⟨A', c', by rw [Hn.out]; rfl, by rw [Hn.out]; exact Ho.out, Hb.out⟩
end Go.Proofs.Ytmdmpliiiecmlaa
