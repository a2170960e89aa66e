/-
  Contract of mail's New: of any room. No condition but that.
-/
import Derived.Test.YtbialoaphgmigaaMail
import Derived.Laws.EntriesVeiled
import Derived.Conc.SmallLaws
import Derived.RegionTactic
import Derived.ChangeAlike
namespace Go.Proofs.Ytbialoaphgmigaa
open Go.ChangeShapes Go.WideShapes Go.ChangeAt Go.RowKit Go.Conc
set_option linter.unusedVariables false

theorem New_no (r : Int) (w : World) (h : ¬ (1 ≤ r ∧ r ≤ 4096)) :
    Calls Try.prog 7 #[.int .i64 r] w fun e w' => e = .returned (.pointer none) ∧ w = w' := by
  by_cases h1 : r < 1
  · clear h
    go_enter Try.func7, Try.ntmps7
    go_wp2
    go_ret
    exact ⟨rfl, rfl⟩
  · have h2 : 4096 < r := by omega
    clear h
    go_enter Try.func7, Try.ntmps7
    go_wp2
    go_ret
    exact ⟨rfl, rfl⟩

theorem letter_bytes : ∃ i, Try.prog.info? 29 = some i ∧ i.bytes = 40 := by
  have h : (Try.prog.info? 29).map (·.bytes) = some 40 := by kernel_rfl
  obtain ⟨i, hi, hb⟩ := Option.map_eq_some_iff.1 h
  exact ⟨i, hi, hb⟩
theorem mk_chan (r : Nat) (h : r ≤ 4096) (w : World) : (Instr.makeChan 46 (.int .i64 (r : Int))).run Try.prog w = .ok (.chan (some w.heap.size)) (w.alloc (.chan r #[] false 0 0 false)) := by
  obtain ⟨i, hi, hb⟩ := letter_bytes
  exact run_makeChan (P := Try.prog) (w := w) Try.underlying46 hi .i64 r (by omega) (by rw [hb]; omega)

/-- the box's cells when k channels are made -/
def chansK (g k : Nat) : Array Value := #[.chan (if 0 < k then some (g + 1) else none), .chan (if 1 < k then some (g + 2) else none), .chan (if 2 < k then some (g + 3) else none)]
/-- where New stands when k channels are made -/
structure NewAt (w : World) (room k : Nat) (wr : World) : Prop where
  b : Below w.heap.size w wr
  size : wr.heap.size = w.heap.size + 1 + k
  row : wr.heap[w.heap.size]? = some (.cells (chansK w.heap.size k) 49 (0, 0))
  ch : ∀ j, j < k → wr.heap[w.heap.size + 1 + j]? = some (.chan room #[] false 0 0 false)

theorem chansK_set (g : Nat) {k : Nat} (hk : k < 3) : (chansK g k).setIfInBounds k (.chan (some (g + 1 + k))) = chansK g (k + 1) := by
  match k, hk with
  | 0, _ => simp [chansK]
  | 1, _ => simp [chansK]
  | 2, _ => simp [chansK]
theorem NewAt.step {w wr : World} {r k : Nat} (h : NewAt w r k wr) (hk : k < 3) : NewAt w r (k + 1) ((wr.alloc (.chan r #[] false 0 0 false)).setCell ⟨w.heap.size, k, none⟩ (.chan (some wr.heap.size))).drew := by
  have hs := h.size
  have hrow1 : (wr.alloc (.chan r #[] false 0 0 false)).heap[w.heap.size]? = some (.cells (chansK w.heap.size k) 49 (0, 0)) := by
    rw [Below.heap_alloc _ _ _ (by omega)]; exact h.row
  have hnew := heap_alloc_new wr (.chan r #[] false 0 0 false)
  have hset := row_set hrow1 k (.chan (some wr.heap.size))
  rw [hs, chansK_set w.heap.size hk] at hset
  refine ⟨((h.b.alloc (by omega) _).setCell (p := ⟨w.heap.size, k, none⟩) (Nat.le_refl _) _).drew, ?_, ?_, fun j hj => ?_⟩
  · simp [World.setCell]; omega
  · rw [hs]; exact hset
  · show ((wr.alloc (.chan r #[] false 0 0 false)).setCell ⟨w.heap.size, k, none⟩ (.chan (some wr.heap.size))).heap[w.heap.size + 1 + j]? = _
    rw [Below.heap_setCell _ _ _ _ (by show _ ≠ w.heap.size; omega)]
    by_cases e : j = k
    · subst e
      rw [← hs]; exact hnew
    · rw [Below.heap_alloc _ _ _ (by omega)]
      exact h.ch j (by omega)
theorem NewAt.start (w : World) (r : Nat) : NewAt w r 0 (w.alloc (.cells #[.chan none, .chan none, .chan none] 49)) :=
  ⟨(Below.refl _ _).alloc (Nat.le_refl _) _, by simp, heap_alloc_new _ _, fun j hj => by omega⟩
theorem NewAt.end_ {w wr : World} {r : Nat} (h : NewAt w r 3 wr) : IsB wr w.heap.size (fun j => w.heap.size + 1 + j) r (fun _ => []) :=
  ⟨h.row, fun k hk => ⟨0, 0, h.ch k hk⟩, fun k j _ _ e => by omega⟩

/-- what New hands back -/
def NewRet (r : Nat) (w : World) (e : Ending) (w' : World) : Prop :=
  ∃ g c, e = .returned (.pointer (some ⟨g, 0, none⟩)) ∧ IsB w' g c r (fun _ => []) ∧ w.heap.size ≤ g ∧ (∀ j, j < 3 → w.heap.size ≤ c j) ∧ Below w.heap.size w w'
set_option maxRecDepth 100000 in
theorem New_yes (r : Nat) (w : World) (h1 : 1 ≤ r) (h2 : r ≤ 4096) :
    Calls Try.prog 7 #[.int .i64 (r : Int)] w (NewRet r w) := by
  have r1 : ¬ (r : Int) < 1 := by omega
  have r2 : ¬ 4096 < (r : Int) := by omega
  go_enter Try.func7, Try.ntmps7
  go_wp2
  go_loopw [4, 13] (fun kv iv wr => ∃ k : Nat, k ≤ 3 ∧ iv = .int .i64 (k : Int) ∧ NewAt w r k wr) (fun _ iv _ => 3 - (intOf iv).toNat)
  case atStart => exact ⟨0, by omega, rfl, NewAt.start w r⟩
  case round =>
    obtain ⟨k, hk, rfl, hn⟩ := hrel
    have Hn := Lib.hid hn
    clear hn
    by_cases hlt : k < 3
    · have k0 : (0 : Int) ≤ (k : Int) := by omega
      have k1 : (k : Int) < 3 := by omega
      have hmc := mk_chan r h2
      obtain ⟨x, hx⟩ : ∃ x, (chansK w.heap.size k)[k]? = some x := ⟨_, Array.getElem?_eq_getElem (by unfold chansK; simpa using hlt)⟩
      obtain ⟨w1, hw1⟩ : ∃ w1, wr.alloc (.chan r #[] false 0 0 false) = w1 := ⟨_, rfl⟩
      have hrow1 : w1.heap[w.heap.size]? = some (.cells (chansK w.heap.size k) 49 (0, 0)) := by
        rw [← hw1, Below.heap_alloc _ _ _ (by have := Hn.out.size; omega)]; exact Hn.out.row
      have hcell : w1.cell? ⟨w.heap.size, k, none⟩ = some x := by rw [row_cell hrow1]; exact hx
      have hfr : w1.frozen? ⟨w.heap.size, k, none⟩ = false := row_frozen hrow1 k
      have Hrow1 := Lib.hid hrow1
      clear hx hrow1
      go_upto_region 7 with fail
      go_region
      rw [← hw1]
      clear hcell hfr Hrow1 hw1
      have hst := Lib.hid (Hn.out.step hlt)
      go_wp2
      go_roundw
      case rel => exact ⟨k + 1, by omega, by go_num, hst.out⟩
      case measure => simp [intOf]; omega
    · have k1 : ¬ (k : Int) < 3 := by omega
      obtain rfl : k = 3 := by omega
      go_wp2
      go_ret
      exact ⟨w.heap.size, fun j => w.heap.size + 1 + j, rfl, Hn.out.end_, Nat.le_refl _, fun j hj => (by show w.heap.size ≤ w.heap.size + 1 + j; omega), Hn.out.b⟩
end Go.Proofs.Ytbialoaphgmigaa
