/-
  SchedVersions' words: the version of flow 4, and what Set and Get do with it.
-/
import Derived.Test.YtbfjakchgmdldaaSchAwk
namespace Go.Proofs.Ytbfjakchgmdldaa
open Go.ChangeShapes Go.WideShapes Go.ChangeAt Go.RowKit
set_option linter.unusedVariables false

theorem row_keep {w w' : World} {g : Nat} {o : Obj} (h : w.heap[g]? = some o) (hb : Below w.heap.size w w') : w'.heap[g]? = some o := (hb.block g (Array.getElem?_eq_some_iff.1 h).1).trans h
/-- last is the version of the one flow; -1: there is none -/
def VerOk (ks : List Int) (F : Int → Fl) (last : Int) : Prop := (ks = [] ∧ last = -1) ∨ (ks = [4] ∧ 0 ≤ last ∧ last = (F 4).ver)
theorem ver_set {ks : List Int} {F : Int → Fl} {last : Int} (hv : VerOk ks F last) (x : Int) {u : Pol} (hr : rightP u = true) :
    (setE ks F 4 x u = 1 ∧ x < 0 ∧ setK ks F 4 x u = ks ∧ setG ks F 4 x u = F) ∨ (setE ks F 4 x u = 13 ∧ 0 ≤ x ∧ x < last ∧ ks = [4] ∧ setK ks F 4 x u = ks ∧ setG ks F 4 x u = F) ∨
      (setE ks F 4 x u = 0 ∧ 0 ≤ x ∧ last ≤ x ∧ setK ks F 4 x u = [4] ∧ (setG ks F 4 x u 4).ver = x ∧ (setG ks F 4 x u 4).p = u) := by
  by_cases hx : x < 0
  · have e : setE ks F 4 x u = 1 := if_pos (.inr (.inl hx))
    exact .inl ⟨e, hx, if_neg (by rw [e]; decide), if_neg (by rw [e]; decide)⟩
  · have hn : ¬ ((4 : Int) < 0 ∨ x < 0 ∨ rightP u = false) := by rw [hr]; simp; omega
    have hc : setE ks F 4 x u = 0 → last ≤ x → setK ks F 4 x u = [4] ∧ (setG ks F 4 x u 4).ver = x ∧ (setG ks F 4 x u 4).p = u := fun e _ => by
      refine ⟨?_, ?_, ?_⟩
      · unfold setK
        rw [if_pos e]
        rcases hv with ⟨rfl, _⟩ | ⟨rfl, _⟩ <;> rfl
      · unfold setG; rw [if_pos e, updF_same]; rfl
      · unfold setG; rw [if_pos e, updF_same]; rfl
    rcases hv with ⟨rfl, rfl⟩ | ⟨rfl, h0, hl⟩
    · have e : setE [] F 4 x u = 0 := by unfold setE; rw [if_neg hn, if_neg (by simp)]
      exact .inr (.inr ⟨e, by omega, by omega, hc e (by omega)⟩)
    · by_cases hlt : x < last
      · have e : setE [4] F 4 x u = 13 := by unfold setE; rw [if_neg hn, if_pos ⟨by decide, by omega⟩]
        exact .inr (.inl ⟨e, by omega, hlt, rfl, if_neg (by rw [e]; decide), if_neg (by rw [e]; decide)⟩)
      · have e : setE [4] F 4 x u = 0 := by unfold setE; rw [if_neg hn, if_neg (by omega)]
        exact .inr (.inr ⟨e, by omega, by omega, hc e (by omega)⟩)
/-- what Get tells of flow 4: its version, its policy -/
def Tells (ks : List Int) (F : Int → Fl) (v : Int) (p : Pol) (ok : Bool) : Prop := (ks = [] ∧ ok = false) ∨ (ks = [4] ∧ v = (F 4).ver ∧ p = (F 4).p ∧ ok = true)
theorem tells_none {F : Int → Fl} {v : Int} {p : Pol} {ok : Bool} (h : Tells [] F v p ok) : ok = false := by
  rcases h with ⟨_, h⟩ | ⟨h, _⟩
  · exact h
  · cases h
theorem tells_is {F : Int → Fl} {v : Int} {p : Pol} {ok : Bool} (h : Tells [4] F v p ok) : v = (F 4).ver ∧ p = (F 4).p ∧ ok = true := by
  rcases h with ⟨h, _⟩ | ⟨_, h1, h2, h3⟩
  · cases h
  · exact ⟨h1, h2, h3⟩
theorem ver_get {W : World} {Z s : Nat} {ks : List Int} {F : Int → Fl} (H : SchAt W Z s ks F) (hks : ks = [] ∨ ks = [4]) :
    Calls Try.prog 18 #[.pointer (some ⟨s, 0, none⟩), .int .i64 4] W (fun e w' => ∃ (v : Int) (p : Pol) (c : Clk) (ok : Bool), e = .returned (.tuple #[.int .i64 v, .agg #[.int .i64 p.re, .int .i64 p.we, .int .i64 p.li, .int .i64 p.bu], .agg #[.int .i64 c.r, .int .i64 c.p, .int .i64 c.l], .bool ok]) ∧ Tells ks F v p ok ∧ InP p ∧ Below W.heap.size W w') := by
  refine (Get_any Z s ks F 4 W H (by unfold In64; decide)).mono ?_
  rintro e w' ⟨v, p, c, ok, rfl, h, hb⟩
  refine ⟨v, p, c, ok, rfl, ?_, ?_, hb⟩
  · rcases h with ⟨h, h1, h2, _, h3⟩ | ⟨h, _, _, _, h3⟩
    · rcases hks with rfl | rfl
      · cases h
      · exact .inr ⟨rfl, h1, h2, h3⟩
    · rcases hks with rfl | rfl
      · exact .inl ⟨rfl, h3⟩
      · exact absurd (by decide) h
  · rcases h with ⟨h, _, rfl, _⟩ | ⟨_, _, rfl, _⟩
    · exact (H.ok 4 h).pol
    · unfold InP In64; decide
/-- a box, filled -/
theorem pol_store {w : World} {g : Nat} {q : Pol} (h : w.heap[g]? = some (.cells (polRow q) 29 (0, 0))) (p : Pol) : ∃ W,
    (stPol (.pointer (some ⟨g, 0, none⟩)) (.agg #[.int .i64 p.re, .int .i64 p.we, .int .i64 p.li, .int .i64 p.bu])).run Try.prog w = .ok () W ∧ Turned (fun j => j = g) w W ∧ W.heap[g]? = some (.cells (polRow p) 29 (0, 0)) :=
  ⟨_, (stPol_row h p).1, turned_cells (p := fun j => j = g) (fun _ => rfl) _ _ _ (Turned.refl _ _), (stPol_row h p).2⟩
theorem use_store (w : World) (p q : Pol) : ∃ W W',
    (stPol (.pointer (some ⟨w.heap.size, 0, none⟩)) (.agg #[.int .i64 p.re, .int .i64 p.we, .int .i64 p.li, .int .i64 p.bu])).run Try.prog (w.alloc (.cells #[.int .i64 0, .int .i64 0, .int .i64 0, .int .i64 0] 29)) = .ok () W ∧ Below w.heap.size w W ∧ W.heap[w.heap.size]? = some (.cells (polRow p) 29 (0, 0)) ∧
    (stPol (.pointer (some ⟨w.heap.size, 0, none⟩)) (.agg #[.int .i64 q.re, .int .i64 q.we, .int .i64 q.li, .int .i64 q.bu])).run Try.prog W = .ok () W' ∧ Below w.heap.size w W' ∧ W'.heap[w.heap.size]? = some (.cells (polRow q) 29 (0, 0)) := by
  have b0 := below_box w (.cells #[.int .i64 0, .int .i64 0, .int .i64 0, .int .i64 0] 29)
  obtain ⟨W, h1, t1, r1⟩ := pol_store (q := ⟨0, 0, 0, 0⟩) (heap_alloc_new w (.cells #[.int .i64 0, .int .i64 0, .int .i64 0, .int .i64 0] 29)) p
  obtain ⟨W', h2, t2, r2⟩ := pol_store r1 q
  have b1 := b0.trans (t1.below (fun j e => by rw [e]; exact Nat.le_refl _) b0.size)
  exact ⟨W, W', h1, b1, r1, h2, b1.trans (t2.below (fun j e => by rw [e]; exact Nat.le_refl _) b1.size), r2⟩
/-- two boxes, filled -/
theorem get_store (w : World) (p : Pol) (c : Clk) : ∃ W2 W3,
    (stPol (.pointer (some ⟨w.heap.size, 0, none⟩)) (.agg #[.int .i64 p.re, .int .i64 p.we, .int .i64 p.li, .int .i64 p.bu])).run Try.prog ((w.alloc (.cells #[.int .i64 0, .int .i64 0, .int .i64 0, .int .i64 0] 29)).alloc (.cells #[.int .i64 0, .int .i64 0, .int .i64 0] 47)) = .ok () W2 ∧
    (stClk (.pointer (some ⟨w.heap.size + 1, 0, none⟩)) (.agg #[.int .i64 c.r, .int .i64 c.p, .int .i64 c.l])).run Try.prog W2 = .ok () W3 ∧ Below w.heap.size w W3 ∧ W3.heap[w.heap.size]? = some (.cells (polRow p) 29 (0, 0)) := by
  obtain ⟨W, hW, hb, h0, h1⟩ := get_boxes w
  rw [hW]
  have t2 : Turned (fun j => j = w.heap.size) W (W.setCells w.heap.size 0 (polCells p)) := turned_cells (p := fun j => j = w.heap.size) (fun _ => rfl) _ _ _ (Turned.refl _ _)
  have h1' := t2.heap h1 (by omega)
  have t3 : Turned (fun j => j = w.heap.size + 1) (W.setCells w.heap.size 0 (polCells p)) ((W.setCells w.heap.size 0 (polCells p)).setCells (w.heap.size + 1) 0 (clkCells c)) := turned_cells (p := fun j => j = w.heap.size + 1) (fun _ => rfl) _ _ _ (Turned.refl _ _)
  have hs := (stPol_row h0 p).2
  exact ⟨_, _, (stPol_row h0 p).1, (stClk_row h1' c).1, hb.trans ((t2.below (fun j e => by rw [e]; exact Nat.le_refl _) hb.size).trans (t3.below (fun j e => by rw [e]; omega) (Nat.le_trans hb.size t2.size))), t3.heap hs (by omega)⟩
end Go.Proofs.Ytbfjakchgmdldaa
