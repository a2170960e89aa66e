/-
  Contract of (*heap.Heap).lay. Conditions: a heap in memory that has its map; the place is within its tree.
-/
import Derived.Test.YtbfjakchgmdldaaGreatHomCmp
import Derived.StillTailTactics
namespace Go.Proofs.YtbfjakchgmdldaaGreat
open Go.ChangeShapes Go.WideShapes Go.ChangeAt Go.RowKit Go.Maps Go.Sort
set_option linter.unusedVariables false

/-- a name as an int -/
def Fits (e : Ent) : Prop := (-9223372036854775808 ≤ e.1 ∧ e.1 ≤ 9223372036854775807) ∧ (-9223372036854775808 ≤ e.2 ∧ e.2 ≤ 9223372036854775807)
/-- two cells of the tree written -/
theorem IsH.stored {w : World} {B : Nat} {h : Home} {g : Nat} {m : Option Nat} {t : List Ent} {ks : List Int} {f : Int → Int} (H : IsH w B h (some g) m t ks f) (p : Nat) (e : Ent) :
    IsH ((w.setCell ⟨g, p * 2, none⟩ (.int .i64 e.1)).setCell ⟨g, p * 2 + 1, none⟩ (.int .i64 e.2)) B h (some g) m (t.set p e) ks f ∧ Turned (fun k => k = g) w ((w.setCell ⟨g, p * 2, none⟩ (.int .i64 e.1)).setCell ⟨g, p * 2 + 1, none⟩ (.int .i64 e.2)) := by
  have ht : Turned (fun k => k = g) w ((w.setCell ⟨g, p * 2, none⟩ (.int .i64 e.1)).setCell ⟨g, p * 2 + 1, none⟩ (.int .i64 e.2)) := (((Turned.refl (fun k => k = g) w).setCell (b := ⟨g, p * 2, none⟩) (fun _ => rfl) _).setCell (b := ⟨g, p * 2 + 1, none⟩) (fun _ => rfl) _)
  obtain ⟨hq, hm, hqm⟩ := H.apart
  obtain ⟨hb, ⟨A, c, h1, h2, h3⟩, h4⟩ := H
  have hA : A = some ⟨g, 0, none⟩ := by
    rcases h2.2 with ⟨hv, hn⟩ | ⟨g', cap, cur, hv, _⟩
    · injection hv with hv
      subst hv
      cases h3
    · injection hv with hv
      subst hv
      injection h3 with h3
      rw [show g' = g from h3]
  subst hA
  have s2 := ((h2.stored (p * 2) (.int .i64 e.1)).1.stored (p * 2 + 1) (.int .i64 e.2)).1
  rw [entsV_set] at s2
  exact ⟨⟨hb, ⟨some ⟨g, 0, none⟩, c, by rw [List.length_set]; exact ht.heap h1 (fun e => hq g rfl e.symm), by rw [List.length_set]; exact s2, by rfl⟩, h4.turned ht fun k hk e => hqm g k rfl hk e.symm⟩, ht⟩
/-- the map's turn -/
theorem IsH.mapped {w w' : World} {B : Nat} {h : Home} {m : Nat} {q : Option Nat} {t : List Ent} {ks ks' : List Int} {f f' : Int → Int} (H : IsH w B h q (some m) t ks f) (ht : Turned (fun k => k = m) w w') (hm : PlacesAt w' m ks' f') : IsH w' B h q (some m) t ks' f' := by
  obtain ⟨hq, hmm, hqm⟩ := H.apart
  obtain ⟨hb, ⟨A, c, h1, h2, h3⟩, h4⟩ := H
  refine ⟨hb, ⟨A, c, ht.heap h1 (fun e => hmm m rfl e.symm), own_turnedM ht h2 (fun k hk e => hqm k m (by rw [← h3]; exact hk) rfl e), h3⟩, .inr ⟨m, rfl, ?_, hm⟩⟩
  rcases h4 with ⟨e, _⟩ | ⟨b, e, hb, _⟩
  · cases e
  · injection e with e
    subst e
    exact hb
theorem IsH.places {w : World} {B : Nat} {h : Home} {m : Nat} {q : Option Nat} {t : List Ent} {ks : List Int} {f : Int → Int} (H : IsH w B h q (some m) t ks f) : PlacesAt w m ks f := by
  rcases H.map with ⟨e, _⟩ | ⟨b, e, _, hm⟩
  · cases e
  · injection e with e
    subst e
    exact hm

set_option maxRecDepth 100000 in
set_option maxHeartbeats 1000000 in
theorem lay_any (B : Nat) (h : Home) (p m : Nat) (q : Option Nat) (t : List Ent) (ks : List Int) (f : Int → Int) (e : Ent) (w : World) (H : IsH w B h q (some m) t ks f) (hp : p < t.length) (hks : ks.length ≤ 1000000) (he : Fits e) :
    Calls Tryz.prog 62 #[.pointer (some ⟨h.b, h.o, none⟩), .int .i64 (p : Int), .agg #[.int .i64 e.1, .int .i64 e.2]] w fun en w' => en = .returned (.tuple #[]) ∧ IsH w' B h q (some m) (t.set p e) (putK ks e.1) (upd f e.1 (p : Int)) ∧ Turned (Foot h q (some m)) w w' := by
  obtain ⟨r, hr⟩ : ∃ r, t[p]? = some r := ⟨_, List.getElem?_eq_getElem hp⟩
  have hsp := fun k hk => (H.spares (k := k) hk).2.1
  have Hsp := Lib.hid hsp
  clear hsp
  obtain ⟨W1, hW1⟩ : ∃ W1, w.alloc (.cells #[.int .i64 e.1, .int .i64 e.2] 88) = W1 := ⟨_, rfl⟩
  have hb1 : Below w.heap.size w W1 := by rw [← hW1]; exact (Below.refl _ _).alloc (Nat.le_refl _) _
  have H1 := H.below hb1
  obtain ⟨g, c, rfl, hgs, hlc, hcm, hrow, hown, c0, c1⟩ := H1.get hr
  have z0 := hown.frozenAt (p * 2)
  have z1 := hown.frozenAt (p * 2 + 1)
  have x0 : W1.cell? ⟨w.heap.size, 0, none⟩ = some (.int .i64 e.1) := by rw [← hW1]; exact (new_two _ _ _ _).1
  have x1 : W1.cell? ⟨w.heap.size, 1, none⟩ = some (.int .i64 e.2) := by rw [← hW1]; exact (new_two _ _ _ _).2
  have a0 : W1.cell? ⟨h.b, h.o, none⟩ = some (.slice (some ⟨g, 0, none⟩) t.length c) := h.cell0 hrow
  have a1 : W1.cell? ⟨h.b, h.o + 1, none⟩ = some (.map (some m)) := h.cell1 hrow
  have p0 : (0 : Int) ≤ (p : Int) := by omega
  have p1 : (p : Int) < (t.length : Int) := by omega
  have HH1 := Lib.hid H1
  have Hb1 := Lib.hid hb1; have HW1 := Lib.hid hW1; have He := Lib.hid he; have Hks := Lib.hid hks
  clear H H1 hb1 hr hp hrow hown he hks
  go_enter Tryz.func62, Tryz.ntmps62
  go_wp2
  clear hW1
  go_still_tail 7, (by kernel_rfl)
  change wpList _ _ _ _ _ W1.drew
  go_wp2
  obtain ⟨W2, hW2⟩ : ∃ W2, ((W1.setCell ⟨g, p * 2, none⟩ (.int .i64 e.1)).setCell ⟨g, p * 2 + 1, none⟩ (.int .i64 e.2)).drew = W2 := ⟨_, rfl⟩
  rw [hW2]
  have s1 := HH1.out.stored p e
  have H2 : IsH W2 B h (some g) (some m) (t.set p e) ks f := by rw [← hW2]; exact s1.1.below (Below.refl _ _).drew
  have t2 : Turned (fun k => k = g) W1 W2 := by rw [← hW2]; exact s1.2.trans (.of_below (Below.refl _ _).drew) (fun _ e => e) (fun _ _ e => e)
  obtain ⟨A2, c2, hrow2, _, _⟩ := H2.row
  have hgw : g < w.heap.size := Hsp.out g (.inr (.inl rfl))
  have a2 : W2.cell? ⟨h.b, h.o + 1, none⟩ = some (.map (some m)) := h.cell1 hrow2
  have x2 : W2.cell? ⟨w.heap.size, 0, none⟩ = some (.int .i64 e.1) := t2.cell x0 (by show ¬ w.heap.size = g; omega)
  have HH2 := Lib.hid H2; have Ht2 := Lib.hid t2
  clear hW2 s1 H2 t2 a0 a1 c0 c1 z0 z1 x0 x1 hrow2
  go_still_tail 7, (by kernel_rfl)
  change wpList _ _ _ _ _ W2.drew
  have hm2 : PlacesAt W2.drew m ks f := (HH2.out.below (Below.refl _ _).drew).places
  refine wpList_putI rfl (.tmp 16) (.tmp 18) (.tmp 19) rfl m ks f e.1 (p : Int) rfl rfl rfl hm2 He.out.1.1 He.out.1.2 Hks.out ?_
  intro W3 hm3 ht3
  go_wp2
  go_end0
  refine ⟨rfl, (HH2.out.below (Below.refl _ _).drew).mapped ht3 hm3, ?_⟩
  have hm0 : m < w.heap.size := Hsp.out m (.inr (.inr rfl))
  refine (((Turned.of_below (p := Foot h (some g) (some m)) Hb1.out).trans (Ht2.out.trans (.of_below (p := fun k => k = g) (Below.refl _ _).drew) (fun _ e => e) (fun _ _ e => e)) (fun _ e => e) (fun k _ e => .inr (.inl (by rw [e])))).trans ht3 (fun _ e => e) (fun k _ e => .inr (.inr (by rw [e]))))
end Go.Proofs.YtbfjakchgmdldaaGreat
