/-
  Contract of (*rho.Tracker).Done. Conditions: what it names.
-/
import Derived.Test.YtkfhocmnkamhlaaRhoLrn
import Derived.Deep.DeepCutAuto
namespace Go.Proofs.Ytkfhocmnkamhlaa
open Go.ChangeShapes Go.WideShapes Go.ChangeAt Go.RowKit Go.Maps
set_option linter.unusedVariables false

theorem oneC_small (p : Int) : SmallC (oneC p) ∧ ((oneC p).1 = 0 → (oneC p).2 = 0) := by
  rcases oneC_cases p with e | e | e <;> rw [e] <;> unfold SmallC <;> simp
/-- a tracker whose total was written -/
theorem TrkAt.total {w : World} {B g n : Nat} {m : Option Nat} {t : Cn} {f : Int → Cn} (h : TrkAt w B g n m t f) (u : Cn) (hg : GoodT (n + 1) u f) :
    TrkAt ((w.setCell ⟨g, 0, none⟩ (.int .i64 u.1)).setCell ⟨g, 1, none⟩ (.int .i64 u.2)) B g (n + 1) m u f ∧ Turned (fun k => k = g) w ((w.setCell ⟨g, 0, none⟩ (.int .i64 u.1)).setCell ⟨g, 1, none⟩ (.int .i64 u.2)) := by
  have ht : Turned (fun k => k = g) w ((w.setCell ⟨g, 0, none⟩ (.int .i64 u.1)).setCell ⟨g, 1, none⟩ (.int .i64 u.2)) := ((Turned.refl (fun k => k = g) w).setCell (b := ⟨g, 0, none⟩) (fun _ => rfl) _).setCell (b := ⟨g, 1, none⟩) (fun _ => rfl) _
  obtain ⟨ks, h1, h2⟩ := h.map
  exact ⟨⟨h.base, row_set (row_set h.row 0 _) 1 _, ⟨ks, h1.turned ht fun k hk e => h.apart hk e, by omega⟩, hg⟩, ht⟩
/-- what Done hands back -/
def DoneRet (B g n : Nat) (m : Option Nat) (t : Cn) (f : Int → Cn) (s p : Int) (w : World) (en : Ending) (w' : World) : Prop :=
  en = .returned (.tuple #[]) ∧ ∃ m', TrkAt w' B g (n + 2) m' (addC t (oneC p)) (updC f s (addC (f s) (oneC p))) ∧ Turned (FootT g m) w w' ∧ ∀ k, FootT g m' k → FootT g m k ∨ w.heap.size ≤ k
set_option maxRecDepth 100000 in
set_option maxHeartbeats 4000000 in
theorem Done_any (B g n : Nat) (m : Option Nat) (t : Cn) (f : Int → Cn) (s p : Int) (w : World) (H : TrkAt w B g n m t f) (hB : B ≤ w.heap.size) (hs : -9223372036854775808 ≤ s ∧ s ≤ 9223372036854775807) (hn : n ≤ 90000) :
    Calls Try.prog 10 #[.pointer (some ⟨g, 0, none⟩), .int .i64 s, .int .i64 p] w (DoneRet B g n m t f s p w) := by
  have hbd := H.good.bd s
  have Hg1 := Lib.hid (H.good.more p)
  have Hg2 := Lib.hid (H.good.done s p)
  obtain ⟨h1, h2⟩ := oneC_small p
  have Kc := Lib.hid (counted_any p w)
  unfold DoneRet
  obtain ⟨c, hc⟩ : ∃ c, oneC p = c := ⟨_, rfl⟩
  rw [hc] at h1 h2 Kc Hg1 Hg2 ⊢
  obtain ⟨c1, c2⟩ := c
  have Kp := Lib.hid (fun w => plus_any t (c1, c2) w (by unfold SmallC; omega) h1)
  have H' := Lib.hid H; have HB := Lib.hid hB; have Hs := Lib.hid hs; have Hn := Lib.hid hn; have Hsm := Lib.hid h1; have Hz := Lib.hid h2
  have Hw := Lib.hid (H.spares (.inl rfl)).2
  clear hc hbd H hB hs hn h1 h2
  go_enter Try.func10, Try.ntmps10
  go_wp2_with (go_at_call 15; refine Kc.out.mono ?_; rintro e w1 ⟨rfl, hb1⟩; obtain ⟨W1, hW1⟩ : ∃ W1, w1.alloc (.cells #[.int .i64 c1, .int .i64 c2] 25) = W1 := ⟨_, rfl⟩; have Hb1 := Lib.hid hb1; have HW1 := Lib.hid hW1; clear hb1)
  have hb1 : Below w.heap.size w W1 := by rw [← hW1]; exact Hb1.out.alloc Hb1.out.size _
  have h1 := H'.out.below hb1
  have hx : W1.heap[w1.heap.size]? = some (.cells #[.int .i64 c1, .int .i64 c2] 25 (0, 0)) := by rw [← hW1]; exact heap_alloc_new _ _
  have a0 : W1.cell? ⟨g, 0, none⟩ = some (.int .i64 t.1) := row_cell h1.row 0
  have a1 : W1.cell? ⟨g, 1, none⟩ = some (.int .i64 t.2) := row_cell h1.row 1
  have x0 : W1.cell? ⟨w1.heap.size, 0, none⟩ = some (.int .i64 c1) := row_cell hx 0
  have x1 : W1.cell? ⟨w1.heap.size, 1, none⟩ = some (.int .i64 c2) := row_cell hx 1
  have H1 := Lib.hid h1; have Hx := Lib.hid hx; have HB1 := Lib.hid hb1
  have Hgw := Lib.hid (show g ≠ w1.heap.size from fun e => by have := Hw.out; have := Hb1.out.size; omega)
  clear h1 hx hb1 hW1
  go_cut [15] (fun _ wx => TrkAt wx B g (n + 1) m (t.1 + c1, t.2 + c2) f ∧ wx.heap[w1.heap.size]? = some (.cells #[.int .i64 c1, .int .i64 c2] 25 (0, 0)) ∧ Turned (fun k => k = g) W1 wx)
  case first =>
    go_region_with (go_at_call 16; refine (Kp.out W1.drew).mono ?_; rintro e w2 ⟨rfl, hb2⟩; have h2 : TrkAt w2 B g n m t f := (TrkAt.below (w := W1.drew) (H1.out.below (Below.refl _ _).drew) hb2); have f0 := row_frozen h2.row 0; have f1 := row_frozen h2.row 1; have g0 := row_cell h2.row 0; have g1 := row_cell h2.row 1; have H2 := Lib.hid h2; have Hb2 := Lib.hid hb2; clear h2 hb2)
    all_goals
      go_wp2_with fail
      go_meet
      clear a0 a1 x0 x1 f0 f1 g0 g1
      have h3 := H2.out.total (t.1 + c1, t.2 + c2) Hg1.out
      refine ⟨h3.1, ?_, (Turned.of_below (p := fun k => k = g) ((Below.refl _ _).drew.trans Hb2.out)).trans h3.2 (fun _ e => e) (fun _ _ e => e)⟩
      exact h3.2.heap ((((Below.refl _ W1).drew.trans Hb2.out).block _ (Array.getElem?_eq_some_iff.1 Hx.out).1).trans Hx.out) (fun e => Hgw.out e.symm)
  case rest =>
    obtain ⟨h3, hx3, ht3⟩ := hcut
    have H3 := Lib.hid h3; have Ht3 := Lib.hid ht3
    clear a0 a1 x0 x1 h3 ht3
    have x0 := row_cell hx3 0
    have x1 := row_cell hx3 1
    have HL := Lib.hid (learn_any B g (n + 1) m (t.1 + c1, t.2 + c2) f s (c1, c2) wc H3.out (Nat.le_trans HB.out (Nat.le_trans HB1.out.size Ht3.out.size)) Hs.out (by have := Hn.out; omega) (Hg2.out.mono (by omega)) Hsm.out Hz.out)
    clear hx3
    go_wp2_with (go_at_call 14; refine HL.out.mono ?_; rintro e w2 ⟨rfl, m2, h2, t2, g2⟩; have H2 := Lib.hid h2; have T2 := Lib.hid t2; have G2 := Lib.hid g2; clear h2 t2 g2)
    go_end0
    refine ⟨rfl, m2, H2.out, ((Turned.of_below (p := FootT g m) HB1.out).trans Ht3.out (fun _ e => e) (fun _ _ e => .inl e)).trans T2.out (fun _ e => e) (fun _ _ e => e), fun k hk => ?_⟩
    rcases G2.out k hk with e | e
    · exact .inl e
    · exact .inr (Nat.le_trans HB1.out.size (Nat.le_trans Ht3.out.size e))
end Go.Proofs.Ytkfhocmnkamhlaa
