/-
  Contracts of (*rho.Tracker).Begin and Done. Conditions: what each names.
-/
import Derived.Test.YtkfhocmnkamhlaaRhoLrn
import Derived.Deep.DeepCutAuto
namespace Go.Proofs.Ytkfhocmnkamhlaa
open Go.ChangeShapes Go.WideShapes Go.ChangeAt Go.RowKit Go.Maps
set_option linter.unusedVariables false

theorem fin_new {w w2 : World} {cs : Array Value} {T : TypeId} (h : Below w.drew.heap.size w.drew w2) (q : Unit := ()) :
    ∃ a, Value.pointer (some ⟨w2.heap.size, 0, none⟩) = .pointer (some ⟨a, 0, none⟩) ∧ w.heap.size ≤ a ∧ (w2.alloc (.cells cs T)).heap[a]? = some (.cells cs T (0, 0)) ∧ Below w.heap.size w (w2.alloc (.cells cs T)) := by
  have hb : Below w.heap.size w w2 := (Below.refl _ _).drew.trans h
  exact ⟨_, rfl, hb.size, heap_alloc_new _ _, hb.alloc hb.size _⟩
/-- what Begin hands back -/
def BeginRet (B g n : Nat) (m : Option Nat) (t : Cn) (f : Int → Cn) (s : Int) (w : World) (en : Ending) (w' : World) : Prop :=
  en = .returned (.tuple #[.int .i64 (t.1 - (f s).1), .int .i64 (t.2 - (f s).2)]) ∧ ∃ m', TrkAt w' B g (n + 1) m' t (updC f s t) ∧ Turned (FootT g m) w w' ∧ ∀ k, FootT g m' k → FootT g m k ∨ w.heap.size ≤ k
set_option maxRecDepth 100000 in
set_option maxHeartbeats 4000000 in
theorem Begin_any (B g n : Nat) (m : Option Nat) (t : Cn) (f : Int → Cn) (s : Int) (w : World) (H : TrkAt w B g n m t f) (hB : B ≤ w.heap.size) (hs : -9223372036854775808 ≤ s ∧ s ≤ 9223372036854775807) (hn : n ≤ 100000) :
    Calls Try.prog 8 #[.pointer (some ⟨g, 0, none⟩), .int .i64 s] w (BeginRet B g n m t f s w) := by
  have a0 : w.cell? ⟨g, 0, none⟩ = some (.int .i64 t.1) := row_cell H.row 0
  have a1 : w.cell? ⟨g, 1, none⟩ = some (.int .i64 t.2) := row_cell H.row 1
  have a2 : w.cell? ⟨g, 2, none⟩ = some (.map m) := row_cell H.row 2
  obtain ⟨ks, hk, hkl⟩ := H.map
  have hl : (Instr.lookup 26 (.map m) (.int .i64 s) false).run Try.prog w.drew = .ok (.agg #[.int .i64 (f s).1, .int .i64 (f s).2]) w.drew := (hk.below (Below.refl _ _).drew).get hs.1 hs.2
  obtain ⟨Wa, hWa⟩ : ∃ Wa, w.drew.alloc (.cells #[.int .i64 0, .int .i64 0] 25) = Wa := ⟨_, rfl⟩
  have hba : Below w.heap.size w Wa := by rw [← hWa]; exact (Below.refl _ _).drew.alloc (Nat.le_refl _) _
  have Ha := H.below hba
  have b0 : Wa.cell? ⟨g, 0, none⟩ = some (.int .i64 t.1) := row_cell Ha.row 0
  have b1 : Wa.cell? ⟨g, 1, none⟩ = some (.int .i64 t.2) := row_cell Ha.row 1
  have b2 : Wa.cell? ⟨g, 2, none⟩ = some (.map m) := row_cell Ha.row 2
  have hla : (Instr.lookup 26 (.map m) (.int .i64 s) false).run Try.prog Wa = .ok (.agg #[.int .i64 (f s).1, .int .i64 (f s).2]) Wa := (hk.below hba).get hs.1 hs.2
  have hx : Wa.heap[w.heap.size]? = some (.cells #[.int .i64 0, .int .i64 0] 25 (0, 0)) := by rw [← hWa]; exact heap_alloc_new _ _
  have Hx := Lib.hid hx
  have hbd := H.good.bd s
  have ht : SmallC t := by unfold SmallC; omega
  have hf : SmallC (f s) := by unfold SmallC; omega
  have Kl := Lib.hid (fun w => less_any t (f s) w ht hf)
  have Hba := Lib.hid hba
  have H' := Lib.hid H; have HB := Lib.hid hB; have Hs := Lib.hid hs; have Hn := Lib.hid hn; have Hbd := Lib.hid hbd
  clear hk hkl hba Ha hbd ht hf H hB hs hn hx
  obtain ⟨dv, hdv⟩ : ∃ dv, t.1 - (f s).1 = dv := ⟨_, rfl⟩
  obtain ⟨rv, hrv⟩ : ∃ rv, t.2 - (f s).2 = rv := ⟨_, rfl⟩
  rw [hdv, hrv] at Kl
  have Hdv := Lib.hid hdv; have Hrv := Lib.hid hrv
  clear hdv hrv
  go_enter Try.func8, Try.ntmps8
  go_wp2
  go_cut [6] (fun v wx => ∃ a, v = .pointer (some ⟨a, 0, none⟩) ∧ w.heap.size ≤ a ∧ wx.heap[a]? = some (.cells #[.int .i64 dv, .int .i64 rv] 25 (0, 0)) ∧ Below w.heap.size w wx)
  case first =>
    go_region_with (first
      | (go_at_call 13; with_reducible refine (Kl.out Wa).mono ?_; rintro e w2 ⟨rfl, hb2⟩; have hx2 := (hb2.block _ (Array.getElem?_eq_some_iff.1 Hx.out).1).trans Hx.out; have f0 := row_frozen hx2 0; have f1 := row_frozen hx2 1; have g0 := row_cell hx2 0; have g1 := row_cell hx2 1; have Hb2 := Lib.hid hb2; have Hx2 := Lib.hid hx2; clear hb2 hx2)
      | (go_at_call 13; with_reducible refine (Kl.out w.drew).mono ?_; rintro e w2 ⟨rfl, hb2⟩; have Hb2 := Lib.hid hb2; clear hb2))
    all_goals
      go_wp2_with fail
      go_meet
      clear a0 a1 a2 b0 b1 b2 hl hla Kl
      first
      | exact fin_new Hb2.out
      | exact ⟨_, rfl, Nat.le_refl _, row_set (row_set Hx2.out 0 _) 1 _, ((Hba.out.trans (Hb2.out.mono Hba.out.size)).setCell (p := ⟨w.heap.size, 0, none⟩) (Nat.le_refl _) _).setCell (p := ⟨w.heap.size, 1, none⟩) (Nat.le_refl _) _⟩
  case rest =>
    obtain ⟨a, rfl, haw, hra, hbx⟩ := hcut
    clear a0 a1 a2 b0 b1 b2 hl hla Kl
    clear hWa
    have Hrel := Lib.hid hra; have Haw := Lib.hid haw; have Hbx := Lib.hid hbx
    have x0 := row_cell hra 0
    have x1 := row_cell hra 1
    clear hra haw hbx
    have HL := Lib.hid (learn_any B g n m t f s (dv, rv) wc (H'.out.below Hbx.out) (Nat.le_trans HB.out Hbx.out.size) Hs.out Hn.out (by
        have e : (dv, rv) = subC t (f s) := by rw [← Hdv.out, ← Hrv.out]; rfl
        rw [e, begun_eq]
        exact (H'.out.good.begun s).mono (by omega)) (by have := Hbd.out; have := Hn.out; have := Hdv.out; have := Hrv.out; unfold SmallC; simp only; omega) (by have h1 := (H'.out.good.all s); have := Hdv.out; have := Hrv.out; simp only; omega))
    go_wp2_with (go_at_call 14; refine HL.out.mono ?_; rintro e w2 ⟨rfl, m2, h2, t2, g2⟩; have H2 := Lib.hid h2; have T2 := Lib.hid t2; have G2 := Lib.hid g2; have hr2 := t2.heap Hrel.out (fun e => by have := H'.out.spares e; have := Haw.out; omega); have z0 := row_cell hr2 0; have z1 := row_cell hr2 1; clear h2 t2 g2 hr2)
    go_quiet (fail)
    go_wp2
    go_ret2
    unfold BeginRet
    rw [Hdv.out, Hrv.out]
    refine ⟨rfl, m2, ?_, ?_, fun k hk => ?_⟩
    · have h3 := H2.out
      have e : (dv, rv) = subC t (f s) := by rw [← Hdv.out, ← Hrv.out]; rfl
      rw [e, begun_eq] at h3
      exact h3.below (below_drewN (Below.refl _ _) _)
    · exact ((Turned.of_below (p := FootT g m) Hbx.out).trans T2.out (fun _ e => e) (fun _ _ e => e)).trans (.of_below (p := fun _ => False) (below_drewN (Below.refl _ _) _)) (fun _ e => e) (fun _ _ e => e.elim)
    · rcases G2.out k hk with e | e
      · exact .inl e
      · exact .inr (Nat.le_trans Hbx.out.size e)
end Go.Proofs.Ytkfhocmnkamhlaa
