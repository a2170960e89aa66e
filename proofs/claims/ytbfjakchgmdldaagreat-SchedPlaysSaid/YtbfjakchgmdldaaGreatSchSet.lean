/-
  Contract of (*sched.Sched).Set. Conditions: a scheduler in memory; numbers that an int holds.
-/
import Derived.Test.YtbfjakchgmdldaaGreatSchSt
namespace Go.Proofs.YtbfjakchgmdldaaGreat
open Go.ChangeShapes Go.WideShapes Go.ChangeAt Go.RowKit Go.Maps
set_option linter.unusedVariables false
attribute [local go_sem ↓] ldPol_eq stPol_eq

/-- what a set leaves of a flow -/
def setFl (f : Fl) (v : Int) (p : Pol) : Fl := { f with ver := v, p := p }
def newFl : Fl := ⟨0, ⟨0, 0, 0, 0⟩, ⟨0, 0, 0⟩, []⟩
/-- what Set hands back where it goes -/
def SetOk (B s : Nat) (ks : List Int) (F : Int → Fl) (Q : Nat → Prop) (w : World) (en : Ending) (w' : World) : Prop := en = .returned (.int .i64 0) ∧ SchAtQ w' B s ks F Q ∧ KeptS B w w' ∧ KeepI Q w w'
theorem pol_box (w : World) (p : Pol) (hp : InP p) : ∃ W, w.alloc (.cells #[.int .i64 p.re, .int .i64 p.we, .int .i64 p.li, .int .i64 p.bu] 28) = W ∧ Below w.heap.size w W ∧ PolAt W w.heap.size 0 p :=
  ⟨_, rfl, below_box _ _, pol_of_row (heap_alloc_new w _) hp⟩
theorem PolAt.turned {p : Nat → Prop} {w w' : World} {g q : Nat} {x : Pol} (h : PolAt w g q x) (ht : Turned p w w') (hn : ¬ p g) : PolAt w' g q x := by
  obtain ⟨h1, h2, h3, h4, h5⟩ := h
  exact ⟨ht.cell h1 hn, ht.cell h2 hn, ht.cell h3 hn, ht.cell h4 hn, h5⟩

set_option maxRecDepth 100000 in
set_option maxHeartbeats 4000000 in
theorem Set_has (B s : Nat) (ks : List Int) (F : Int → Fl) (k v : Int) (p : Pol) (w : World) (Q : Nat → Prop) (H : SchAtQ w B s ks F Q) (hk : k ∈ ks) (hv : In64 v) (hv0 : 0 ≤ v) (hp : InP p) (hr : rightP p = true) (hver : (F k).ver ≤ v) (hl : ks.length ≤ 10000) (hB : B ≤ w.heap.size) :
    Calls Tryz.prog 7 #[.pointer (some ⟨s, 0, none⟩), .int .i64 k, .int .i64 v, .agg #[.int .i64 p.re, .int .i64 p.we, .int .i64 p.li, .int .i64 p.bu]] w (SetOk B s ks (updF F k (setFl (F k) v p)) Q w) := by
  obtain ⟨mf, q1, m1, q2, m2, bs, qs, xr, xw, h, hL, hQ⟩ := H
  have HQ := Lib.hid hQ
  clear hQ
  obtain ⟨W1, hW1, hb1, hp1⟩ := pol_box w p hp
  have hbd := h.bd k hk
  have KR := Lib.hid (Right_any p W1)
  rw [hr] at KR
  have hld := ldPol_run hp1
  obtain ⟨g, hg⟩ : ∃ g, bs k = g := ⟨_, rfl⟩
  obtain ⟨f, hf⟩ : ∃ f, F k = f := ⟨_, rfl⟩
  have NX := Lib.hid (fun (W : World) (hb : Below W1.heap.size W1 W) => And.intro ((h.below hb1).below hb) (hp1.below hb))
  have Hb1 := Lib.hid hb1; have Hg := Lib.hid hg; have Hf := Lib.hid hf; have Hbd := Lib.hid hbd; have HL := Lib.hid hL; have Hk := Lib.hid hk; have Hv := Lib.hid hv; have Hp := Lib.hid hp; have Hr := Lib.hid hr; have Hver := Lib.hid hver; have Hl := Lib.hid hl; have HB := Lib.hid hB; have H := Lib.hid h
  have k0 : ¬ k < 0 := by omega
  have v0 : ¬ v < 0 := by omega
  clear hb1 hg hf hbd hL hk hv hp hr hver hl hB h hp1 hv0
  go_enter Tryz.func7, Tryz.ntmps7
  go_upto_region 3 with (go_at_call 20; refine KR.out.mono ?_; rintro e w2 ⟨rfl, hb2⟩; have N2 := Lib.hid (NX.out _ hb2); have Hb2 := Lib.hid hb2; clear hb2 hld)
  clear hW1 k0 v0
  have hst := N2.out.1.st k Hk.out
  obtain ⟨A1, c1, A2, c2, hrow⟩ := N2.out.1.row
  have a0 : w2.cell? ⟨s, 0, none⟩ = some (.map (some mf)) := row_cell hrow 0
  rw [Hg.out, Hf.out] at hst
  have hs0 := IsSt.c0 hst.2.1
  have hlv : ¬ v < f.ver := by have := Hver.out; rw [Hf.out] at this; omega
  have Hst := Lib.hid hst
  have Hrow := Lib.hid hrow
  clear hst hrow
  go_upto_region 8 with (refine wpList_lookP rfl (.tmp 26) (.tmp 27) rfl mf ks bs k rfl rfl N2.out.1.flows (by have := Hbd.out; omega) (by have := Hbd.out; omega) ?_; rw [decide_eq_true Hk.out, ptrV_some Hk.out, Hg.out])
  clear a0 hlv hs0
  have hS0 : IsSt w2 g f (qs k) := Hst.out.2.1
  have hS1 : IsSt (w2.setCell ⟨g, 0, none⟩ (.int .i64 v)).drew g { f with ver := v } (qs k) := hS0.s0 v
  have hne : ¬ w.heap.size = g := fun e => by
    have h1 := (Array.getElem?_eq_some_iff.1 (H.out.st k Hk.out).2.1).1
    rw [Hg.out] at h1
    omega
  have hP3 : PolAt (w2.setCell ⟨g, 0, none⟩ (.int .i64 v)).drew w.heap.size 0 p := PolAt.turned (w' := w2.setCell ⟨g, 0, none⟩ (.int .i64 v)) N2.out.2 (set_wo (g := g) 0 (.int .i64 v)) hne
  have d0 := hS0.c0
  have z0 := hS0.fz 0
  have hld2 := ldPol_run (show PolAt w2.drew w.heap.size 0 p from N2.out.2)
  have hld3 := ldPol_run hP3
  have hst3 := stPol_run hS1 p
  have HS2 := Lib.hid (hS1.sp p)
  clear hS0 hS1 hP3
  go_region
  obtain ⟨w4, hw4⟩ : ∃ w4, (w2.setCell ⟨g, 0, none⟩ (.int .i64 v)).drew.setCells g 1 (polCells p) = w4 := ⟨_, rfl⟩
  rw [hw4] at HS2 ⊢
  have t4 : Turned (fun j => j = g) w2 w4 := by
    rw [← hw4]
    exact turned_cells (p := fun j => j = g) (fun _ => rfl) _ _ _ (set_wo (g := g) 0 _).drew
  have hsz : w2.heap.size ≤ w4.heap.size := t4.size
  have h4 := N2.out.1.flow (p := fun j => j = g) (f := setFl f v p) (v := qs k) Hk.out t4 (fun j e _ => .inl (by rw [Hg.out]; exact e)) (by rw [Hg.out]; exact HS2.out) (Hst.out.2.2.turned t4 fun j hj e => by
      obtain ⟨_, cs, e2⟩ := Hst.out.2.2.block hj
      exact absurd e (cells_ne e2 Hst.out.2.1 (by decide))) (fun j hj => .inl hj) (by
      have hok := N2.out.1.ok k Hk.out
      rw [Hf.out] at hok
      exact ⟨Hv.out, Hp.out, hok.clk, hok.items, hok.len, Hr.out⟩)
  obtain ⟨A1', c1', A2', c2', hrow4⟩ := h4.1.row
  have a0 : w4.cell? ⟨s, 0, none⟩ = some (.map (some mf)) := row_cell hrow4 0
  have HI4 := Lib.hid (KeepI.of_turned (Q := Q) t4 fun j cs e hj => absurd hj (cells_ne e Hst.out.2.1 (by decide)))
  have H4 := Lib.hid h4; have T4 := Lib.hid t4
  clear h4 t4 hw4 hrow4 hld2 hld3 hst3 d0 z0 hne
  go_wp2_with (first
    | (refine wpList_putP rfl (.tmp 52) (.tmp 53) (.tmp 54) rfl mf ks bs k g rfl rfl rfl H4.out.1.flows (by have := Hbd.out; omega) (by have := Hbd.out; omega) (by have := Hl.out; omega) ?_; intro w5 hm5 ht5; have H5 := Lib.hid (H4.out.1.again Hk.out Hg.out ht5 hm5); have HI5 := Lib.hid (KeepI.of_turned (Q := Q) ht5 fun j cs e hj => absurd hj (cells_map e H4.out.1.map0.choose_spec.choose_spec)); clear hm5 ht5 a0)
    | (go_at_call 21; refine (show Calls _ _ #[.pointer (some ⟨s, 0, none⟩), .int .i64 k, .pointer (some ⟨g, 0, none⟩)] w5 _ from (by have hst := stand_any B s mf q1 m1 q2 m2 ks bs (updV qs k (qs k)) (updF F k (setFl f v p)) xr xw k w5 H5.out.1 Hk.out (by have := (H.out.lens HL.out).1; have := Hl.out; omega) (by have := (H.out.lens HL.out).2; have := Hl.out; omega) (by have h1 := HB.out; have h2 := Hb1.out.size; have h3 := Hb2.out.size; have h4 := H5.out.2.size; omega); rw [Hg.out] at hst; exact hst)).mono ?_; rintro e w6 ⟨rfl, h6⟩; have H6 := Lib.hid h6; clear h6))
  go_ret
  unfold SetOk
  obtain ⟨q1', m1', q2', m2', h6, k6⟩ := H6.out
  rw [updF_same] at h6
  refine ⟨rfl, ⟨mf, q1', m1', q2', m2', bs, _, _, _, by rw [Hf.out]; exact h6, by rw [Hf.out]; exact HL.out.stand k _ Hk.out fun j _ => Iff.rfl, fun j hj x hx => ?_⟩, ?_, ?_⟩
  · unfold updV at hx
    split at hx
    · exact HQ.out k Hk.out x hx
    · exact HQ.out j hj x hx
  · exact ((((KeptS.of_below Hb1.out).trans (.of_below Hb2.out)).trans H4.out.2).trans H5.out.2).trans k6.s
  · exact ((((KeepI.of_below Hb1.out).trans (.of_below Hb2.out)).trans HI4.out).trans HI5.out).trans k6.items

theorem newFl_ok {v : Int} {p : Pol} (hv : In64 v) (hp : InP p) (hr : rightP p = true) : FlOk (setFl newFl v p) :=
  ⟨hv, hp, (show InC ⟨0, 0, 0⟩ from by unfold InC In64; decide), fun i e => (by cases e), Nat.zero_le _, hr⟩
theorem new_st (w : World) : ∃ W, w.alloc (.cells #[.int .i64 0, .int .i64 0, .int .i64 0, .int .i64 0, .int .i64 0, .int .i64 0, .int .i64 0, .int .i64 0, .slice none 0 0] 69) = W ∧ Below w.heap.size w W ∧ IsSt W w.heap.size newFl (.slice none 0 0) :=
  ⟨_, rfl, below_box _ _, heap_alloc_new w _⟩
set_option maxRecDepth 100000 in
set_option maxHeartbeats 4000000 in
theorem Set_new (B s : Nat) (ks : List Int) (F : Int → Fl) (k v : Int) (p : Pol) (w : World) (Q : Nat → Prop) (H : SchAtQ w B s ks F Q) (hk : ¬ k ∈ ks) (hbd : 0 ≤ k ∧ k ≤ 9223372036854775807) (hv : In64 v) (hv0 : 0 ≤ v) (hp : InP p) (hr : rightP p = true) (hl : ks.length ≤ 10000) (hB : B ≤ w.heap.size) :
    Calls Tryz.prog 7 #[.pointer (some ⟨s, 0, none⟩), .int .i64 k, .int .i64 v, .agg #[.int .i64 p.re, .int .i64 p.we, .int .i64 p.li, .int .i64 p.bu]] w (SetOk B s (putK ks k) (updF F k (setFl newFl v p)) Q w) := by
  obtain ⟨mf, q1, m1, q2, m2, bs, qs, xr, xw, h, hL, hQ⟩ := H
  have HQ := Lib.hid hQ
  clear hQ
  obtain ⟨W1, hW1, hb1, hp1⟩ := pol_box w p hp
  have KR := Lib.hid (Right_any p W1)
  rw [hr] at KR
  have hld := ldPol_run hp1
  have NX := Lib.hid (fun (W : World) (hb : Below W1.heap.size W1 W) => And.intro ((h.below hb1).below hb) (hp1.below hb))
  have Hb1 := Lib.hid hb1; have Hbd := Lib.hid hbd; have HL := Lib.hid hL; have Hk := Lib.hid hk; have Hv := Lib.hid hv; have Hp := Lib.hid hp; have Hr := Lib.hid hr; have Hl := Lib.hid hl; have HB := Lib.hid hB; have H := Lib.hid h
  have k0 : ¬ k < 0 := by omega
  have v0 : ¬ v < 0 := by omega
  clear hb1 hbd hL hk hv hp hr hl hB h hp1 hv0
  go_enter Tryz.func7, Tryz.ntmps7
  go_upto_region 3 with (go_at_call 20; refine KR.out.mono ?_; rintro e w2 ⟨rfl, hb2⟩; have N2 := Lib.hid (NX.out _ hb2); have Hb2 := Lib.hid hb2; clear hb2 hld)
  clear hW1 k0
  obtain ⟨A1, c1, A2, c2, hrow⟩ := N2.out.1.row
  have a0 : w2.cell? ⟨s, 0, none⟩ = some (.map (some mf)) := row_cell hrow 0
  obtain ⟨w3, hw3, hb3, hs3⟩ := new_st w2
  obtain ⟨g, hg⟩ : ∃ g, w2.heap.size = g := ⟨_, rfl⟩
  rw [hg] at hs3
  have hs0 := hs3.c0
  change w3.cell? _ = some (.int .i64 0) at hs0
  have Hb3 := Lib.hid hb3; have Hs3 := Lib.hid hs3; have Hg := Lib.hid hg
  clear hb3 hs3 hrow
  go_upto_region 8 with (refine wpList_lookP rfl (.tmp 26) (.tmp 27) rfl mf ks bs k rfl rfl N2.out.1.flows (by have := Hbd.out; omega) (by have := Hbd.out; omega) ?_; rw [decide_eq_false Hk.out, ptrV_none Hk.out])
  clear a0 hw3 hg v0 hs0
  have hS1 : IsSt (w3.setCell ⟨g, 0, none⟩ (.int .i64 v)).drew g { newFl with ver := v } (.slice none 0 0) := Hs3.out.s0 v
  have hne : ¬ w.heap.size = g := by
    have h1 := Hb1.out.size; have h2 := Hb2.out.size
    have h3 := block_lt_of_cell N2.out.2.1
    have := Hg.out
    intro e
    rw [e, this] at h3
    exact Nat.lt_irrefl _ h3
  have hP3 : PolAt (w3.setCell ⟨g, 0, none⟩ (.int .i64 v)).drew w.heap.size 0 p := PolAt.turned (w' := w3.setCell ⟨g, 0, none⟩ (.int .i64 v)) (N2.out.2.below Hb3.out) (set_wo (g := g) 0 (.int .i64 v)) hne
  have d0 := Hs3.out.c0
  change w3.cell? _ = some (.int .i64 0) at d0
  have z0 := Hs3.out.fz 0
  have hld2 := ldPol_run (show PolAt w3.drew w.heap.size 0 p from N2.out.2.below Hb3.out.drew)
  have hld3 := ldPol_run hP3
  have hst3 := stPol_run hS1 p
  have HS2 := Lib.hid (hS1.sp p)
  clear hS1 hP3
  go_region
  obtain ⟨w4, hw4⟩ : ∃ w4, (w3.setCell ⟨g, 0, none⟩ (.int .i64 v)).drew.setCells g 1 (polCells p) = w4 := ⟨_, rfl⟩
  rw [hw4] at HS2 ⊢
  have t4 : Turned (fun j => j = g) w3 w4 := by
    rw [← hw4]
    exact turned_cells (p := fun j => j = g) (fun _ => rfl) _ _ _ (set_wo (g := g) 0 _).drew
  have b4 : Below w2.heap.size w2 w4 := Hb3.out.trans (t4.below (fun j e => by rw [e, Hg.out]; exact Nat.le_refl _) Hb3.out.size)
  have hfl := N2.out.1.flows.below b4
  obtain ⟨A1', c1', A2', c2', hrow4⟩ := (N2.out.1.below b4).row
  have a0 : w4.cell? ⟨s, 0, none⟩ = some (.map (some mf)) := row_cell hrow4 0
  have Hfl := Lib.hid hfl; have B4 := Lib.hid b4
  clear hfl b4 t4 hw4 hrow4 hld2 hld3 hst3 d0 z0 hne
  go_wp2_with (first
    | (refine wpList_putP rfl (.tmp 52) (.tmp 53) (.tmp 54) rfl mf ks bs k g rfl rfl rfl Hfl.out (by have := Hbd.out; omega) (by have := Hbd.out; omega) (by have := Hl.out; omega) ?_; intro w5 hm5 ht5; have HI5 := Lib.hid ((KeepI.of_below (Q := Q) B4.out).trans (KeepI.of_turned (Q := Q) ht5 fun j cs e hj => absurd hj (cells_map e (N2.out.1.below B4.out).map0.choose_spec.choose_spec))); have H5 := Lib.hid (N2.out.1.add (f := setFl newFl v p) Hk.out Hbd.out ((Turned.of_below (p := fun j => j = mf) B4.out).trans ht5 (fun _ e => e) (fun _ _ e => e)) hm5 (by rw [Hg.out]; exact Nat.le_refl _) (Nat.le_trans HB.out (Nat.le_trans Hb1.out.size Hb2.out.size)) (ht5.heap HS2.out (fun e => cells_map HS2.out (N2.out.1.below B4.out).map0.choose_spec.choose_spec e)) rfl (newFl_ok Hv.out Hp.out Hr.out)); clear hm5 ht5 a0)
    | (go_at_call 21; refine (show Calls _ _ #[.pointer (some ⟨s, 0, none⟩), .int .i64 k, .pointer (some ⟨g, 0, none⟩)] w5 _ from (by have hst := stand_any B s mf q1 m1 q2 m2 (putK ks k) (updB bs k g) (updV qs k (.slice none 0 0)) (updF F k (setFl newFl v p)) xr xw k w5 H5.out.1 (mem_putK.2 (.inl rfl)) (by have := (H.out.lens HL.out).1; have := Hl.out; omega) (by have := (H.out.lens HL.out).2; have := Hl.out; omega) (by have h1 := HB.out; have h2 := Hb1.out.size; have h3 := Hb2.out.size; have h4 := H5.out.2.size; omega); rw [updB_same] at hst; exact hst)).mono ?_; rintro e w6 ⟨rfl, h6⟩; have H6 := Lib.hid h6; clear h6))
  go_ret
  unfold SetOk
  obtain ⟨q1', m1', q2', m2', h6, k6⟩ := H6.out
  rw [updF_same] at h6
  refine ⟨rfl, ⟨mf, q1', m1', q2', m2', _, _, _, _, h6, HL.out.stand k _ (mem_putK.2 (.inl rfl)) fun j hj => by rw [mem_putK]; exact ⟨fun e => e.elim (fun e => absurd e hj) id, .inr⟩, fun j hj x hx => ?_⟩, ?_, ?_⟩
  · unfold updV at hx
    split at hx
    · cases hx
    · rename_i hjk
      exact HQ.out j ((mem_putK.1 hj).resolve_left hjk) x hx
  · exact (((KeptS.of_below Hb1.out).trans (.of_below Hb2.out)).trans H5.out.2).trans k6.s
  · exact (((KeepI.of_below Hb1.out).trans (.of_below Hb2.out)).trans HI5.out).trans k6.items

set_option maxRecDepth 100000 in
set_option maxHeartbeats 4000000 in
theorem Set_bad (s : Nat) (k v : Int) (p : Pol) (w : World) (hp : InP p) (hbad : k < 0 ∨ v < 0 ∨ rightP p = false) :
    Calls Tryz.prog 7 #[.pointer (some ⟨s, 0, none⟩), .int .i64 k, .int .i64 v, .agg #[.int .i64 p.re, .int .i64 p.we, .int .i64 p.li, .int .i64 p.bu]] w fun e w' => e = .returned (.int .i64 1) ∧ Below w.heap.size w w' := by
  obtain ⟨W1, hW1, hb1, hp1⟩ := pol_box w p hp
  have hld := ldPol_run hp1
  have Hb1 := Lib.hid hb1
  clear hb1 hp1
  by_cases hk : k < 0
  · clear hbad
    go_enter Tryz.func7, Tryz.ntmps7
    go_wp2
    go_ret
    exact ⟨rfl, Hb1.out⟩
  · by_cases hv : v < 0
    · clear hbad
      go_enter Tryz.func7, Tryz.ntmps7
      go_wp2
      go_ret
      exact ⟨rfl, Hb1.out⟩
    · have KR := Lib.hid (Right_any p W1)
      rw [(hbad.resolve_left hk).resolve_left hv] at KR
      clear hbad
      go_enter Tryz.func7, Tryz.ntmps7
      go_wp2_with (go_at_call 20; refine KR.out.mono ?_; rintro e w2 ⟨rfl, hb2⟩; have Hb2 := Lib.hid hb2; clear hb2 hld)
      go_ret
      exact ⟨rfl, Hb1.out.trans (Hb2.out.mono Hb1.out.size)⟩
set_option maxRecDepth 100000 in
set_option maxHeartbeats 4000000 in
theorem Set_old (B s : Nat) (ks : List Int) (F : Int → Fl) (k v : Int) (p : Pol) (w : World) (H : SchAt w B s ks F) (hk : k ∈ ks) (hv0 : 0 ≤ v) (hp : InP p) (hr : rightP p = true) (hver : v < (F k).ver) :
    Calls Tryz.prog 7 #[.pointer (some ⟨s, 0, none⟩), .int .i64 k, .int .i64 v, .agg #[.int .i64 p.re, .int .i64 p.we, .int .i64 p.li, .int .i64 p.bu]] w fun e w' => e = .returned (.int .i64 13) ∧ Below w.heap.size w w' := by
  obtain ⟨mf, q1, m1, q2, m2, bs, qs, xr, xw, h, hL⟩ := H
  obtain ⟨W1, hW1, hb1, hp1⟩ := pol_box w p hp
  have hbd := h.bd k hk
  have KR := Lib.hid (Right_any p W1)
  rw [hr] at KR
  have hld := ldPol_run hp1
  obtain ⟨g, hg⟩ : ∃ g, bs k = g := ⟨_, rfl⟩
  obtain ⟨f, hf⟩ : ∃ f, F k = f := ⟨_, rfl⟩
  have NX := Lib.hid (fun (W : World) (hb : Below W1.heap.size W1 W) => And.intro ((h.below hb1).below hb) (hp1.below hb))
  rw [hf] at hver
  have Hb1 := Lib.hid hb1; have Hg := Lib.hid hg; have Hf := Lib.hid hf; have Hbd := Lib.hid hbd; have Hk := Lib.hid hk; have Hver := Lib.hid hver
  have k0 : ¬ k < 0 := by omega
  have v0 : ¬ v < 0 := by omega
  clear hb1 hg hf hbd hL hk hp hr hver h hp1 hv0
  go_enter Tryz.func7, Tryz.ntmps7
  go_upto_region 3 with (go_at_call 20; refine KR.out.mono ?_; rintro e w2 ⟨rfl, hb2⟩; have N2 := Lib.hid (NX.out _ hb2); have Hb2 := Lib.hid hb2; clear hb2 hld)
  clear hW1 k0 v0
  have hst := N2.out.1.st k Hk.out
  obtain ⟨A1, c1, A2, c2, hrow⟩ := N2.out.1.row
  have a0 : w2.cell? ⟨s, 0, none⟩ = some (.map (some mf)) := row_cell hrow 0
  rw [Hg.out, Hf.out] at hst
  have hs0 := IsSt.c0 hst.2.1
  have hlv := Hver.out
  clear hst hrow
  go_wp2_with (refine wpList_lookP rfl (.tmp 26) (.tmp 27) rfl mf ks bs k rfl rfl N2.out.1.flows (by have := Hbd.out; omega) (by have := Hbd.out; omega) ?_; rw [decide_eq_true Hk.out, ptrV_some Hk.out, Hg.out])
  go_ret
  exact ⟨rfl, Hb1.out.trans (Hb2.out.mono Hb1.out.size)⟩
/-- what Set hands back, and leaves -/
def setE (ks : List Int) (F : Int → Fl) (k v : Int) (p : Pol) : Int := if k < 0 ∨ v < 0 ∨ rightP p = false then 1 else if k ∈ ks ∧ v < (F k).ver then 13 else 0
def setK (ks : List Int) (F : Int → Fl) (k v : Int) (p : Pol) : List Int := if setE ks F k v p = 0 then putK ks k else ks
def setG (ks : List Int) (F : Int → Fl) (k v : Int) (p : Pol) : Int → Fl := if setE ks F k v p = 0 then updF F k (setFl (if k ∈ ks then F k else newFl) v p) else F
def SetRetS (B s : Nat) (ks : List Int) (F : Int → Fl) (k v : Int) (p : Pol) (w : World) (en : Ending) (w' : World) : Prop :=
  en = .returned (.int .i64 (setE ks F k v p)) ∧ SchAt w' B s (setK ks F k v p) (setG ks F k v p) ∧ KeptS B w w'
def SetRetQ (B s : Nat) (ks : List Int) (F : Int → Fl) (k v : Int) (p : Pol) (Q : Nat → Prop) (w : World) (en : Ending) (w' : World) : Prop :=
  en = .returned (.int .i64 (setE ks F k v p)) ∧ SchAtQ w' B s (setK ks F k v p) (setG ks F k v p) Q ∧ KeptS B w w' ∧ KeepI Q w w'
theorem SSetQ_any (B s : Nat) (ks : List Int) (F : Int → Fl) (k v : Int) (p : Pol) (w : World) (Q : Nat → Prop) (H : SchAtQ w B s ks F Q) (hk : In64 k) (hv : In64 v) (hp : InP p) (hl : ks.length ≤ 10000) (hB : B ≤ w.heap.size) :
    Calls Tryz.prog 7 #[.pointer (some ⟨s, 0, none⟩), .int .i64 k, .int .i64 v, .agg #[.int .i64 p.re, .int .i64 p.we, .int .i64 p.li, .int .i64 p.bu]] w (SetRetQ B s ks F k v p Q w) := by
  unfold SetRetQ
  by_cases hbad : k < 0 ∨ v < 0 ∨ rightP p = false
  · have e : setE ks F k v p = 1 := if_pos hbad
    have e1 : setK ks F k v p = ks := if_neg (by rw [e]; decide)
    have e2 : setG ks F k v p = F := if_neg (by rw [e]; decide)
    rw [e, e1, e2]
    refine (Set_bad s k v p w hp hbad).mono ?_
    rintro en w' ⟨rfl, hb⟩
    exact ⟨rfl, H.below hb, .of_below hb, .of_below hb⟩
  · have hr : rightP p = true := by
      cases h : rightP p with
      | true => rfl
      | false => exact absurd (.inr (.inr h)) hbad
    by_cases hin : k ∈ ks
    · by_cases hver : v < (F k).ver
      · have e : setE ks F k v p = 13 := by unfold setE; rw [if_neg hbad, if_pos ⟨hin, hver⟩]
        have e1 : setK ks F k v p = ks := if_neg (by rw [e]; decide)
        have e2 : setG ks F k v p = F := if_neg (by rw [e]; decide)
        rw [e, e1, e2]
        refine (Set_old B s ks F k v p w H.at_ hin (by omega) hp hr hver).mono ?_
        rintro en w' ⟨rfl, hb⟩
        exact ⟨rfl, H.below hb, .of_below hb, .of_below hb⟩
      · have e : setE ks F k v p = 0 := by unfold setE; rw [if_neg hbad, if_neg fun h => hver h.2]
        have e1 : setK ks F k v p = ks := by unfold setK; rw [if_pos e]; exact putK_mem H.at_.rise hin
        have e2 : setG ks F k v p = updF F k (setFl (F k) v p) := by unfold setG; rw [if_pos e, if_pos hin]
        rw [e, e1, e2]
        exact Set_has B s ks F k v p w Q H hin hv (by omega) hp hr (by omega) hl hB
    · have e : setE ks F k v p = 0 := by unfold setE; rw [if_neg hbad, if_neg fun h => hin h.1]
      have e1 : setK ks F k v p = putK ks k := if_pos e
      have e2 : setG ks F k v p = updF F k (setFl newFl v p) := by unfold setG; rw [if_pos e, if_neg hin]
      rw [e, e1, e2]
      exact Set_new B s ks F k v p w Q H hin (by have := hk; unfold In64 at this; omega) hv (by omega) hp hr hl hB
theorem SSet_any (B s : Nat) (ks : List Int) (F : Int → Fl) (k v : Int) (p : Pol) (w : World) (H : SchAt w B s ks F) (hk : In64 k) (hv : In64 v) (hp : InP p) (hl : ks.length ≤ 10000) (hB : B ≤ w.heap.size) :
    Calls Tryz.prog 7 #[.pointer (some ⟨s, 0, none⟩), .int .i64 k, .int .i64 v, .agg #[.int .i64 p.re, .int .i64 p.we, .int .i64 p.li, .int .i64 p.bu]] w (SetRetS B s ks F k v p w) :=
  (SSetQ_any B s ks F k v p w _ H.old hk hv hp hl hB).mono fun e w' h => ⟨h.1, h.2.1.at_, h.2.2.1⟩
end Go.Proofs.YtbfjakchgmdldaaGreat
