/-
  Contract of (*sched.Sched).take. Conditions: a scheduler in memory; a flow that is up; numbers that an int holds.
-/
import Derived.Test.YtbfjakchgmdldaaGreatSchPush
import Derived.Deep.DeepCutAuto
namespace Go.Proofs.YtbfjakchgmdldaaGreat
open Go.ChangeShapes Go.WideShapes Go.ChangeAt Go.RowKit Go.Maps
set_option linter.unusedVariables false
attribute [local go_sem ↓] ldItm_eq ldPol_eq ldClk_eq stClk_eq

/-- the flow behind a pick -/
def takenFl (f : Fl) (now ph : Int) (i : Itm) (r : List Itm) : Fl := { f with c := chargeF f.p f.c now ph i.de i.rh, q := r }
theorem chargeF_in {q : Pol} {c : Clk} {now ph de rh : Int} (hc : InC c) (hn : isTag now) : InC (chargeF q c now ph de rh) := by
  unfold chargeF
  split
  · unfold chargedF
    refine ⟨tag_in64 (growF_bd _ _ _), tag_in64 (growF_bd _ _ _), ?_⟩
    show In64 (if q.li = 0 then c.l else _)
    split
    · exact hc.2.2
    · exact tag_in64 (growF_bd _ _ _)
  · exact hc
theorem taken_ok {f : Fl} {now ph : Int} {i : Itm} {r : List Itm} (h : FlOk f) (hq : f.q = i :: r) (hn : isTag now) : FlOk (takenFl f now ph i r) :=
  ⟨h.ver, h.pol, chargeF_in h.clk hn, fun j hj => h.items j (by rw [hq]; exact List.mem_cons_of_mem _ hj), by have := h.len; rw [hq, List.length_cons] at this; show r.length ≤ 1024; omega, h.right⟩
/-- the queue without its first -/
def cutQ (g o n cap : Nat) : Value := if cap = 0 then .slice (some ⟨g, o, none⟩) n cap else .slice (some ⟨g, o + 3, none⟩) n cap
theorem cutQ_block (g o n cap : Nat) : (cutQ g o n cap).ownBlock = some g := by unfold cutQ; split <;> rfl
/-- a box of an item that lies in no queue -/
theorem SchRaw.box {w w' : World} {B s mf : Nat} {q1 m1 q2 m2 : Option Nat} {ks : List Int} {bs : Int → Nat} {qs : Int → Value} {F : Int → Fl} {xr xw : List Ent} {g : Nat} {cs : Array Value} (H : SchRaw w B s mf q1 m1 q2 m2 ks bs qs F xr xw) (hx : w.heap[g]? = some (.cells cs 30 (0, 0))) (hq : ∀ k ∈ ks, (qs k).ownBlock ≠ some g) (ht : Turned (fun j => j = g) w w') (hB : B ≤ g) :
    SchRaw w' B s mf q1 m1 q2 m2 ks bs qs F xr xw ∧ KeptS B w w' := by
  obtain ⟨A1, c1, A2, c2, hrow⟩ := H.row
  obtain ⟨es0, k0, hm0⟩ := H.map0
  have hh := H.heaps ht (fun e => cells_ne hrow hx (by decide) e) (fun j cs' hj e => cells_ne hj hx (by decide) e) (fun j hj e => by
    rcases hj with h | h
    · obtain ⟨_, es, c, e2⟩ := H.map1 h; exact cells_map hx e2 e.symm
    · obtain ⟨_, es, c, e2⟩ := H.map2 h; exact cells_map hx e2 e.symm)
  exact ⟨⟨H.base, H.mfb, hh.1, hh.2, H.flows.turned ht (fun e => cells_map hx hm0 e.symm), fun j hj => (H.st j hj).turned ht (fun e => cells_ne (H.st j hj).2.1 hx (by decide) e) (fun g' hg e => hq j hj (by rw [hg, e])), H.inj, H.qinj, H.mm, H.qq, H.rise, H.bd, H.ok⟩, KeptS.of_turned ht fun j hj e => by rw [e]; exact ⟨hB, .inl ⟨_, _, _, hx, .inr (.inr (.inl rfl))⟩⟩⟩
theorem SchAtQ.box {w w' : World} {B s : Nat} {ks : List Int} {F : Int → Fl} {Q : Nat → Prop} {g : Nat} {cs : Array Value} (h : SchAtQ w B s ks F Q) (hx : w.heap[g]? = some (.cells cs 30 (0, 0))) (hg : ¬ Q g) (ht : Turned (fun j => j = g) w w') (hB : B ≤ g) : SchAtQ w' B s ks F Q ∧ KeptS B w w' := by
  obtain ⟨mf, q1, m1, q2, m2, bs, qs, xr, xw, h, hL, hQ⟩ := h
  obtain ⟨h1, h2⟩ := h.box hx (fun k hk e => hg (hQ k hk g e)) ht hB
  exact ⟨⟨mf, q1, m1, q2, m2, bs, qs, xr, xw, h1, hL, hQ⟩, h2⟩
/-- what take hands back -/
def TakeRet (B s : Nat) (ks : List Int) (F : Int → Fl) (Q : Nat → Prop) (i : Itm) (w : World) (en : Ending) (w' : World) : Prop :=
  en = .returned (.agg #[.int .i64 i.na, .int .i64 i.de, .int .i64 i.rh]) ∧ SchAtQ w' B s ks F Q ∧ KeptS B w w' ∧ ∀ (j : Nat) (cs : Array Value), w.heap[j]? = some (.cells cs 30 (0, 0)) → w'.heap[j]? = some (.cells cs 30 (0, 0))
set_option maxRecDepth 100000 in
set_option maxHeartbeats 8000000 in
theorem take_any (B s : Nat) (ks : List Int) (F : Int → Fl) (k ph now : Int) (i : Itm) (r : List Itm) (w : World) (Q : Nat → Prop) (H : SchAtQ w B s ks F Q) (hk : k ∈ ks) (hq : (F k).q = i :: r) (hn : isTag now) (hl : ks.length ≤ 10000) (hB : B ≤ w.heap.size) :
    Calls Tryz.prog 32 #[.pointer (some ⟨s, 0, none⟩), .int .i64 k, .int .i64 ph, .int .i64 now] w (TakeRet B s ks (updF F k (takenFl (F k) now ph i r)) Q i w) := by
  obtain ⟨mf, q1, m1, q2, m2, bs, qs, xr, xw, h, hL, hQ⟩ := H
  have HQ := Lib.hid hQ
  clear hQ
  obtain ⟨w1, hw1, hb1, hx1⟩ := itm_box w ⟨0, 0, 0⟩
  have hbd := h.bd k hk
  have h1 := h.below hb1
  obtain ⟨A1, c1, A2, c2, hrow⟩ := h1.row
  have a0 : w1.cell? ⟨s, 0, none⟩ = some (.map (some mf)) := row_cell hrow 0
  obtain ⟨g, hg⟩ : ∃ g, bs k = g := ⟨_, rfl⟩
  obtain ⟨f, hf⟩ : ∃ f, F k = f := ⟨_, rfl⟩
  have hst := h1.st k hk
  have hok := h1.ok k hk
  rw [hg, hf] at hst
  rw [hf] at hq hok ⊢
  have hqa := hst.2.2
  rw [hq] at hqa
  obtain ⟨gq, o, cap, hqv, hcap, hcm, hgq, c0, c1', c2', hcut⟩ := hqa.some_
  have a8 : w1.cell? ⟨g, 8, none⟩ = some (.slice (some ⟨gq, o, none⟩) (r.length + 1) (cap + 1)) := by rw [← hqv]; exact IsSt.c8 hst.2.1
  have z8 := IsSt.fz hst.2.1 8
  have hld := ldItm_run c0 c1' c2'
  obtain ⟨w2, hw2, hb2, hx2⟩ := itm_box w1 i
  have a8' : w2.cell? ⟨g, 8, none⟩ = some (.slice (some ⟨gq, o, none⟩) (r.length + 1) (cap + 1)) := (hb2.cell (block_lt_of_cell a8)).trans a8
  have z8' := IsSt.fz (IsSt.below (w := w1) (f := f) hst.2.1 hb2) 8
  have Hb2 := Lib.hid hb2; have Hx2 := Lib.hid hx2
  clear hb2 hx2
  obtain ⟨n, hnr⟩ : ∃ n, r.length = n := ⟨_, rfl⟩
  rw [hnr] at a8 a8' hcap
  have Hb1 := Lib.hid hb1; have Hg := Lib.hid hg; have Hf := Lib.hid hf; have Hbd := Lib.hid hbd; have HL := Lib.hid hL; have Hk := Lib.hid hk; have Hl := Lib.hid hl; have HB := Lib.hid hB; have H := Lib.hid h; have H1 := Lib.hid h1; have Hst := Lib.hid hst; have Hqv := Lib.hid hqv; have Hq := Lib.hid hq; have Hok := Lib.hid hok; have Hcut := Lib.hid hcut; have Hnr := Lib.hid hnr; have Hx1 := Lib.hid hx1; have Hn := Lib.hid hn
  clear hb1 hg hf hbd hL hk hl hB h h1 hst hqv hq hok hcut hnr hx1 hrow hqa hcm hgq c0 c1' c2' hn
  go_enter Tryz.func32, Tryz.ntmps32
  go_upto_region 3 with (refine wpList_getP rfl (.tmp 14) (.tmp 15) rfl mf ks bs k rfl rfl H1.out.flows (by have := Hbd.out; omega) (by have := Hbd.out; omega) Hk.out ?_; rw [Hg.out])
  obtain ⟨v, hv⟩ : ∃ v, cutQ gq o n cap = v := ⟨_, rfl⟩
  have Hv := Lib.hid hv
  clear a0 a8 z8 hld hw1 hw2
  go_cut [28] (fun v' wx => v' = v ∧ wx = w2.setCell ⟨g, 8, none⟩ v)
  case first =>
    by_cases hz : cap = 0
    · subst hz
      obtain rfl : n = 0 := by omega
      have hv2 : v = .slice (some ⟨gq, o, none⟩) 0 0 := hv.symm
      subst hv2
      clear hv
      go_wp2
      go_meet
      exact ⟨rfl, rfl⟩
    · have hv2 : v = .slice (some ⟨gq, o + 3, none⟩) n cap := by rw [← hv]; unfold cutQ; rw [if_neg hz]
      subst hv2
      clear hv
      go_wp2
      go_meet
      exact ⟨rfl, rfl⟩
  case rest =>
    obtain ⟨rfl, hwc⟩ := hcut
    obtain ⟨wd, rfl⟩ : ∃ x, x = wc := ⟨_, rfl⟩
    obtain ⟨v28, rfl⟩ : ∃ x, x = u28 := ⟨_, rfl⟩
    clear hv a8' z8'
    have t2 : Turned (fun j => j = g) w2 wd := by rw [hwc]; exact set_wo 8 v28
    have H2 := Lib.hid (H1.out.below Hb2.out)
    have hng : ¬ gq = g := fun e => by
      obtain ⟨_, cs, e2⟩ := H2.out.qblock Hk.out (g := gq) (by rw [Hqv.out]; rfl)
      have e3 := (H2.out.st k Hk.out).2.1
      rw [Hg.out] at e3
      exact absurd e (cells_ne e2 e3 (by decide))
    have hcn : (w.heap.size = g → False) ∧ (w1.heap.size = g → False) := by
      have h1 := (Array.getElem?_eq_some_iff.1 (H.out.st k Hk.out).2.1).1
      have h2 := Hb1.out.size
      rw [Hg.out] at h1
      exact ⟨fun e => by omega, fun e => by omega⟩
    have hst2 : IsSt wd g { f with q := r } v28 := by
      rw [hwc]
      exact IsSt.s8 (IsSt.below (w := w1) (f := f) (v := qs k) Hst.out.2.1 Hb2.out) v28 r
    have hq2 : QAt wd B v28 r := by
      have h0 : QAt w2 B v28 r := by
        rw [← Hv.out]
        unfold cutQ
        have := Hcut.out
        rw [Hnr.out] at this
        exact this.below Hb2.out
      refine h0.turned t2 fun j hj e => ?_
      rw [← Hv.out, cutQ_block] at hj
      injection hj with hj
      exact hng (hj.trans e)
    obtain ⟨f2, hf2⟩ : ∃ f2, ({ f with q := r } : Fl) = f2 := ⟨_, rfl⟩
    have hok2 : FlOk f2 := by
      have h := Hok.out
      rw [← hf2]
      exact ⟨h.ver, h.pol, h.clk, fun j hj => h.items j (by rw [Hq.out]; exact List.mem_cons_of_mem _ hj), by have := h.len; rw [Hq.out, List.length_cons] at this; show r.length ≤ 1024; omega, h.right⟩
    rw [hf2] at hst2
    have h3 := H2.out.flow (p := fun j => j = g) (f := f2) (v := v28) Hk.out t2 (fun j e _ => .inl (by rw [Hg.out]; exact e)) (by rw [Hg.out]; exact hst2) (by rw [← hf2]; exact hq2) (fun j hj => .inl (by
      rw [← Hv.out, cutQ_block] at hj
      injection hj with hj
      rw [Hqv.out, ← hj]
      rfl)) hok2
    obtain ⟨c3, hc3⟩ : ∃ c, chargeF f.p f.c now ph i.de i.rh = c := ⟨_, rfl⟩
    have KC := Lib.hid (fun W => Charge_any f.p f.c now ph i.de i.rh W Hok.out.pol Hok.out.clk (tag_in64 Hn.out) (Hok.out.items i (by rw [Hq.out]; exact List.mem_cons_self)).2.1 (Hok.out.items i (by rw [Hq.out]; exact List.mem_cons_self)).2.2)
    rw [hc3] at KC
    have Hc3 := Lib.hid hc3
    have Hf2 := Lib.hid hf2
    have hx2 := t2.heap Hx2.out (fun e => hcn.2 e)
    have hx1 := t2.heap ((Hb2.out.block _ (Array.getElem?_eq_some_iff.1 Hx1.out).1).trans Hx1.out) (fun e => hcn.1 e)
    have HX1 := Lib.hid hx1; have HX2 := Lib.hid hx2
    have b1 : wd.drew.cell? ⟨w1.heap.size, 1, none⟩ = some (.int .i64 i.de) := row_cell hx2 1
    have b2 : wd.drew.cell? ⟨w1.heap.size, 2, none⟩ = some (.int .i64 i.rh) := row_cell hx2 2
    have hlp := ldPol_run (w := wd.drew) (IsSt.polAt (f := f) (v := v28) (by rw [← hf2] at hst2; exact hst2) Hok.out.pol)
    have hlc := ldClk_at (w := wd.drew) (f := f) (v := v28) (by rw [← hf2] at hst2; exact hst2)
    have H3 := Lib.hid h3; have Hst2 := Lib.hid hst2; have Hok2 := Lib.hid hok2; have Hng := Lib.hid hng; have Hcn := Lib.hid hcn; have Hq2 := Lib.hid hq2
    have HT2 := Lib.hid t2
    clear h3 hst2 hok2 hng hcn hq2 hx1 hx2 hc3 hf2 t2 hwc
    go_upto_region 4 with fail
    go_cut [46] (fun v wx => v = .agg #[.int .i64 c3.r, .int .i64 c3.p, .int .i64 c3.l] ∧ IsSt wx g { f2 with c := c3 } v28 ∧ Turned (fun j => j = g) wd wx)
    case first =>
      go_region_with (first
        | (go_at_call 46; refine (KC.out _).mono ?_; rintro e w3 ⟨rfl, hb3⟩; have hs3 : IsSt w3 g f2 v28 := IsSt.below (w := wd.drew) Hst2.out hb3; have hst3 := stClk_run hs3 c3; have Hs3 := Lib.hid hs3; have Hb3 := Lib.hid hb3; clear hb3 hs3))
      all_goals
        go_wp2_with fail
        go_meet
        exact ⟨rfl, Hs3.out.sc c3, turned_cells (p := fun j => j = g) (fun _ => rfl) _ _ _ (Turned.of_below (p := fun j => j = g) (Below.of_drew Hb3.out))⟩
    case rest =>
      obtain ⟨rfl, hst3, ht3⟩ := hcut
      have hF4 : updF (updF F k f2) k { f2 with c := c3 } = updF F k (takenFl f now ph i r) := by
        rw [← Hf2.out, ← Hc3.out]
        funext j
        unfold updF
        split <;> rfl
      have h4 := H3.out.1.flow (p := fun j => j = g) (f := { f2 with c := c3 }) (v := v28) Hk.out ht3 (fun j e _ => .inl (by rw [Hg.out]; exact e)) (by rw [Hg.out]; exact hst3) (by
        show QAt wc B v28 f2.q
        rw [← Hf2.out]
        refine Hq2.out.turned ht3 fun j hj e => ?_
        rw [← Hv.out, cutQ_block] at hj
        injection hj with hj
        exact Hng.out (hj.trans e)) (fun j hj => .inl (by rw [updV_same]; exact hj)) (by
        have h := Hok2.out
        refine ⟨h.ver, h.pol, ?_, h.items, h.len, h.right⟩
        show InC c3
        rw [← Hc3.out]
        exact chargeF_in Hok.out.clk Hn.out)
      rw [hF4] at h4
      have hx1 := ht3.heap HX1.out (fun e => Hcn.out.1 e)
      have hx2 := ht3.heap HX2.out (fun e => Hcn.out.2 e)
      have HX1 := Lib.hid hx1; have HX2 := Lib.hid hx2; have H4 := Lib.hid h4; have HT3 := Lib.hid ht3
      clear h4 hx1 hx2 hst3 ht3 hF4 b1 b2 hlp hlc
      go_upto_region 6 with (go_at_call 21; refine (show Calls _ _ #[.pointer (some ⟨s, 0, none⟩), .int .i64 k, .pointer (some ⟨g, 0, none⟩)] wc _ from (by have hst := stand_any B s mf q1 m1 q2 m2 ks bs _ (updF F k (takenFl f now ph i r)) xr xw k wc H4.out.1 Hk.out (by have := (H.out.lens HL.out).1; have := Hl.out; omega) (by have := (H.out.lens HL.out).2; have := Hl.out; omega) (Nat.le_trans HB.out (Nat.le_trans Hb1.out.size (Nat.le_trans Hb2.out.size (Nat.le_trans H3.out.2.size H4.out.2.size)))); rw [Hg.out] at hst; exact hst)).mono ?_; rintro e w6 ⟨rfl, h6⟩; have H6 := Lib.hid h6; clear h6)
      obtain ⟨q1', m1', q2', m2', h6, k6⟩ := H6.out
      have hx1 := k6.heap HX1.out (by unfold TouchH; decide)
      have hx2 := k6.heap HX2.out (by unfold TouchH; decide)
      have hld := itm_run hx2
      have HX1 := Lib.hid hx1; have Hs6 := Lib.hid h6; have Hk6 := Lib.hid k6
      clear hx1 hx2 h6 k6
      go_wp2_with (refine wpList_store_row rfl 30 (.tmp 8) (.tmp 53) rfl w.heap.size #[.int .i64 i.na, .int .i64 i.de, .int .i64 i.rh] rfl rfl 30 _ HX1.out item_size rfl (by simp [Value.oneCell']) ?_)
      refine bodyPost_ret (results_cell_row rfl _ _ w.heap.size 30 #[.int .i64 i.na, .int .i64 i.de, .int .i64 i.rh] (0, 0) _ rfl (setRow_heap _ _ _ _ _ (0, 0) HX1.out) Tryz.underlying30 rfl item_size) rfl ?_
      unfold TakeRet
      have hbx := Hs6.out.box HX1.out (fun j hj e => by
        have hlt : ∀ g', (qs j).ownBlock = some g' → g' < w.heap.size := fun g' hg => by
          obtain ⟨_, cs, e3⟩ := H.out.qblock hj hg
          exact (Array.getElem?_eq_some_iff.1 e3).1
        have e2 : (qs j).ownBlock = some w.heap.size := by
          by_cases hjk : j = k
          · subst hjk
            rw [updV_same, ← Hv.out, cutQ_block] at e
            rw [Hqv.out, ← e]
            rfl
          · rw [updV_other hjk, updV_other hjk] at e
            exact e
        exact Nat.lt_irrefl _ (hlt _ e2)) (w' := w6.setRow w.heap.size #[.int .i64 i.na, .int .i64 i.de, .int .i64 i.rh]) ⟨rfl, rfl, rfl, by simp, fun k _ hk => setRow_other _ _ k _ (fun e => hk e)⟩ HB.out
      have h7 := hbx.1
      refine ⟨rfl, ⟨mf, q1', m1', q2', m2', bs, _, _, _, h7, by rw [updF_same]; exact HL.out.stand k _ Hk.out fun j _ => Iff.rfl, fun j hj g' hg' => ?_⟩, ?_, fun j cs hj => ?_⟩
      rotate_left
      rotate_left
      · have hg0 := (H.out.st k Hk.out).2.1
        rw [Hg.out] at hg0
        have hjg : j ≠ g := cells_ne hj hg0 (by decide)
        have hlt := (Array.getElem?_eq_some_iff.1 hj).1
        have e1 := (Hb1.out.block _ hlt).trans hj
        have e2 := (Hb2.out.block _ (Array.getElem?_eq_some_iff.1 e1).1).trans e1
        have e5 := Hk6.out.heap (HT3.out.heap (HT2.out.heap e2 hjg) hjg) (by unfold TouchH; decide)
        exact (setRow_other _ _ _ _ (by omega)).trans e5
      · by_cases hjk : j = k
        · subst hjk
          rw [updV_same, ← Hv.out, cutQ_block] at hg'
          exact HQ.out j hj g' (by rw [Hqv.out, ← hg']; rfl)
        · rw [updV_other hjk, updV_other hjk] at hg'
          exact HQ.out j hj g' hg'
      exact (((((KeptS.of_below Hb1.out).trans (.of_below Hb2.out)).trans H3.out.2).trans H4.out.2).trans Hk6.out.s).trans hbx.2
end Go.Proofs.YtbfjakchgmdldaaGreat
