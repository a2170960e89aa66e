/-
  Contract of (*sched.Sched).Push. Conditions: a scheduler in memory; numbers that an int holds.
-/
import Derived.Test.YtbfjakchgmdldaaGreatSchSet
import Derived.Deep.RegionLaw
import Derived.Deep.RegionWith
import Derived.Deep.DeepCutAuto
namespace Go.Proofs.YtbfjakchgmdldaaGreat
open Go.ChangeShapes Go.WideShapes Go.ChangeAt Go.RowKit Go.Maps
set_option linter.unusedVariables false
attribute [local go_sem ↓] ldItm_eq

theorem itm_box (w : World) (i : Itm) : ∃ W, w.alloc (.cells #[.int .i64 i.na, .int .i64 i.de, .int .i64 i.rh] 30) = W ∧ Below w.heap.size w W ∧ W.heap[w.heap.size]? = some (.cells #[.int .i64 i.na, .int .i64 i.de, .int .i64 i.rh] 30 (0, 0)) :=
  ⟨_, rfl, below_box _ _, heap_alloc_new w _⟩
theorem itm_run {w : World} {g : Nat} {i : Itm} (h : w.heap[g]? = some (.cells #[.int .i64 i.na, .int .i64 i.de, .int .i64 i.rh] 30 (0, 0))) :
    (ldItm (.pointer (some ⟨g, 0, none⟩))).run Tryz.prog w = .ok (.agg #[.int .i64 i.na, .int .i64 i.de, .int .i64 i.rh]) w := ldItm_run (row_cell h 0) (row_cell h 1) (row_cell h 2)
/-- the flow behind a push -/
def pushFl (f : Fl) (i : Itm) : Fl := { f with q := f.q ++ [i] }
theorem push_ok {f : Fl} {i : Itm} (h : FlOk f) (hi : InT i) (hl : f.q.length < 1024) : FlOk (pushFl f i) :=
  ⟨h.ver, h.pol, h.clk, fun j hj => (List.mem_append.1 hj).elim (h.items j) fun e => by rw [List.mem_singleton.1 e]; exact hi, by show (f.q ++ [i]).length ≤ 1024; simp; omega, h.right⟩
/-- a push behind a queue -/
theorem SchRaw.pushed {w w4 : World} {B s mf : Nat} {q1 m1 q2 m2 : Option Nat} {ks : List Int} {bs : Int → Nat} {qs : Int → Value} {F : Int → Fl} {xr xw : List Ent} {k : Int} {g : Nat} {f : Fl} {i : Itm} {A' : Option Addr} {c' n : Nat}
    (H : SchRaw w B s mf q1 m1 q2 m2 ks bs qs F xr xw) (hk : k ∈ ks) (hg : bs k = g) (hf : F k = f) (hn : f.q.length = n) (ht : Turned (fun j => (qs k).ownBlock = some j) w w4) (hq : QAt w4 B (.slice A' (n + 1) c') (f.q ++ [i]))
    (hv : ∀ j, (Value.slice A' (n + 1) c').ownBlock = some j → (qs k).ownBlock = some j ∨ w.heap.size ≤ j) (hi : InT i) (hl : n < 1024) :
    SchRaw (w4.setCell ⟨g, 8, none⟩ (.slice A' (n + 1) c')) B s mf q1 m1 q2 m2 ks bs (updV qs k (.slice A' (n + 1) c')) (updF F k (pushFl f i)) xr xw ∧ KeptS B w (w4.setCell ⟨g, 8, none⟩ (.slice A' (n + 1) c')) ∧ Turned (fun j => j = g ∨ (qs k).ownBlock = some j) w (w4.setCell ⟨g, 8, none⟩ (.slice A' (n + 1) c')) := by
  have hst := H.st k hk
  have hok := H.ok k hk
  rw [hg, hf] at hst
  rw [hf] at hok
  have hng : ∀ j, (qs k).ownBlock = some j → ¬ j = g := fun j hj e => by
    obtain ⟨_, cs, e2⟩ := H.qblock hk hj
    exact absurd e (cells_ne e2 hst.2.1 (by decide))
  have h4 : IsSt w4 g f (qs k) := ht.heap hst.2.1 fun e => hng g e rfl
  have t5 := set_wo (w := w4) (g := g) 8 (.slice A' (n + 1) c')
  have hlt := (Array.getElem?_eq_some_iff.1 hst.2.1).1
  have tt : Turned (fun j => j = g ∨ (qs k).ownBlock = some j) w (w4.setCell ⟨g, 8, none⟩ (.slice A' (n + 1) c')) := ht.trans t5 (fun _ e => .inr e) fun _ _ e => .inl e
  have hfl := H.flow (f := pushFl f i) (v := .slice A' (n + 1) c') hk tt (fun j e _ => by rw [hg]; exact e) (by rw [hg]; exact h4.s8 _ (f.q ++ [i])) (hq.turned t5 fun j hj e => by
    rcases hv j hj with e2 | e2
    · exact hng j e2 e
    · omega) hv (push_ok hok hi (by omega))
  exact ⟨hfl.1, hfl.2, tt⟩
def atF (now : Int) : Int := timesF now 65536
/-- what Push hands back where it goes -/
def PushOk (B s : Nat) (ks : List Int) (F : Int → Fl) (Q : Nat → Prop) (w : World) (en : Ending) (w' : World) : Prop := en = .returned (.int .i64 0) ∧ SchAtQ w' B s ks F (fun j => Q j ∨ w.heap.size ≤ j) ∧ KeptS B w w' ∧ KeepI Q w w'

set_option maxRecDepth 100000 in
set_option maxHeartbeats 4000000 in
theorem Push_up (B s : Nat) (ks : List Int) (F : Int → Fl) (k now : Int) (i : Itm) (w : World) (Q : Nat → Prop) (H : SchAtQ w B s ks F Q) (hk : k ∈ ks) (hi : InT i) (hu : upF (F k) = true) (hlen : (F k).q.length < 1024) (hl : ks.length ≤ 10000) (hB : B ≤ w.heap.size) :
    Calls Tryz.prog 9 #[.pointer (some ⟨s, 0, none⟩), .int .i64 k, .agg #[.int .i64 i.na, .int .i64 i.de, .int .i64 i.rh], .int .i64 now] w (PushOk B s ks (updF F k (pushFl (F k) i)) Q w) := by
  obtain ⟨mf, q1, m1, q2, m2, bs, qs, xr, xw, h, hL, hQ⟩ := H
  have HQ := Lib.hid hQ
  clear hQ
  obtain ⟨w1, hw1, hb1, hx1⟩ := itm_box w i
  have hbd := h.bd k hk
  have h1 := h.below hb1
  obtain ⟨A1, c1, A2, c2, hrow⟩ := h1.row
  have a0 : w1.cell? ⟨s, 0, none⟩ = some (.map (some mf)) := row_cell hrow 0
  obtain ⟨g, hg⟩ : ∃ g, bs k = g := ⟨_, rfl⟩
  obtain ⟨f, hf⟩ : ∃ f, F k = f := ⟨_, rfl⟩
  have hst := h1.st k hk
  rw [hg, hf] at hst
  rw [hf] at hu hlen ⊢
  obtain ⟨A, c, hqv⟩ := hst.2.2.form
  obtain ⟨n, hn⟩ : ∃ n, f.q.length = n := ⟨_, rfl⟩
  rw [hn] at hqv hlen
  have a8 : w1.cell? ⟨g, 8, none⟩ = some (.slice A n c) := by rw [← hqv]; exact IsSt.c8 hst.2.1
  have KU := Lib.hid (up_any B g f (qs k) w1 hst)
  rw [hu] at KU
  have hn0 : ¬ n = 1024 := by omega
  have hld := itm_run (show w1.drew.heap[w.heap.size]? = _ from hx1)
  have hb2 : Below w1.heap.size w1 (w1.alloc (.cells #[.int .i64 i.na, .int .i64 i.de, .int .i64 i.rh] 30)).drew := (below_box _ _).drew
  have hld2 := itm_run (show (w1.alloc (.cells #[.int .i64 i.na, .int .i64 i.de, .int .i64 i.rh] 30)).drew.heap[w.heap.size]? = _ from (hb2.block _ (Array.getElem?_eq_some_iff.1 hx1).1).trans hx1)
  have a8' : (w1.alloc (.cells #[.int .i64 i.na, .int .i64 i.de, .int .i64 i.rh] 30)).cell? ⟨g, 8, none⟩ = some (.slice A n c) := (hb2.cell (p := ⟨g, 8, none⟩) (block_lt_of_cell a8)).trans a8
  have Hb1 := Lib.hid hb1; have Hg := Lib.hid hg; have Hf := Lib.hid hf; have Hbd := Lib.hid hbd; have HL := Lib.hid hL; have Hk := Lib.hid hk; have Hi := Lib.hid hi; have Hl := Lib.hid hl; have HB := Lib.hid hB; have H := Lib.hid h; have H1 := Lib.hid h1; have Hst := Lib.hid hst; have Hqv := Lib.hid hqv; have Hn := Lib.hid hn; have Hlen := Lib.hid hlen
  have Hb2 := Lib.hid hb2
  clear hb1 hg hf hbd hL hk hi hl hB h h1 hst hqv hn hlen hrow hx1 hb2 hu
  go_enter Tryz.func9, Tryz.ntmps9
  go_upto_region 9 with (first
    | (refine wpList_lookP rfl (.tmp 18) (.tmp 19) rfl mf ks bs k rfl rfl H1.out.flows (by have := Hbd.out; omega) (by have := Hbd.out; omega) ?_; rw [decide_eq_true Hk.out, ptrV_some Hk.out, Hg.out])
    | (go_at_call 24; refine KU.out.mono ?_; rintro e w2 ⟨rfl, rfl⟩))
  clear a0 hw1
  have Hq := Lib.hid (show QAt (w1.alloc (.cells #[.int .i64 i.na, .int .i64 i.de, .int .i64 i.rh] 30)).drew B (.slice A n c) f.q by rw [← Hqv.out]; exact Hst.out.2.2.below Hb2.out)
  have Hnew := Lib.hid (show (w1.alloc (.cells #[.int .i64 i.na, .int .i64 i.de, .int .i64 i.rh] 30)).drew.heap[w1.heap.size]? = some (.cells #[.int .i64 i.na, .int .i64 i.de, .int .i64 i.rh] 30 (0, 0)) from heap_alloc_new w1 _)
  have HBn := Lib.hid (show B ≤ (w1.alloc (.cells #[.int .i64 i.na, .int .i64 i.de, .int .i64 i.rh] 30)).drew.heap.size from Nat.le_trans HB.out (Nat.le_trans Hb1.out.size Hb2.out.size))
  have hng : ∀ j, (Value.slice A n c).ownBlock = some j → ¬ j = g := fun j hj e => by
    rw [← Hqv.out] at hj
    obtain ⟨_, cs, e2⟩ := Hst.out.2.2.block hj
    exact absurd e (cells_ne e2 Hst.out.2.1 (by decide))
  have Hng := Lib.hid hng
  have HIst := Lib.hid (show IsSt (w1.alloc (.cells #[.int .i64 i.na, .int .i64 i.de, .int .i64 i.rh] 30)).drew g f (qs k) from IsSt.below Hst.out.2.1 Hb2.out)
  clear hng
  go_region_law (refine step_appQ (by rfl) (.tmp 57) (.tmp 59) (by rfl) (by rfl) B (.slice A n c) f.q n Hn.out i w1.heap.size (by rfl) Hq.out HBn.out (by have := Hlen.out; omega) (by rfl) Hnew.out ?_; intro A' c' w4 hq4 hg4 hb4; have t4 := Turned.of_grown (p := fun j => (Value.slice A n c).ownBlock = some j) hg4 (fun j e => e); have i4 : IsSt w4 g f (qs k) := t4.heap HIst.out (fun e => Hng.out g e rfl); have d8 := i4.c8; have z8 := i4.fz 8; have T4 := Lib.hid t4; have Hq4 := Lib.hid hq4; have Hb4 := Lib.hid hb4; clear hq4 hg4 hb4 t4 i4)
  all_goals
    obtain ⟨w5, hw5⟩ : ∃ w5, w4.setCell ⟨g, 8, none⟩ (.slice A' (n + 1) c') = w5 := ⟨_, rfl⟩
    have h5 := H1.out.pushed (w4 := w4) (n := n) (i := i) (A' := A') (c' := c') Hk.out Hg.out Hf.out Hn.out (by rw [Hqv.out]; exact (Turned.of_below (p := fun j => (Value.slice A n c).ownBlock = some j) Hb2.out).trans T4.out (fun _ e => e) (fun _ _ e => e)) Hq4.out (fun j hj => by
      rw [Hqv.out]
      rcases Hb4.out j hj with e | e
      · exact .inl e
      · exact .inr (by rw [e]; exact Hb2.out.size)) Hi.out Hlen.out
    rw [hw5] at h5 ⊢
    have H5 := Lib.hid h5
    clear h5 hw5 d8 z8
    go_wp2_with (go_at_call 21; refine (show Calls _ _ #[.pointer (some ⟨s, 0, none⟩), .int .i64 k, .pointer (some ⟨g, 0, none⟩)] w5 _ from (by have hst := stand_any B s mf q1 m1 q2 m2 ks bs (updV qs k (.slice A' (n + 1) c')) (updF F k (pushFl f i)) xr xw k w5 H5.out.1 Hk.out (by have := (H.out.lens HL.out).1; have := Hl.out; omega) (by have := (H.out.lens HL.out).2; have := Hl.out; omega) (Nat.le_trans HB.out (Nat.le_trans Hb1.out.size H5.out.2.1.size)); rw [Hg.out] at hst; exact hst)).mono ?_; rintro e w6 ⟨rfl, h6⟩; have H6 := Lib.hid h6; clear h6)
    go_ret
    unfold PushOk
    obtain ⟨q1', m1', q2', m2', h6, k6⟩ := H6.out
    rw [updF_same] at h6
    refine ⟨rfl, ⟨mf, q1', m1', q2', m2', bs, _, _, _, h6, HL.out.stand k _ Hk.out fun j _ => Iff.rfl, fun j hj x hx => ?_⟩, ?_, ?_⟩
    · by_cases hjk : j = k
      · subst hjk
        rw [updV_same] at hx
        rcases Hb4.out x hx with e | e
        · rw [← Hqv.out] at e
          exact .inl (HQ.out j hj x e)
        · exact .inr (by rw [e]; exact Nat.le_trans Hb1.out.size Hb2.out.size)
      · rw [updV_other hjk] at hx
        exact .inl (HQ.out j hj x hx)
    · exact ((KeptS.of_below Hb1.out).trans H5.out.2.1).trans k6.s
    · refine ((KeepI.of_below Hb1.out).trans (KeepI.of_turned H5.out.2.2 fun j cs e hj => ?_)).trans k6.items
      rcases hj with hj | hj
      · exact absurd hj (cells_ne e Hst.out.2.1 (by decide))
      · exact HQ.out k Hk.out j hj

theorem Below.of_drew {B : Nat} {w w' : World} (h : Below B w.drew w') : Below B w w' := ⟨h.os, h.tape, h.output, h.size, h.block⟩
/-- the least P of those that are up -/
def leastX (xw : List Ent) : Int := match xw[0]? with
  | none => 0
  | some e => e.2
/-- the flow behind a push, where it was not up -/
def wokeFl (f : Fl) (now l : Int) (i : Itm) : Fl := { f with c := wakeF f.c (atF now) l, q := f.q ++ [i] }
theorem least_of {x : List Ent} {n k : Int} {ok : Bool} (h : (x = [] ∧ n = 0 ∧ k = 0 ∧ ok = false) ∨ (x[0]? = some (n, k) ∧ ok = true)) : k = leastX x := by
  rcases h with ⟨rfl, _, rfl, _⟩ | ⟨h, _⟩
  · rfl
  · unfold leastX; rw [h]
theorem atF_bd (n : Int) : isTag (atF n) := timesF_bd _ _
theorem leastX_in {x : List Ent} (h : ∀ e ∈ x, Fits e) : In64 (leastX x) := by
  unfold leastX
  cases hx : x[0]? with
  | none => show In64 0; unfold In64; decide
  | some e => exact (h e (List.mem_iff_getElem?.2 ⟨0, hx⟩)).2
theorem wakeF_in {c : Clk} {a l : Int} (h : InC c) (ha : In64 a) (hl : In64 l) : InC (wakeF c a l) := by
  obtain ⟨h1, h2, h3⟩ := h
  unfold In64 at *
  refine ⟨⟨?_, ?_⟩, ⟨?_, ?_⟩, h3⟩ <;> simp only [wakeF] <;> omega
theorem tag_in64 {x : Int} (h : isTag x) : In64 x := by unfold isTag at h; unfold In64; omega

attribute [local go_sem ↓] ldClk_eq stClk_eq
set_option maxRecDepth 100000 in
set_option maxHeartbeats 4000000 in
theorem Push_down (B s mf : Nat) (q1 m1 q2 m2 : Option Nat) (ks : List Int) (bs : Int → Nat) (qs : Int → Value) (F : Int → Fl) (xr xw : List Ent) (k now : Int) (i : Itm) (w : World) (h : SchRaw w B s mf q1 m1 q2 m2 ks bs qs F xr xw) (hL : Lists ks F xr xw) (Q : Nat → Prop) (hQ : ∀ k ∈ ks, ∀ j, (qs k).ownBlock = some j → Q j) (hk : k ∈ ks) (hi : InT i) (hnow : In64 now) (hu : upF (F k) = false) (hl : ks.length ≤ 10000) (hB : B ≤ w.heap.size) :
    Calls Tryz.prog 9 #[.pointer (some ⟨s, 0, none⟩), .int .i64 k, .agg #[.int .i64 i.na, .int .i64 i.de, .int .i64 i.rh], .int .i64 now] w (PushOk B s ks (updF F k (wokeFl (F k) now (leastX xw) i)) Q w) := by
  have HQ := Lib.hid hQ
  clear hQ
  obtain ⟨w1, hw1, hb1, hx1⟩ := itm_box w i
  have hbd := h.bd k hk
  have h1 := h.below hb1
  obtain ⟨A1, c1, A2, c2, hrow⟩ := h1.row
  have a0 : w1.cell? ⟨s, 0, none⟩ = some (.map (some mf)) := row_cell hrow 0
  obtain ⟨g, hg⟩ : ∃ g, bs k = g := ⟨_, rfl⟩
  obtain ⟨f, hf⟩ : ∃ f, F k = f := ⟨_, rfl⟩
  have hst := h1.st k hk
  have hok := h1.ok k hk
  rw [hg, hf] at hst
  rw [hf] at hu hok ⊢
  obtain ⟨A, c, hqv⟩ := hst.2.2.form
  have hq0 : f.q = [] := by
    unfold upF at hu
    cases hq : f.q with
    | nil => rfl
    | cons a r => rw [hq] at hu; cases hu
  obtain ⟨n, hn⟩ : ∃ n, f.q.length = n := ⟨_, rfl⟩
  rw [hn] at hqv
  have hlen : n < 1024 := by rw [← hn, hq0]; decide
  have hn0 : ¬ n = 1024 := by omega
  have Hlen := Lib.hid hlen
  clear hlen
  have a8 : w1.cell? ⟨g, 8, none⟩ = some (.slice A n c) := by rw [← hqv]; exact IsSt.c8 hst.2.1
  have KU := Lib.hid (up_any B g f (qs k) w1 hst)
  rw [hu] at KU
  obtain ⟨X, Y, hW⟩ := h1.hw
  have KL := Lib.hid (Least_any B (homeW s mf X Y) q2 m2 xw w1 hW (by have := (h1.lens hL).2; omega))
  have KA := Lib.hid (fun W => Calls.stay (at_any now W hnow))
  have Hb1 := Lib.hid hb1; have Hg := Lib.hid hg; have Hf := Lib.hid hf; have Hbd := Lib.hid hbd; have HL := Lib.hid hL; have Hk := Lib.hid hk; have Hi := Lib.hid hi; have Hl := Lib.hid hl; have HB := Lib.hid hB; have H := Lib.hid h; have H1 := Lib.hid h1; have Hst := Lib.hid hst; have Hqv := Lib.hid hqv; have Hn := Lib.hid hn; have Hok := Lib.hid hok; have HW := Lib.hid hW; have Hx1 := Lib.hid hx1
  clear hb1 hg hf hbd hL hk hi hl hB h h1 hst hqv hn hrow hx1 hu hok hW hnow hq0
  go_enter Tryz.func9, Tryz.ntmps9
  go_upto_region 8 with (first
    | (refine wpList_lookP rfl (.tmp 18) (.tmp 19) rfl mf ks bs k rfl rfl H1.out.flows (by have := Hbd.out; omega) (by have := Hbd.out; omega) ?_; rw [decide_eq_true Hk.out, ptrV_some Hk.out, Hg.out])
    | (go_at_call 24; refine KU.out.mono ?_; rintro e w2 ⟨rfl, rfl⟩)
    | (go_at_call 25; refine KL.out.mono ?_; rintro e w2 ⟨nl, kl, okl, rfl, hle, hb2⟩; have Hle := Lib.hid (least_of hle); have Hb2 := Lib.hid hb2; clear hle hb2))
  clear a0 hw1 a8 KU KL
  have H2 := Lib.hid (H1.out.below Hb2.out)
  have hst2 := H2.out.st k Hk.out
  rw [Hg.out, Hf.out] at hst2
  have Hst2 := Lib.hid hst2
  clear hst2
  have hld := ldClk_at (w := w2.drew) Hst2.out.2.1
  have KW := Lib.hid (Wake_any f.c (timesF now 65536) kl w2.drew)
  obtain ⟨cw, hcw⟩ : ∃ cw, wakeF f.c (timesF now 65536) kl = cw := ⟨_, rfl⟩
  rw [hcw] at KW
  have Hcw := Lib.hid hcw
  clear hcw
  go_cut [50] (fun v wx => v = .agg #[.int .i64 cw.r, .int .i64 cw.p, .int .i64 cw.l] ∧ IsSt wx g { f with c := cw } (qs k) ∧ Turned (fun j => j = g) w2 wx)
  case first =>
    go_region_with (first
      | (go_at_call 27; refine (KA.out _).mono ?_; rintro e w3 ⟨rfl, rfl⟩)
      | (go_at_call 26; refine KW.out.mono ?_; rintro e w3 ⟨rfl, hb3⟩; have hs3 : IsSt w3 g f (qs k) := IsSt.below (w := w2.drew) Hst2.out.2.1 hb3; have hst3 := stClk_run hs3 cw; have Hs3 := Lib.hid hs3; have Hb3 := Lib.hid hb3; clear hb3 hs3))
    all_goals
      go_wp2_with fail
      go_meet
      exact ⟨rfl, Hs3.out.sc cw, turned_cells (p := fun j => j = g) (fun _ => rfl) _ _ _ (Turned.of_below (p := fun j => j = g) (Below.of_drew Hb3.out))⟩
  case rest =>
    obtain ⟨rfl, hst3, ht3⟩ := hcut
    have h3 := H2.out.flow (p := fun j => j = g) (f := { f with c := cw }) (v := qs k) Hk.out ht3 (fun j e _ => .inl (by rw [Hg.out]; exact e)) (by rw [Hg.out]; exact hst3) (Hst2.out.2.2.turned ht3 fun j hj e => by
      obtain ⟨_, cs, e2⟩ := Hst2.out.2.2.block hj
      exact absurd e (cells_ne e2 Hst2.out.2.1 (by decide))) (fun j hj => .inl hj) (by
      have hok := Hok.out
      refine ⟨hok.ver, hok.pol, ?_, hok.items, hok.len, hok.right⟩
      show InC cw
      rw [← Hcw.out, Hle.out]
      refine wakeF_in hok.clk (tag_in64 (timesF_bd _ _)) (leastX_in ?_)
      exact HW.out.fits)
    obtain ⟨f3, hf3⟩ : ∃ f3, ({ f with c := cw } : Fl) = f3 := ⟨_, rfl⟩
    have hx3 := ht3.heap ((Hb2.out.block _ (Array.getElem?_eq_some_iff.1 Hx1.out).1).trans Hx1.out) (fun e => by
      have e2 : w.heap.size = g := e
      have h1 := (Array.getElem?_eq_some_iff.1 (H.out.st k Hk.out).2.1).1
      rw [Hg.out, ← e2] at h1
      exact Nat.lt_irrefl _ h1)
    obtain ⟨qs2, hqs2⟩ : ∃ q, updV qs k (qs k) = q := ⟨_, rfl⟩
    obtain ⟨F2, hF2⟩ : ∃ q, updF F k { f with c := cw } = q := ⟨_, rfl⟩
    rw [hqs2, hF2] at h3
    have Hn2 := Lib.hid (show f3.q.length = n by rw [← hf3]; exact Hn.out)
    have Hqv2 := Lib.hid (show qs2 k = .slice A n c by rw [← hqs2, updV_same]; exact Hqv.out)
    have Hf2 := Lib.hid (show F2 k = f3 by rw [← hF2, updF_same]; exact hf3)
    have Hend := Lib.hid (show updF F2 k (pushFl f3 i) = updF F k (wokeFl f now (leastX xw) i) by
      rw [← hF2, ← hf3, ← Hcw.out, Hle.out]
      funext j
      unfold updF
      split <;> rfl)
    have Heq := Lib.hid (show pushFl f3 i = wokeFl f now (leastX xw) i by rw [← hf3, ← Hcw.out, Hle.out]; rfl)
    rw [hf3] at hst3
    have Hst3 := Lib.hid (show IsSt wc g f3 (qs2 k) by rw [← hqs2, updV_same]; exact hst3)
    have HI3 := Lib.hid (KeepI.of_turned (Q := Q) ht3 fun j cs e hj => absurd hj (cells_ne e Hst2.out.2.1 (by decide)))
    have HQ2 := Lib.hid (show ∀ j ∈ ks, ∀ x, (qs2 j).ownBlock = some x → Q x by
      intro j hj x hx
      rw [← hqs2] at hx
      unfold updV at hx
      split at hx
      · exact HQ.out k Hk.out x hx
      · exact HQ.out j hj x hx)
    have H3 := Lib.hid h3; have Hx3 := Lib.hid hx3
    clear h3 hx3 hst3 ht3 hf3 hqs2 hF2 hn0 hld
    have a8 : wc.cell? ⟨g, 8, none⟩ = some (.slice A n c) := by rw [← Hqv2.out]; exact Hst3.out.c8
    have hld := itm_run (show wc.drew.heap[w.heap.size]? = _ from Hx3.out)
    have hb2 : Below wc.heap.size wc (wc.alloc (.cells #[.int .i64 i.na, .int .i64 i.de, .int .i64 i.rh] 30)).drew := (below_box _ _).drew
    have hld2 := itm_run (show (wc.alloc (.cells #[.int .i64 i.na, .int .i64 i.de, .int .i64 i.rh] 30)).drew.heap[w.heap.size]? = _ from (hb2.block _ (Array.getElem?_eq_some_iff.1 Hx3.out).1).trans Hx3.out)
    have a8' : (wc.alloc (.cells #[.int .i64 i.na, .int .i64 i.de, .int .i64 i.rh] 30)).cell? ⟨g, 8, none⟩ = some (.slice A n c) := (hb2.cell (p := ⟨g, 8, none⟩) (block_lt_of_cell a8)).trans a8
    have Hb4 := Lib.hid hb2
    have HBc := Lib.hid (show B ≤ wc.heap.size from Nat.le_trans HB.out (Nat.le_trans Hb1.out.size (Nat.le_trans Hb2.out.size H3.out.2.size)))
    have Hq := Lib.hid (show QAt (wc.alloc (.cells #[.int .i64 i.na, .int .i64 i.de, .int .i64 i.rh] 30)).drew B (.slice A n c) f3.q by
      have h1 := (H3.out.1.st k Hk.out).2.2
      rw [Hf2.out, Hqv2.out] at h1
      exact h1.below hb2)
    have Hnew := Lib.hid (show (wc.alloc (.cells #[.int .i64 i.na, .int .i64 i.de, .int .i64 i.rh] 30)).drew.heap[wc.heap.size]? = some (.cells #[.int .i64 i.na, .int .i64 i.de, .int .i64 i.rh] 30 (0, 0)) from heap_alloc_new wc _)
    have HBn := Lib.hid (show B ≤ (wc.alloc (.cells #[.int .i64 i.na, .int .i64 i.de, .int .i64 i.rh] 30)).drew.heap.size from Nat.le_trans HBc.out hb2.size)
    have hng : ∀ j, (Value.slice A n c).ownBlock = some j → ¬ j = g := fun j hj e => by
      rw [← Hqv2.out] at hj
      obtain ⟨_, cs, e2⟩ := H3.out.1.qblock Hk.out hj
      exact absurd e (cells_ne e2 Hst3.out (by decide))
    have Hng := Lib.hid hng
    have HIst := Lib.hid (show IsSt (wc.alloc (.cells #[.int .i64 i.na, .int .i64 i.de, .int .i64 i.rh] 30)).drew g f3 (qs2 k) from IsSt.below Hst3.out hb2)
    clear hng hb2
    go_upto_region 9 with fail
    go_region_law (refine step_appQ (by rfl) (.tmp 57) (.tmp 59) (by rfl) (by rfl) B (.slice A n c) f3.q n Hn2.out i wc.heap.size (by rfl) Hq.out HBn.out (by have := Hlen.out; omega) (by rfl) Hnew.out ?_; intro A' c' w4 hq4 hg4 hb4; have t4 := Turned.of_grown (p := fun j => (Value.slice A n c).ownBlock = some j) hg4 (fun j e => e); have i4 : IsSt w4 g f3 (qs2 k) := t4.heap HIst.out (fun e => Hng.out g e rfl); have d8 := i4.c8; have z8 := i4.fz 8; have T4 := Lib.hid t4; have Hq4 := Lib.hid hq4; have Hb5 := Lib.hid hb4; clear hq4 hg4 hb4 t4 i4)
    all_goals
      obtain ⟨w5, hw5⟩ : ∃ w5, w4.setCell ⟨g, 8, none⟩ (.slice A' (n + 1) c') = w5 := ⟨_, rfl⟩
      have h5 := H3.out.1.pushed (w4 := w4) (n := n) (i := i) (A' := A') (c' := c') Hk.out Hg.out Hf2.out Hn2.out (by rw [Hqv2.out]; exact (Turned.of_below (p := fun j => (Value.slice A n c).ownBlock = some j) Hb4.out).trans T4.out (fun _ e => e) (fun _ _ e => e)) Hq4.out (fun j hj => by
        rw [Hqv2.out]
        rcases Hb5.out j hj with e | e
        · exact .inl e
        · exact .inr (by rw [e]; exact Hb4.out.size)) Hi.out Hlen.out
      rw [hw5] at h5 ⊢
      have H5 := Lib.hid h5
      clear h5 hw5 d8 z8
      go_wp2_with (go_at_call 21; refine (show Calls _ _ #[.pointer (some ⟨s, 0, none⟩), .int .i64 k, .pointer (some ⟨g, 0, none⟩)] w5 _ from (by have hst := stand_any B s mf q1 m1 q2 m2 ks bs (updV qs2 k (.slice A' (n + 1) c')) (updF F2 k (pushFl f3 i)) xr xw k w5 H5.out.1 Hk.out (by have := (H.out.lens HL.out).1; have := Hl.out; omega) (by have := (H.out.lens HL.out).2; have := Hl.out; omega) (Nat.le_trans HBc.out H5.out.2.1.size); rw [Hg.out] at hst; exact hst)).mono ?_; rintro e w6 ⟨rfl, h6⟩; have H6 := Lib.hid h6; clear h6)
      go_ret
      unfold PushOk
      obtain ⟨q1', m1', q2', m2', h6, k6⟩ := H6.out
      rw [updF_same] at h6
      rw [← Hend.out]
      refine ⟨rfl, ⟨mf, q1', m1', q2', m2', bs, _, _, _, h6, by rw [Hend.out, Heq.out]; exact HL.out.stand k _ Hk.out fun j _ => Iff.rfl, fun j hj x hx => ?_⟩, ?_, ?_⟩
      · by_cases hjk : j = k
        · subst hjk
          rw [updV_same] at hx
          rcases Hb5.out x hx with e | e
          · rw [← Hqv2.out] at e
            exact .inl (HQ2.out j hj x e)
          · exact .inr (by rw [e]; exact Nat.le_trans Hb1.out.size (Nat.le_trans Hb2.out.size (Nat.le_trans H3.out.2.size Hb4.out.size)))
        · rw [updV_other hjk] at hx
          exact .inl (HQ2.out j hj x hx)
      · exact ((((KeptS.of_below Hb1.out).trans (.of_below Hb2.out)).trans H3.out.2).trans H5.out.2.1).trans k6.s
      · refine ((((KeepI.of_below Hb1.out).trans (.of_below Hb2.out)).trans HI3.out).trans (KeepI.of_turned H5.out.2.2 fun j cs e hj => ?_)).trans k6.items
        rcases hj with hj | hj
        · exact absurd hj (cells_ne e Hst3.out (by decide))
        · exact HQ2.out k Hk.out j hj

theorem Push_none (B s : Nat) (ks : List Int) (F : Int → Fl) (k now : Int) (i : Itm) (w : World) (H : SchAt w B s ks F) (hk : ¬ k ∈ ks) (hi : In64 k) :
    Calls Tryz.prog 9 #[.pointer (some ⟨s, 0, none⟩), .int .i64 k, .agg #[.int .i64 i.na, .int .i64 i.de, .int .i64 i.rh], .int .i64 now] w fun e w' => e = .returned (.int .i64 7) ∧ Below w.heap.size w w' := by
  obtain ⟨mf, q1, m1, q2, m2, bs, qs, xr, xw, h, hL⟩ := H
  obtain ⟨w1, hw1, hb1, hx1⟩ := itm_box w i
  have h1 := h.below hb1
  obtain ⟨A1, c1, A2, c2, hrow⟩ := h1.row
  have a0 : w1.cell? ⟨s, 0, none⟩ = some (.map (some mf)) := row_cell hrow 0
  have Hb1 := Lib.hid hb1; have Hk := Lib.hid hk; have H1 := Lib.hid h1; have Hi := Lib.hid hi
  clear hb1 hk h1 hrow hx1 hi h hL
  go_enter Tryz.func9, Tryz.ntmps9
  go_wp2_with (refine wpList_lookP rfl (.tmp 18) (.tmp 19) rfl mf ks bs k rfl rfl H1.out.flows Hi.out.1 Hi.out.2 ?_; rw [decide_eq_false Hk.out, ptrV_none Hk.out])
  go_ret
  exact ⟨rfl, Hb1.out⟩
theorem Push_full (B s : Nat) (ks : List Int) (F : Int → Fl) (k now : Int) (i : Itm) (w : World) (H : SchAt w B s ks F) (hk : k ∈ ks) (hlen : (F k).q.length = 1024) :
    Calls Tryz.prog 9 #[.pointer (some ⟨s, 0, none⟩), .int .i64 k, .agg #[.int .i64 i.na, .int .i64 i.de, .int .i64 i.rh], .int .i64 now] w fun e w' => e = .returned (.int .i64 6) ∧ Below w.heap.size w w' := by
  obtain ⟨mf, q1, m1, q2, m2, bs, qs, xr, xw, h, hL⟩ := H
  obtain ⟨w1, hw1, hb1, hx1⟩ := itm_box w i
  have h1 := h.below hb1
  have hbd := h.bd k hk
  obtain ⟨A1, c1, A2, c2, hrow⟩ := h1.row
  have a0 : w1.cell? ⟨s, 0, none⟩ = some (.map (some mf)) := row_cell hrow 0
  obtain ⟨g, hg⟩ : ∃ g, bs k = g := ⟨_, rfl⟩
  have hst := h1.st k hk
  rw [hg] at hst
  obtain ⟨A, c, hqv⟩ := hst.2.2.form
  rw [hlen] at hqv
  have a8 : w1.cell? ⟨g, 8, none⟩ = some (.slice A 1024 c) := by rw [← hqv]; exact IsSt.c8 hst.2.1
  have Hb1 := Lib.hid hb1; have Hk := Lib.hid hk; have H1 := Lib.hid h1; have Hbd := Lib.hid hbd; have Hg := Lib.hid hg
  clear hb1 hk h1 hrow hx1 hbd h hL hst hqv hlen hg
  go_enter Tryz.func9, Tryz.ntmps9
  go_wp2_with (refine wpList_lookP rfl (.tmp 18) (.tmp 19) rfl mf ks bs k rfl rfl H1.out.flows (by have := Hbd.out; omega) (by have := Hbd.out; omega) ?_; rw [decide_eq_true Hk.out, ptrV_some Hk.out, Hg.out])
  go_ret
  exact ⟨rfl, Hb1.out⟩
/-- l is the least P of the flows that are up; 0 where none is -/
def LeastIs (ks : List Int) (F : Int → Fl) (l : Int) : Prop := ((∀ j ∈ ks, upF (F j) = false) ∧ l = 0) ∨ ∃ j ∈ ks, upF (F j) = true ∧ l = (F j).c.p ∧ ∀ i ∈ ks, upF (F i) = true → l ≤ (F i).c.p
theorem leastX_is {ks : List Int} {F : Int → Fl} {xr xw : List Ent} (h : Lists ks F xr xw) (hg : GoodE xw) : LeastIs ks F (leastX xw) := by
  cases hx : xw with
  | nil =>
    refine .inl ⟨fun j hj => ?_, rfl⟩
    cases hu : upF (F j) with
    | false => rfl
    | true =>
      have := (h.w (j, (F j).c.p)).2 ⟨pW_iff.2 ⟨hj, hu⟩, rfl⟩
      rw [hx] at this
      cases this
  | cons e r =>
    rw [hx] at hg
    have he := (h.w e).1 (by rw [hx]; exact List.mem_cons_self)
    obtain ⟨h1, h2⟩ := pW_iff.1 he.1
    refine .inr ⟨e.1, h1, h2, he.2, fun i hi hu => ?_⟩
    have hm := (h.w (i, (F i).c.p)).2 ⟨pW_iff.2 ⟨hi, hu⟩, rfl⟩
    rw [hx] at hm
    rcases List.mem_cons.1 hm with e2 | hm
    · have : e.2 = (F i).c.p := by rw [← e2]
      show e.2 ≤ _
      omega
    · have := (List.pairwise_cons.1 hg.up).1 _ hm
      unfold ahead at this
      simp only at this
      show e.2 ≤ _
      omega
def pushE (ks : List Int) (F : Int → Fl) (k : Int) : Int := if k ∈ ks then (if (F k).q.length = 1024 then 6 else 0) else 7
/-- what Push hands back, and leaves -/
def PushRet (B s : Nat) (ks : List Int) (F : Int → Fl) (k now : Int) (i : Itm) (w : World) (en : Ending) (w' : World) : Prop :=
  ∃ F', en = .returned (.int .i64 (pushE ks F k)) ∧ SchAt w' B s ks F' ∧ KeptS B w w' ∧
    ((pushE ks F k = 0 ∧ upF (F k) = true ∧ F' = updF F k (pushFl (F k) i)) ∨ (pushE ks F k = 0 ∧ upF (F k) = false ∧ ∃ l, LeastIs ks F l ∧ F' = updF F k (wokeFl (F k) now l i)) ∨ (pushE ks F k ≠ 0 ∧ F' = F))
def PushRetQ (B s : Nat) (ks : List Int) (F : Int → Fl) (k now : Int) (i : Itm) (Q : Nat → Prop) (w : World) (en : Ending) (w' : World) : Prop :=
  ∃ F', en = .returned (.int .i64 (pushE ks F k)) ∧ SchAtQ w' B s ks F' (fun j => Q j ∨ w.heap.size ≤ j) ∧ KeptS B w w' ∧ KeepI Q w w' ∧
    ((pushE ks F k = 0 ∧ upF (F k) = true ∧ F' = updF F k (pushFl (F k) i)) ∨ (pushE ks F k = 0 ∧ upF (F k) = false ∧ ∃ l, LeastIs ks F l ∧ F' = updF F k (wokeFl (F k) now l i)) ∨ (pushE ks F k ≠ 0 ∧ F' = F))
theorem SPushQ_any (B s : Nat) (ks : List Int) (F : Int → Fl) (k now : Int) (i : Itm) (w : World) (Q : Nat → Prop) (H : SchAtQ w B s ks F Q) (hk : In64 k) (hi : InT i) (hn : In64 now) (hl : ks.length ≤ 10000) (hB : B ≤ w.heap.size) :
    Calls Tryz.prog 9 #[.pointer (some ⟨s, 0, none⟩), .int .i64 k, .agg #[.int .i64 i.na, .int .i64 i.de, .int .i64 i.rh], .int .i64 now] w (PushRetQ B s ks F k now i Q w) := by
  unfold PushRetQ
  by_cases hin : k ∈ ks
  · by_cases hf : (F k).q.length = 1024
    · have e : pushE ks F k = 6 := by unfold pushE; rw [if_pos hin, if_pos hf]
      refine (Push_full B s ks F k now i w H.at_ hin hf).mono ?_
      rintro en w' ⟨rfl, hb⟩
      exact ⟨F, by rw [e], (H.below hb).mono (fun _ h => .inl h), .of_below hb, .of_below hb, .inr (.inr ⟨by rw [e]; decide, rfl⟩)⟩
    · have e : pushE ks F k = 0 := by unfold pushE; rw [if_pos hin, if_neg hf]
      have hlen : (F k).q.length < 1024 := by have := (H.at_.ok k hin).len; omega
      cases hu : upF (F k) with
      | true =>
        refine (Push_up B s ks F k now i w Q H hin hi hu hlen hl hB).mono ?_
        rintro en w' ⟨rfl, h1, h2, h3⟩
        exact ⟨_, by rw [e], h1, h2, h3, .inl ⟨e, rfl, rfl⟩⟩
      | false =>
        obtain ⟨mf, q1, m1, q2, m2, bs, qs, xr, xw, h, hL, hQ⟩ := H
        refine (Push_down B s mf q1 m1 q2 m2 ks bs qs F xr xw k now i w h hL Q hQ hin hi hn hu hl hB).mono ?_
        rintro en w' ⟨rfl, h1, h2, h3⟩
        exact ⟨_, by rw [e], h1, h2, h3, .inr (.inl ⟨e, rfl, _, leastX_is hL h.goods.2, rfl⟩)⟩
  · have e : pushE ks F k = 7 := if_neg hin
    refine (Push_none B s ks F k now i w H.at_ hin hk).mono ?_
    rintro en w' ⟨rfl, hb⟩
    exact ⟨F, by rw [e], (H.below hb).mono (fun _ h => .inl h), .of_below hb, .of_below hb, .inr (.inr ⟨by rw [e]; decide, rfl⟩)⟩
theorem SPush_any (B s : Nat) (ks : List Int) (F : Int → Fl) (k now : Int) (i : Itm) (w : World) (H : SchAt w B s ks F) (hk : In64 k) (hi : InT i) (hn : In64 now) (hl : ks.length ≤ 10000) (hB : B ≤ w.heap.size) :
    Calls Tryz.prog 9 #[.pointer (some ⟨s, 0, none⟩), .int .i64 k, .agg #[.int .i64 i.na, .int .i64 i.de, .int .i64 i.rh], .int .i64 now] w (PushRet B s ks F k now i w) :=
  (SPushQ_any B s ks F k now i w _ H.old hk hi hn hl hB).mono fun e w' h => by
    obtain ⟨F', h1, h2, h3, _, h4⟩ := h
    exact ⟨F', h1, h2.at_, h3, h4⟩
end Go.Proofs.YtbfjakchgmdldaaGreat
