/-
  Contracts of (*sched.Sched).Get and sched.New. Conditions: a scheduler in memory.
-/
import Derived.Test.YtbfjakchgmdldaaSchSet
namespace Go.Proofs.Ytbfjakchgmdldaa
open Go.ChangeShapes Go.WideShapes Go.ChangeAt Go.RowKit Go.Maps
set_option linter.unusedVariables false
attribute [local go_sem ↓] ldPol_eq stPol_eq ldClk_eq stClk_eq

def polRow (p : Pol) : Array Value := #[.int .i64 p.re, .int .i64 p.we, .int .i64 p.li, .int .i64 p.bu]
theorem there_row {w : World} {g n : Nat} {cs : Array Value} {t : TypeId} (h : w.heap[g]? = some (.cells cs t (0, 0))) (hn : cs.size = n) : w.there g 0 n := fun j hj => by
  refine ⟨?_, row_frozen h _⟩
  rw [row_cell h (0 + j), Array.getElem?_eq_getElem (by omega)]
  rfl
theorem stPol_row {w : World} {g : Nat} {q : Pol} (h : w.heap[g]? = some (.cells (polRow q) 29 (0, 0))) (p : Pol) :
    (stPol (.pointer (some ⟨g, 0, none⟩)) (.agg #[.int .i64 p.re, .int .i64 p.we, .int .i64 p.li, .int .i64 p.bu])).run Try.prog w = .ok () (w.setCells g 0 (polCells p)) ∧ (w.setCells g 0 (polCells p)).heap[g]? = some (.cells (polRow p) 29 (0, 0)) :=
  ⟨run_storeAt_mid w g 0 29 #[.int .i64 p.re, .int .i64 p.we, .int .i64 p.li, .int .i64 p.bu] (there_row h rfl) pol_info (by simp [Value.oneCell']),
    row_set (row_set (row_set (row_set h 0 (.int .i64 p.re)) 1 (.int .i64 p.we)) 2 (.int .i64 p.li)) 3 (.int .i64 p.bu)⟩
theorem stClk_row {w : World} {g : Nat} {d : Clk} (h : w.heap[g]? = some (.cells (clkRow d) 47 (0, 0))) (c : Clk) :
    (stClk (.pointer (some ⟨g, 0, none⟩)) (.agg #[.int .i64 c.r, .int .i64 c.p, .int .i64 c.l])).run Try.prog w = .ok () (w.setCells g 0 (clkCells c)) ∧ (w.setCells g 0 (clkCells c)).heap[g]? = some (.cells (clkRow c) 47 (0, 0)) :=
  ⟨run_storeAt_mid w g 0 47 #[.int .i64 c.r, .int .i64 c.p, .int .i64 c.l] (there_row h rfl) clk_info (by simp [Value.oneCell']),
    row_set (row_set (row_set h 0 (.int .i64 c.r)) 1 (.int .i64 c.p)) 2 (.int .i64 c.l)⟩
theorem results_get {fn : Func} {p q r u : Tmp} (h : fn.results = #[.tmp p, .cell q 29, .cell r 47, .tmp u]) {tmps : Array Value} {W : World} {a b : Nat} {x : Value} {ok : Value} {pl : Pol} {c : Clk} (hp : tmps.getD p undef = x) (hq : tmps.getD q undef = .pointer (some ⟨a, 0, none⟩)) (hr : tmps.getD r undef = .pointer (some ⟨b, 0, none⟩)) (hu : tmps.getD u undef = ok)
    (ha : W.heap[a]? = some (.cells (polRow pl) 29 (0, 0))) (hb : W.heap[b]? = some (.cells (clkRow c) 47 (0, 0))) : (results fn tmps).run Try.prog W = .ok (.tuple #[x, .agg (polRow pl), .agg (clkRow c), ok]) W := by
  have e2 := run_loadVar_row W a 29 29 (polRow pl) (0, 0) _ ha Try.underlying29 rfl pol_info
  have e3 := run_loadVar_row W b 47 47 (clkRow c) (0, 0) _ hb Try.underlying47 rfl clk_info
  simp only [Array.getD_eq_getD_getElem?] at hp hq hr hu
  simp [results, h, hp, hq, hr, hu, asAddr, e2, e3]
/-- what Get hands back -/
def GetRet (ks : List Int) (F : Int → Fl) (k : Int) (w : World) (en : Ending) (w' : World) : Prop :=
  ∃ v p c ok, en = .returned (.tuple #[.int .i64 v, .agg (polRow p), .agg (clkRow c), .bool ok]) ∧ ((k ∈ ks ∧ v = (F k).ver ∧ p = (F k).p ∧ c = (F k).c ∧ ok = true) ∨ (¬ k ∈ ks ∧ v = 0 ∧ p = ⟨0, 0, 0, 0⟩ ∧ c = ⟨0, 0, 0⟩ ∧ ok = false)) ∧ Below w.heap.size w w'
theorem get_boxes (w : World) : ∃ W, (w.alloc (.cells #[.int .i64 0, .int .i64 0, .int .i64 0, .int .i64 0] 29)).alloc (.cells #[.int .i64 0, .int .i64 0, .int .i64 0] 47) = W ∧ Below w.heap.size w W ∧ W.heap[w.heap.size]? = some (.cells (polRow ⟨0, 0, 0, 0⟩) 29 (0, 0)) ∧ W.heap[w.heap.size + 1]? = some (.cells (clkRow ⟨0, 0, 0⟩) 47 (0, 0)) :=
  ⟨_, rfl, below_two _ _ _, heap_two0 _ _ _, heap_two _ _ _⟩
set_option maxRecDepth 100000 in
set_option maxHeartbeats 4000000 in
theorem Get_has (B s : Nat) (ks : List Int) (F : Int → Fl) (k : Int) (w : World) (H : SchAt w B s ks F) (hk : k ∈ ks) :
    Calls Try.prog 18 #[.pointer (some ⟨s, 0, none⟩), .int .i64 k] w (GetRet ks F k w) := by
  obtain ⟨mf, q1, m1, q2, m2, bs, qs, xr, xw, h, hL⟩ := H
  obtain ⟨w1, hw1, hb1, hp1, hc1⟩ := get_boxes w
  have hbd := h.bd k hk
  have h1 := h.below hb1
  obtain ⟨A1, c1, A2, c2, hrow⟩ := h1.row
  have a0 : w1.cell? ⟨s, 0, none⟩ = some (.map (some mf)) := row_cell hrow 0
  obtain ⟨g, hg⟩ : ∃ g, bs k = g := ⟨_, rfl⟩
  obtain ⟨f, hf⟩ : ∃ f, F k = f := ⟨_, rfl⟩
  have hst := (h1.st k hk).2.1
  have hok := h1.ok k hk
  rw [hg, hf] at hst
  rw [hf] at hok
  have hst : IsSt w1 g f (qs k) := hst
  have hgw : g < w.heap.size := by rw [← hg]; exact (Array.getElem?_eq_some_iff.1 (h.st k hk).2.1).1
  have d0 := hst.c0
  obtain ⟨sp, hp2⟩ := stPol_row (w := w1.drew) hp1 f.p
  obtain ⟨w2, hw2⟩ : ∃ w2, w1.drew.setCells w.heap.size 0 (polCells f.p) = w2 := ⟨_, rfl⟩
  rw [hw2] at sp hp2
  have t2 : Turned (fun j => j = w.heap.size) w1 w2 := by rw [← hw2]; exact turned_cells (p := fun j => j = w.heap.size) (fun _ => rfl) _ _ _ (Turned.of_below (Below.refl _ _).drew)
  have hst2 : IsSt w2 g f (qs k) := t2.heap hst (by omega)
  have d2 := hst2.c0
  obtain ⟨sc, hc2⟩ := stClk_row (w := w2) (t2.heap hc1 (by omega)) f.c
  have l1 := ldPol_run (w := w1.drew) (hst.polAt hok.pol)
  have l2 := ldClk_at (w := w1.drew) hst
  have l3 := ldClk_at (w := w2) hst2
  have Hp2 := Lib.hid hp2; have Hc2 := Lib.hid hc2; have T2 := Lib.hid t2; have Hb1 := Lib.hid hb1; have Hbd := Lib.hid hbd; have Hk := Lib.hid hk; have H1 := Lib.hid h1; have Hg := Lib.hid hg; have Hf := Lib.hid hf
  clear hp2 hc2 t2 hb1 hbd hk h1 hg hf hst hst2 hrow hok hp1 hc1 h hL hw2
  go_enter Try.func18, Try.ntmps18
  go_upto_region 4 with (refine wpList_lookP rfl (.tmp 13) (.tmp 14) rfl mf ks bs k rfl rfl H1.out.flows (by have := Hbd.out; omega) (by have := Hbd.out; omega) ?_; rw [decide_eq_true Hk.out, ptrV_some Hk.out, Hg.out])
  go_region
  all_goals
    go_wp2
    have t3 : Turned (fun j => j = w.heap.size + 1) w2 (w2.setCells (w.heap.size + 1) 0 (clkCells f.c)) := turned_cells (p := fun j => j = w.heap.size + 1) (fun _ => rfl) _ _ _ (Turned.refl _ _)
    refine bodyPost_ret (results_get rfl rfl rfl rfl rfl (t3.heap Hp2.out (by omega)) Hc2.out) rfl ?_
    unfold GetRet
    refine ⟨f.ver, f.p, f.c, true, rfl, .inl ⟨Hk.out, by rw [Hf.out], by rw [Hf.out], by rw [Hf.out], rfl⟩, ?_⟩
    exact Hb1.out.trans ((T2.out.below (fun j e => by rw [e]; exact Nat.le_refl _) Hb1.out.size).trans (t3.below (fun j e => by rw [e]; omega) (Nat.le_trans Hb1.out.size T2.out.size)))
set_option maxRecDepth 100000 in
set_option maxHeartbeats 4000000 in
theorem Get_no (B s : Nat) (ks : List Int) (F : Int → Fl) (k : Int) (w : World) (H : SchAt w B s ks F) (hk : ¬ k ∈ ks) (hi : In64 k) :
    Calls Try.prog 18 #[.pointer (some ⟨s, 0, none⟩), .int .i64 k] w (GetRet ks F k w) := by
  obtain ⟨mf, q1, m1, q2, m2, bs, qs, xr, xw, h, hL⟩ := H
  obtain ⟨w1, hw1, hb1, hp1, hc1⟩ := get_boxes w
  have h1 := h.below hb1
  obtain ⟨A1, c1, A2, c2, hrow⟩ := h1.row
  have a0 : w1.cell? ⟨s, 0, none⟩ = some (.map (some mf)) := row_cell hrow 0
  obtain ⟨sp, hp2⟩ := stPol_row (w := w1) hp1 ⟨0, 0, 0, 0⟩
  obtain ⟨w2, hw2⟩ : ∃ w2, w1.setCells w.heap.size 0 (polCells ⟨0, 0, 0, 0⟩) = w2 := ⟨_, rfl⟩
  rw [hw2] at sp hp2
  have t2 : Turned (fun j => j = w.heap.size) w1 w2 := by rw [← hw2]; exact turned_cells (p := fun j => j = w.heap.size) (fun _ => rfl) _ _ _ (Turned.refl _ _)
  obtain ⟨sc, hc2⟩ := stClk_row (w := w2) (t2.heap hc1 (by omega)) ⟨0, 0, 0⟩
  have Hp2 := Lib.hid hp2; have Hc2 := Lib.hid hc2; have T2 := Lib.hid t2; have Hb1 := Lib.hid hb1; have Hk := Lib.hid hk; have H1 := Lib.hid h1; have Hi := Lib.hid hi
  clear hp2 hc2 t2 hb1 hk h1 hrow hp1 hc1 h hL hw2 hi
  go_enter Try.func18, Try.ntmps18
  go_wp2_with (refine wpList_lookP rfl (.tmp 13) (.tmp 14) rfl mf ks bs k rfl rfl H1.out.flows Hi.out.1 Hi.out.2 ?_; rw [decide_eq_false Hk.out, ptrV_none Hk.out])
  have t3 : Turned (fun j => j = w.heap.size + 1) w2 (w2.setCells (w.heap.size + 1) 0 (clkCells ⟨0, 0, 0⟩)) := turned_cells (p := fun j => j = w.heap.size + 1) (fun _ => rfl) _ _ _ (Turned.refl _ _)
  refine bodyPost_ret (results_get rfl rfl rfl rfl rfl (t3.heap Hp2.out (by omega)) Hc2.out) rfl ?_
  unfold GetRet
  refine ⟨0, ⟨0, 0, 0, 0⟩, ⟨0, 0, 0⟩, false, rfl, .inr ⟨Hk.out, rfl, rfl, rfl, rfl⟩, ?_⟩
  exact Hb1.out.trans ((T2.out.below (fun j e => by rw [e]; exact Nat.le_refl _) Hb1.out.size).trans (t3.below (fun j e => by rw [e]; omega) (Nat.le_trans Hb1.out.size T2.out.size)))
theorem Get_any (B s : Nat) (ks : List Int) (F : Int → Fl) (k : Int) (w : World) (H : SchAt w B s ks F) (hi : In64 k) :
    Calls Try.prog 18 #[.pointer (some ⟨s, 0, none⟩), .int .i64 k] w (GetRet ks F k w) := by
  by_cases hk : k ∈ ks
  · exact Get_has B s ks F k w H hk
  · exact Get_no B s ks F k w H hk hi

/-- a new scheduler -/
theorem new_sched (w : World) (F : Int → Fl) : SchAt ((w.alloc (.map #[] 0)).alloc (.cells #[.map (some w.heap.size), .slice none 0 0, .map none, .slice none 0 0, .map none] 61)) w.heap.size (w.heap.size + 1) [] F := by
  have hrow : ((w.alloc (.map #[] 0)).alloc (.cells #[.map (some w.heap.size), .slice none 0 0, .map none, .slice none 0 0, .map none] 61)).heap[w.heap.size + 1]? = some (.cells #[.map (some w.heap.size), .slice none 0 0, .map none, .slice none 0 0, .map none] 61 (0, 0)) := heap_two w _ _
  refine ⟨w.heap.size, none, none, none, none, fun _ => 0, fun _ => .slice none 0 0, [], [], ⟨by omega, Nat.le_refl _, ⟨.slice none 0 0, .map none, ?_⟩, ⟨.slice none 0 0, .map none, ?_⟩, ?_, fun k hk => (by cases hk), fun j hj => (by cases hj), fun j hj => (by cases hj), ⟨fun e => (by cases e), fun e => (by cases e), fun g e => (by cases e)⟩, fun g e => (by cases e), List.Pairwise.nil, fun k hk => (by cases hk), fun k hk => (by cases hk)⟩, Lists.nil F⟩
  · exact HeapAt.zero (h := homeR (w.heap.size + 1) w.heap.size (.slice none 0 0) (.map none)) (by show w.heap.size ≤ w.heap.size + 1; omega) hrow
  · exact HeapAt.zero (h := homeW (w.heap.size + 1) w.heap.size (.slice none 0 0) (.map none)) (by show w.heap.size ≤ w.heap.size + 1; omega) hrow
  · exact (FlowsAt.made w _).below (below_box _ _)
def NewRet (w : World) (en : Ending) (w' : World) : Prop := en = .returned (.pointer (some ⟨w.heap.size + 1, 0, none⟩)) ∧ SchAt w' w.heap.size (w.heap.size + 1) [] (fun _ => newFl) ∧ Below w.heap.size w w'
theorem New_any (w : World) : Calls Try.prog 9 #[] w (NewRet w) := by
  have hmm := @run_makeMap Try.prog
  go_enter Try.func9, Try.ntmps9
  go_wp2
  go_ret
  unfold NewRet
  exact ⟨rfl, new_sched w _, below_two _ _ _⟩
end Go.Proofs.Ytbfjakchgmdldaa
