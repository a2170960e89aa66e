/-
  Contract of (*sched.Sched).next. Conditions: a scheduler in memory whose heaps list just what they should.
-/
import Derived.Test.YtbfjakchgmdldaaGreatSchRisW
import Derived.Test.YtbfjakchgmdldaaGreatSchPush
import Derived.Test.YtbfjakchgmdldaaGreatRoundQ
namespace Go.Proofs.YtbfjakchgmdldaaGreat
open Go.ChangeShapes Go.WideShapes Go.ChangeAt Go.RowKit Go.Maps Go.Sort Go.Shelf
set_option linter.unusedVariables false
attribute [local go_sem] Oper.semAt_some

/-- a loop of at most so many rounds, the round's number in the relation -/
theorem loop_upto {F : Fence} {n : Nat} {P : Program} {Q : Exit → Act → World → Prop} {a : Act} {w : World} {c : Code} (N : Nat) (I : Nat → Act → World → Prop) (h0 : I 0 a w)
    (hstep : ∀ i a w, i < N → I i a w → c.wpIn F n P (Exit.then (fun a' w' => I (i + 1) a' w' ∧ i + 1 < N) Q) a w) (hN : 0 < N) : (Code.loop c).wpIn F n P Q a w := by
  have key : ∀ m i a w, i + m = N → i < N → I i a w → Code.roundsIn F n P c Q m a w := by
    intro m
    induction m with
    | zero => intro i a w h1 h2; omega
    | succ m ih =>
      intro i a w h1 h2 h
      rw [roundsIn_succ]
      refine wpIn_mono (hstep i a w h2 h) ?_
      intro e a' w' he
      cases e with
      | normal => exact ih (i + 1) a' w' (by omega) he.2 he.1
      | _ => exact he
  exact wpIn_loop_rounds N (key N 0 a w (by omega) hN h0)

/-! ### the boxes -/
def BlkN (W : World) (b : Nat) (t : TypeId) (cs : Array Value) : Prop := W.heap[b]? = some (.cells cs t (0, 0))
theorem BlkN.below {w w' : World} {b : Nat} {t : TypeId} {cs : Array Value} (h : BlkN w b t cs) (hb : Below w.heap.size w w') : BlkN w' b t cs := (hb.block b (Array.getElem?_eq_some_iff.1 h).1).trans h
theorem BlkN.cell {W : World} {b : Nat} {t : TypeId} {v : Value} (h : BlkN W b t #[v]) : W.cell? ⟨b, 0, none⟩ = some v := row_cell h 0
theorem blkN_own {β : Type} (B : Nat) (t : TypeId) (f : β → Array Value) : Own (fun s W => BlkN W B t (f s)) := fun s X Y row hs hg hrow => by
  have hne : some B ≠ row := fun e' => by
    obtain ⟨o, ho, hc⟩ := hrow B e'.symm
    rw [show X.heap[B]? = _ from hs] at ho
    cases ho
    cases hc
  exact (hg.block B (Array.getElem?_eq_some_iff.1 hs).1 hne).trans hs
/-- the three boxes of the results -/
def Three (w : World) (fl ph : Int) (ok : Bool) (W : World) : Prop :=
  BlkN W (w.heap.size + 1 + 1) 3 #[.int .i64 fl] ∧ BlkN W (w.heap.size + 1 + 1 + 1) 3 #[.int .i64 ph] ∧ BlkN W (w.heap.size + 1 + 1 + 1 + 1) 4 #[.bool ok]
def ResBox (w : World) (j : Nat) : Prop := j = w.heap.size + 1 + 1 ∨ j = w.heap.size + 1 + 1 + 1 ∨ j = w.heap.size + 1 + 1 + 1 + 1
def markD (D : Nat) : Deferred := { target := .collected D, args := #[] }
def MarksAt (b : Nat) (Ds : List Nat) (W : World) : Prop := Ds.Nodup ∧ ∀ D ∈ Ds, b ≤ D ∧ W.heap[D]? = some (.deferred (some []))
structure NextAt (w : World) (s : Nat) (now fl ph : Int) (ok : Bool) (Ds : List Nat) (W : World) : Prop where
  low : Below w.heap.size w W
  bs : BlkN W w.heap.size 24 #[.pointer (some ⟨s, 0, none⟩)]
  bn : BlkN W (w.heap.size + 1) 3 #[.int .i64 now]
  three : Three w fl ph ok W
  marks : MarksAt (w.heap.size + 5) Ds W
theorem Three.below {w W W' : World} {fl ph : Int} {ok : Bool} (h : Three w fl ph ok W) (hb : Below W.heap.size W W') : Three w fl ph ok W' := ⟨h.1.below hb, h.2.1.below hb, h.2.2.below hb⟩
theorem NextAt.below {w W W' : World} {s : Nat} {now fl ph : Int} {ok : Bool} {Ds : List Nat} (h : NextAt w s now fl ph ok Ds W) (hb : Below W.heap.size W W') : NextAt w s now fl ph ok Ds W' :=
  ⟨h.1.trans (hb.mono h.1.size), h.2.below hb, h.3.below hb, h.4.below hb, h.5.1, fun D hD => ⟨(h.5.2 D hD).1, (hb.block D (Array.getElem?_eq_some_iff.1 (h.5.2 D hD).2).1).trans (h.5.2 D hD).2⟩⟩
theorem ownFrom_turned {β : Type} {p : Nat → Prop} {B : Nat} {w₀ : World} (hB : w₀.heap.size ≤ B) : OwnFrom B (fun (_ : β) W => Turned p w₀ W) := fun _ X Y row hs hg hr =>
  hs.trans (q := fun k => row = some k) (Turned.of_grown hg fun k e => e) (fun _ e => e) fun k hk e => by have := (hr k e).1; omega
/-- behind a round that has left: what it tells, the three boxes, and nothing else turned -/
def IxN {α : Type} (w W3 : World) (Pu : Code → List α → Int → Int → Bool → Prop) (c : Code) (pre : List α) (W : World) : Prop := ∃ fl ph ok, Pu c pre fl ph ok ∧ Three w fl ph ok W ∧ Turned (ResBox w) W3 W
theorem ixN_own {α : Type} (w W3 : World) (Pu : Code → List α → Int → Int → Bool → Prop) (c : Code) : OwnFrom W3.heap.size (IxN w W3 Pu c) := fun pre X Y row hs hg hr => by
  obtain ⟨fl, ph, ok, h1, ⟨b1, b2, b3⟩, t⟩ := hs
  refine ⟨fl, ph, ok, h1, ⟨?_, ?_, ?_⟩, ownFrom_turned (β := Unit) (Nat.le_refl _) () X Y row t hg hr⟩
  · exact blkN_own (β := Unit) _ _ (fun _ => #[.int .i64 fl]) () X Y row b1 hg fun r e => (hr r e).2
  · exact blkN_own (β := Unit) _ _ (fun _ => #[.int .i64 ph]) () X Y row b2 hg fun r e => (hr r e).2
  · exact blkN_own (β := Unit) _ _ (fun _ => #[.bool ok]) () X Y row b3 hg fun r e => (hr r e).2
/-- how a round leaves: on to the next way, or with a flow -/
def PuN {x : List Ent} (ks : List Int) (F : Int → Fl) (now : Int) (Cand : Int → Prop) (φ : Int) (c : Code) (pre : List (EntOf x)) (fl ph : Int) (ok : Bool) : Prop :=
  ∃ pre0 e, pre = pre0 ++ [e] ∧ (∀ y ∈ pre0, ¬ Cand y.1.1) ∧ ((c = .exit 1 ∧ φ = 1 ∧ fl = 0 ∧ ph = 0 ∧ ok = false ∧ now < (F e.1.1).c.r) ∨ (c = .exit 0 ∧ Cand e.1.1 ∧ fl = e.1.1 ∧ ph = φ ∧ ok = true))
theorem next_start (w : World) (s : Nat) (now : Int) {w1 : World} (hb : Below (((((w.alloc (.cells #[.pointer (some ⟨s, 0, none⟩)] 24)).alloc (.cells #[.int .i64 now] 3)).alloc (.cells #[.int .i64 0] 3)).alloc (.cells #[.int .i64 0] 3)).alloc (.cells #[.bool false] 4)).heap.size (((((w.alloc (.cells #[.pointer (some ⟨s, 0, none⟩)] 24)).alloc (.cells #[.int .i64 now] 3)).alloc (.cells #[.int .i64 0] 3)).alloc (.cells #[.int .i64 0] 3)).alloc (.cells #[.bool false] 4)) w1) :
    NextAt w s now 0 0 false [] w1 := by
  obtain ⟨A, hA⟩ : ∃ A, w.alloc (.cells #[.pointer (some ⟨s, 0, none⟩)] 24) = A := ⟨_, rfl⟩
  rw [hA] at hb
  have a1 : A.heap.size = w.heap.size + 1 := by rw [← hA]; simp
  have b0 : Below w.heap.size w A := by rw [← hA]; exact below_box _ _
  have f0 : BlkN A w.heap.size 24 #[.pointer (some ⟨s, 0, none⟩)] := by rw [← hA]; exact heap_alloc_new w _
  obtain ⟨C, hC⟩ : ∃ C, A.alloc (.cells #[.int .i64 now] 3) = C := ⟨_, rfl⟩
  rw [hC] at hb
  have a2 : C.heap.size = w.heap.size + 1 + 1 := by rw [← hC, ← a1]; simp
  have b1 : Below A.heap.size A C := by rw [← hC]; exact below_box _ _
  have f1 : BlkN C A.heap.size 3 #[.int .i64 now] := by rw [← hC]; exact heap_alloc_new A _
  obtain ⟨D, hD⟩ : ∃ D, C.alloc (.cells #[.int .i64 0] 3) = D := ⟨_, rfl⟩
  rw [hD] at hb
  have a3 : D.heap.size = w.heap.size + 1 + 1 + 1 := by rw [← hD, ← a2]; simp
  have b2 : Below C.heap.size C D := by rw [← hD]; exact below_box _ _
  have f2 : BlkN D C.heap.size 3 #[.int .i64 0] := by rw [← hD]; exact heap_alloc_new C _
  obtain ⟨E, hE⟩ : ∃ E, D.alloc (.cells #[.int .i64 0] 3) = E := ⟨_, rfl⟩
  rw [hE] at hb
  have a4 : E.heap.size = w.heap.size + 1 + 1 + 1 + 1 := by rw [← hE, ← a3]; simp
  have b3 : Below D.heap.size D E := by rw [← hE]; exact below_box _ _
  have f3 : BlkN E D.heap.size 3 #[.int .i64 0] := by rw [← hE]; exact heap_alloc_new D _
  obtain ⟨G, hG⟩ : ∃ G, E.alloc (.cells #[.bool false] 4) = G := ⟨_, rfl⟩
  rw [hG] at hb
  have b4 : Below E.heap.size E G := by rw [← hG]; exact below_box _ _
  have f4 : BlkN G E.heap.size 4 #[.bool false] := by rw [← hG]; exact heap_alloc_new E _
  have c3 : Below E.heap.size E w1 := b4.trans (hb.mono b4.size)
  have c2 : Below D.heap.size D w1 := b3.trans (c3.mono b3.size)
  have c1 : Below C.heap.size C w1 := b2.trans (c2.mono b2.size)
  have c0 : Below A.heap.size A w1 := b1.trans (c1.mono b1.size)
  rw [a1] at f1
  rw [a2] at f2
  rw [a3] at f3
  rw [a4] at f4
  exact ⟨b0.trans (c0.mono b0.size), f0.below c0, f1.below c1, ⟨f2.below c2, f3.below c3, f4.below hb⟩, List.nodup_nil, fun D hD => by cases hD⟩
/-- a way in a box -/
def stWay (p v : Value) : Sem Unit := Instr.storeAt 90 p v
theorem stWay_eq (p v : Value) : Instr.storeAt 90 p v = stWay p v := rfl
theorem way_size : (Tryz.prog.info? 90).map (·.size) = some 3 := by kernel_rfl
theorem way_box (W : World) (φ : Int) (s o f : Nat) : ∃ W2, (stWay (.pointer (some ⟨W.heap.size, 0, none⟩)) (.agg #[.int .i64 φ, .pointer (some ⟨s, o, none⟩), .func (.func f) #[] #[]])).run Tryz.prog (W.alloc (.cells #[.int .i64 0, .pointer none, .nilFunc] 90)) = .ok () W2 ∧
    Below W.heap.size W W2 ∧ W2.heap[W.heap.size]? = some (.cells #[.int .i64 φ, .pointer (some ⟨s, o, none⟩), .func (.func f) #[] #[]] 90 (0, 0)) := by
  have h : (W.alloc (.cells #[.int .i64 0, .pointer none, .nilFunc] 90)).heap[W.heap.size]? = some (.cells #[.int .i64 0, .pointer none, .nilFunc] 90 (0, 0)) := heap_alloc_new W _
  refine ⟨_, run_storeAt_mid _ W.heap.size 0 90 #[.int .i64 φ, .pointer (some ⟨s, o, none⟩), .func (.func f) #[] #[]] (fun j hj => ⟨by rw [row_cell h (0 + j), Array.getElem?_eq_getElem (by show 0 + j < 3; have : j < 3 := hj; omega)]; rfl, row_frozen h _⟩) way_size (by simp [Value.oneCell']), ?_, ?_⟩
  · exact (below_box W _).trans ((turned_cells (p := fun j => j = W.heap.size) (fun _ => rfl) _ _ _ (Turned.refl _ _)).below (fun j e => by rw [e]; exact Nat.le_refl _) (below_box W (.cells #[.int .i64 0, .pointer none, .nilFunc] 90)).size)
  · exact row_set (row_set (row_set h 0 (.int .i64 φ)) 1 (.pointer (some ⟨s, o, none⟩))) 2 (.func (.func f) #[] #[])
theorem ways_at0 (s : Nat) (W : World) : (Instr.index 91 (.agg #[.int .i64 1, .pointer (some ⟨s, 1, none⟩), .func (.func 53) #[] #[], .int .i64 2, .pointer (some ⟨s, 3, none⟩), .func (.func 54) #[] #[]]) (.int .i64 0)).run Tryz.prog W = .ok (.agg #[.int .i64 1, .pointer (some ⟨s, 1, none⟩), .func (.func 53) #[] #[]]) W := by kernel_rfl
theorem ways_at1 (s : Nat) (W : World) : (Instr.index 91 (.agg #[.int .i64 1, .pointer (some ⟨s, 1, none⟩), .func (.func 53) #[] #[], .int .i64 2, .pointer (some ⟨s, 3, none⟩), .func (.func 54) #[] #[]]) (.int .i64 1)).run Tryz.prog W = .ok (.agg #[.int .i64 2, .pointer (some ⟨s, 3, none⟩), .func (.func 54) #[] #[]]) W := by kernel_rfl
theorem keepsFrom_below {B : Nat} {W W' : World} (h : Below W.heap.size W W') : KeepsFrom B W W' := ⟨h.size, fun k o _ hk _ => (h.block k (Array.getElem?_eq_some_iff.1 hk).1).trans hk⟩
/-- the three results, stored -/
theorem three_set {w W : World} {fl ph : Int} {ok : Bool} (h : Three w fl ph ok W) (a b : Int) (c : Bool) {W' : World}
    (e : ((W.setCell ⟨w.heap.size + 1 + 1, 0, none⟩ (.int .i64 a)).setCell ⟨w.heap.size + 1 + 1 + 1, 0, none⟩ (.int .i64 b)).setCell ⟨w.heap.size + 1 + 1 + 1 + 1, 0, none⟩ (.bool c) = W') : Three w a b c W' ∧ Turned (ResBox w) W W' := by
  subst e
  have t1 := set_wo (w := W) (g := w.heap.size + 1 + 1) 0 (.int .i64 a)
  have t2 := set_wo (w := W.setCell ⟨w.heap.size + 1 + 1, 0, none⟩ (.int .i64 a)) (g := w.heap.size + 1 + 1 + 1) 0 (.int .i64 b)
  have t3 := set_wo (w := (W.setCell ⟨w.heap.size + 1 + 1, 0, none⟩ (.int .i64 a)).setCell ⟨w.heap.size + 1 + 1 + 1, 0, none⟩ (.int .i64 b)) (g := w.heap.size + 1 + 1 + 1 + 1) 0 (.bool c)
  refine ⟨⟨t3.heap (t2.heap (row_set h.1 0 (.int .i64 a)) ?_) ?_, t3.heap (row_set (t1.heap h.2.1 ?_) 0 (.int .i64 b)) ?_, row_set (t2.heap (t1.heap h.2.2 ?_) ?_) 0 (.bool c)⟩, (t1.trans t2 (r := ResBox w) (fun k e => .inl e) fun k _ e => .inr (.inl e)).trans t3 (fun _ e => e) fun k _ e => .inr (.inr e)⟩
  all_goals (intro e; omega)
theorem keepsFrom_three {B : Nat} {w W W' : World} {fl ph : Int} {ok : Bool} (h : Three w fl ph ok W) (t : Turned (ResBox w) W W') : KeepsFrom B W W' := ⟨t.size, fun k o _ hk ho => t.heap hk fun e => by
  rcases e with e | e | e
  · rw [e, h.1] at hk; injection hk with hk; subst hk; cases ho
  · rw [e, h.2.1] at hk; injection hk with hk; subst hk; cases ho
  · rw [e, h.2.2] at hk; injection hk with hk; subst hk; cases ho⟩
/-- a round that leaves with a flow -/
theorem three_left {w W3 W' w5 X : World} {B : Nat} {a b : Int} {c : Bool} (hb : Below W'.heap.size W' w5) (hB : Below W3.heap.size W3 w5) (h : Three w 0 0 false w5)
    (e : (((w5.setCell ⟨w.heap.size + 1 + 1, 0, none⟩ (.int .i64 a)).setCell ⟨w.heap.size + 1 + 1 + 1, 0, none⟩ (.int .i64 b)).setCell ⟨w.heap.size + 1 + 1 + 1 + 1, 0, none⟩ (.bool c)).drew = X) :
    KeepsFrom B W' X ∧ Three w a b c X ∧ Turned (ResBox w) W3 X := by
  obtain ⟨h1, h2⟩ := three_set h a b c rfl
  rw [← e]
  have h3 := h2.drew
  exact ⟨(keepsFrom_below hb).trans (keepsFrom_three h h3), h1.below (Below.refl _ _).drew, (Turned.of_below (p := fun _ => False) hB).trans h3 (fun _ e => e.elim) fun _ _ e => e⟩
/-- what next hands back -/
def NextRet (ks : List Int) (F : Int → Fl) (now : Int) (w : World) (e : Ending) (w' : World) : Prop := ∃ k ph ok, e = .returned (.tuple #[.int .i64 k, .int .i64 ph, .bool ok]) ∧ Next ks F now k ph ok ∧ Below w.heap.size w w'
theorem ld_int {W : World} {a : Addr} {v : Value} (h : W.cell? a = some v) : (loadVar 3 a).run Tryz.prog W = .ok v W := by
  have a3 := Tryz.isAgg3
  simp [loadVar, a3, go_sem, h]
theorem ld_bool {W : World} {a : Addr} {v : Value} (h : W.cell? a = some v) : (loadVar 4 a).run Tryz.prog W = .ok v W := by
  have a3 := Tryz.isAgg4
  simp [loadVar, a3, go_sem, h]
theorem results_three {fn : Func} {p q r : Tmp} (h : fn.results = #[.cell p 3, .cell q 3, .cell r 4]) {tmps : Array Value} {W : World} {a b c : Addr} {x y z : Value} (hp : tmps.getD p undef = .pointer (some a)) (hq : tmps.getD q undef = .pointer (some b)) (hr : tmps.getD r undef = .pointer (some c))
    (ha : W.cell? a = some x) (hb : W.cell? b = some y) (hc : W.cell? c = some z) : (results fn tmps).run Tryz.prog W = .ok (.tuple #[x, y, z]) W := by
  have e1 := ld_int ha
  have e2 := ld_int hb
  have e3 := ld_bool hc
  simp only [Array.getD_eq_getD_getElem?] at hp hq hr
  simp [results, h, hp, hq, hr, asAddr, e1, e2, e3]
/-- the way out, with its marks -/
theorem next_leaves {n : Nat} {tmps : Array Value} {w : World} {ks : List Int} {F : Int → Fl} {now k ph : Int} {ok : Bool} (h4 : tmps.getD 4 undef = .pointer (some ⟨w.heap.size + 1 + 1, 0, none⟩)) (h5 : tmps.getD 5 undef = .pointer (some ⟨w.heap.size + 1 + 1 + 1, 0, none⟩)) (h6 : tmps.getD 6 undef = .pointer (some ⟨w.heap.size + 1 + 1 + 1 + 1, 0, none⟩)) (hN : Next ks F now k ph ok) :
    ∀ (Ds : List Nat) (W : World), MarksAt (w.heap.size + 5) Ds W → Three w k ph ok W → Below w.heap.size w W → LeavesInM Fence.wide n Tryz.prog Tryz.f31 tmps (NextRet ks F now w) (Ds.map markD) .returning W
  | [], W, _, h, hb => ⟨_, results_three rfl h4 h5 h6 h.1.cell h.2.1.cell h.2.2.cell, _, _, _, rfl, hN, hb⟩
  | D :: Ds, W, hm, h, hb => by
    have hD := hm.2 D List.mem_cons_self
    have hk : ∀ {k : Nat} {o : Obj}, W.heap[k]? = some o → k ≠ D → (W.putObj D (.deferred none)).heap[k]? = some o := fun hk hne => (World.putObj_heap_other hne).trans hk
    refine ⟨by simp, .inl ⟨D, _, rfl, run_takeDeferred hD.2, next_leaves h4 h5 h6 hN Ds _ ⟨(List.nodup_cons.1 hm.1).2, fun E hE => ?_⟩ ⟨hk h.1 (by omega), hk h.2.1 (by omega), hk h.2.2 (by omega)⟩ ?_⟩⟩
    · exact ⟨(hm.2 E (List.mem_cons_of_mem _ hE)).1, hk (hm.2 E (List.mem_cons_of_mem _ hE)).2 fun e => (List.nodup_cons.1 hm.1).1 (e ▸ hE)⟩
    · exact hb.trans ⟨rfl, rfl, rfl, by simp, fun j hj => World.putObj_heap_other (by omega)⟩
theorem take_split {x : List Ent} {pre0 : List (EntOf x)} {e : EntOf x} {kk : Nat} (h : pre0 ++ [e] = x.attach.take (kk + 1)) (hk : kk < x.length) : x[kk]? = some e.1 ∧ ∀ (j : Nat) r, j < kk → x[j]? = some r → ∃ hr : r ∈ x, (⟨r, hr⟩ : EntOf x) ∈ pre0 := by
  obtain ⟨e2, h1, h2⟩ := attach_at hk
  rw [h2] at h
  obtain ⟨h3, h4⟩ := List.append_inj' h rfl
  injection h4 with h4
  subst h4
  refine ⟨h1, fun j r hj hr => ?_⟩
  obtain ⟨e3, h5, h6⟩ := attach_at (show j < x.length by omega)
  rw [hr] at h5
  injection h5 with h5
  subst h5
  refine ⟨e3.2, ?_⟩
  rw [h3]
  have : x.attach.take (j + 1) <+: x.attach.take kk := List.take_prefix_take_left (by omega)
  exact this.subset (by rw [h6]; simp)
theorem MarksAt.turned {w W X : World} {Ds : List Nat} (h : MarksAt (w.heap.size + 5) Ds W) (t : Turned (ResBox w) W X) : MarksAt (w.heap.size + 5) Ds X :=
  ⟨h.1, fun D hD => ⟨(h.2 D hD).1, t.heap (h.2 D hD).2 fun e => by have := (h.2 D hD).1; unfold ResBox at e; omega⟩⟩
theorem end_ok {w W X : World} {Ds : List Nat} {k ph : Int} {ok : Bool} (h : Three w k ph ok W) (hm : MarksAt (w.heap.size + 5) Ds W) (hl : Below w.heap.size w W)
    (e : (((W.setCell ⟨w.heap.size + 1 + 1, 0, none⟩ (.int .i64 k)).setCell ⟨w.heap.size + 1 + 1 + 1, 0, none⟩ (.int .i64 ph)).setCell ⟨w.heap.size + 1 + 1 + 1 + 1, 0, none⟩ (.bool ok)).drew = X) :
    Three w k ph ok X ∧ MarksAt (w.heap.size + 5) Ds X ∧ Below w.heap.size w X := by
  obtain ⟨h1, h2⟩ := three_set h k ph ok rfl
  have h3 := h2.drew
  rw [e] at h3
  rw [← e]
  exact ⟨h1.below (Below.refl _ _).drew, by rw [e]; exact hm.turned h3, by rw [e]; exact hl.trans (h3.below (fun j hj => by unfold ResBox at hj; omega) hl.size)⟩
attribute [local go_sem ↓] ldPol_eq ldClk_eq stWay_eq
/-- where a round begins of the search -/
def NextI (w : World) (s : Nat) (now : Int) (ks : List Int) (F : Int → Fl) (i : Nat) (a : Act) (W : World) : Prop := ∃ u7 u8 u9 u10 u14 u15 u16 u17 u18 u19 u20 u21 u22 u23 u24 u25 u26 u27 u28 u29 u30 u31 u32 u33 u34 u35 u36 u37 u38 u39 u40 u41 u42 u43 u44 u45 u46 u47 u48 u49 u50 u51 u52 u53 u54 u55 u56 u57 u58 u59 u13 Ds, a = { tmps := #[.pointer (some ⟨s, 0, none⟩), .int .i64 now, .pointer (some ⟨w.heap.size, 0, none⟩), .pointer (some ⟨w.heap.size + 1, 0, none⟩), .pointer (some ⟨w.heap.size + 1 + 1, 0, none⟩), .pointer (some ⟨w.heap.size + 1 + 1 + 1, 0, none⟩), .pointer (some ⟨w.heap.size + 1 + 1 + 1 + 1, 0, none⟩), u7, u8, u9, u10, .pointer (some ⟨s, 0, none⟩), .agg #[.int .i64 1, .pointer (some ⟨s, 1, none⟩), .func (.func 53) #[] #[], .int .i64 2, .pointer (some ⟨s, 3, none⟩), .func (.func 54) #[] #[]], u13, u14, u15, u16, u17, u18, u19, u20, u21, u22, u23, u24, u25, u26, u27, u28, u29, u30, u31, u32, u33, u34, u35, u36, u37, u38, u39, u40, u41, u42, u43, u44, u45, u46, u47, u48, u49, u50, u51, u52, u53, u54, u55, u56, u57, u58, u59], defers := Ds.map markD } ∧ u13 = .int .i64 (i : Int) ∧ NextAt w s now 0 0 false Ds W ∧ (1 ≤ i → ∀ j, ¬ Due ks F now j) ∧ (2 ≤ i → ∀ j, ¬ Free ks F now j)
theorem five_lt {w W : World} {fl ph : Int} {ok : Bool} (h : Three w fl ph ok W) : w.heap.size + 4 < W.heap.size := (Array.getElem?_eq_some_iff.1 h.2.2).1

set_option maxRecDepth 100000 in
set_option maxHeartbeats 8000000 in
theorem next_any (B s mf : Nat) (q1 m1 q2 m2 : Option Nat) (ks : List Int) (bs : Int → Nat) (qs : Int → Value) (F : Int → Fl) (xr xw : List Ent) (now : Int) (w : World) (h : SchRaw w B s mf q1 m1 q2 m2 ks bs qs F xr xw) (hL : Lists ks F xr xw) (hl : ks.length ≤ 10000) :
    Calls Tryz.prog 31 #[.pointer (some ⟨s, 0, none⟩), .int .i64 now] w (NextRet ks F now w) := by
  refine (callsIn_wide (n := 9)).1 ?_
  have H := Lib.hid h; have HL := Lib.hid hL; have Hl := Lib.hid hl
  have KWy := Lib.hid (ways_any s)
  clear h hL hl
  refine callsIn_of_wp_marks Tryz.func31 rfl trivial ?_ rfl
  simp only [Tryz.ntmps31, List.size_toArray, List.length_cons, List.length_nil, Nat.reduceAdd, Nat.reduceSub, Array.replicate_succ, Array.replicate_zero, List.push_toArray, List.append_toArray, List.nil_append, List.cons_append]
  refine wpIn_wide.2 ?_
  go_wp2
  go_step3
  go_wp2
  go_step3
  go_wp2_with (go_at_call 44; refine (KWy.out _).mono ?_; rintro e w1 ⟨rfl, hb1⟩; have Hb1 := Lib.hid hb1; clear hb1)
  refine (wpIn_wide (n := 9)).1 ?_
  have HS := Lib.hid (next_start w s now Hb1.out)
  refine loop_upto 3 (NextI w s now ks F) (by unfold NextI; exact ⟨_, _, _, _, _, _, _, _, _, _, _, _, _, _, _, _, _, _, _, _, _, _, _, _, _, _, _, _, _, _, _, _, _, _, _, _, _, _, _, _, _, _, _, _, _, _, _, _, _, _, _, [], rfl, rfl, HS.out, fun h => absurd h (by omega), fun h => absurd h (by omega)⟩) ?_ (by omega)
  intro i a W hi3 hI
  unfold NextI at hI
  obtain ⟨u7, u8, u9, u10, u14, u15, u16, u17, u18, u19, u20, u21, u22, u23, u24, u25, u26, u27, u28, u29, u30, u31, u32, u33, u34, u35, u36, u37, u38, u39, u40, u41, u42, u43, u44, u45, u46, u47, u48, u49, u50, u51, u52, u53, u54, u55, u56, u57, u58, u59, u13, Ds, rfl, hu, hN, hdue, hfree⟩ := hI
  rcases (by omega : i = 0 ∨ i = 1 ∨ i = 2) with rfl | rfl | rfl
  · obtain rfl : u13 = .int .i64 0 := hu
    clear hdue hfree hi3
    refine wpIn_wide.2 ?_
    obtain ⟨W2, hW2, hb2, hway⟩ := way_box W 1 s 1 53
    obtain ⟨W1, hW1⟩ : ∃ W1, W.alloc (.cells #[.int .i64 0, .pointer none, .nilFunc] 90) = W1 := ⟨_, rfl⟩
    rw [hW1] at hW2
    have cw := row_cell hway 1
    change W2.cell? _ = some (.pointer (some ⟨s, 1, none⟩)) at cw
    have HN := Lib.hid hN; have Hb2 := Lib.hid hb2; have Hway := Lib.hid hway
    clear hN hb2 hway
    obtain ⟨X, Y, hH⟩ := H.out.hr
    have HH := Lib.hid hH; clear hH
    have hix := ways_at0 s W
    go_wp2
    go_step3
    go_wp2
    go_step3
    clear hix
    go_wp2_with (go_at_call 45; refine (rising_any (homeR s mf X Y) W2).mono ?_; rintro e w3 ⟨rfl, rfl⟩)
    clear hW1 hW2 cw
    obtain ⟨W3, hW3⟩ : ∃ W3, W2.alloc (.cells #[.pointer (some ⟨s, 1, none⟩)] 86) = W3 := ⟨_, rfl⟩
    have e3 : W2.alloc (.cells #[.pointer (some ⟨(homeR s mf X Y).b, (homeR s mf X Y).o, none⟩)] 86) = W3 := hW3
    rw [e3]
    have hb3 : Below W2.heap.size W2 W3 := by rw [← hW3]; exact below_box _ _
    have hz3 : W2.heap.size < W3.heap.size := by rw [← hW3]; simp
    have hbox : W3.cell? ⟨W2.heap.size, 0, none⟩ = some (.pointer (some ⟨s, 1, none⟩)) := by rw [← hW3]; exact new_one W2 _ _ rfl
    clear e3 hW3
    have HB3 := Lib.hid (Hb2.out.trans (hb3.mono Hb2.out.size))
    have HN3 := Lib.hid (HN.out.below (Hb2.out.trans (hb3.mono Hb2.out.size)))
    have HH3 := Lib.hid (HH.out.below (HN3.out.low.mono (Nat.le_refl _)))
    have HS3 := Lib.hid (H.out.below HN3.out.low)
    have Hway3 := Lib.hid ((hb3.block _ (Array.getElem?_eq_some_iff.1 Hway.out).1).trans Hway.out)
    have Hz3 := Lib.hid hz3
    have hlen : xr.length ≤ 50000 := by have := (H.out.lens HL.out).1; have := Hl.out; omega
    refine (wpIn_wide (n := 9)).1 ?_
    refine wpIn_rangeFunc_ownH (F := Fence.wide) rfl (by omega) (gf := 55) (lb := #[.pointer (some ⟨W2.heap.size, 0, none⟩)]) rfl trivial (enters_of Tryz.func55 (by kernel_rfl) rfl)
      (rising_stops 8 (by omega) W2.heap.size W3.heap.size B (homeR s mf X Y) q1 m1 xr hlen W3 hz3 (Nat.le_refl _) hbox HH3.out (fun k hk => (HH3.out.spares hk).2.1))
      (fun h k => h.trans k) (fun W l o o' hl h hc _ => KpS.put W l o o' hl h hc) (Below.refl _ _) (fun _ => rfl)
      (fun pre W' => (∀ e ∈ pre, ¬ Due ks F now e.1.1) ∧ Below W3.heap.size W3 W')
      (IxN w W3 (PuN ks F now (Due ks F now) 1))
      (OwnFrom.and (ownFrom_pure _ _) (ownFrom_below (Nat.le_refl _) (Nat.le_refl _))) (ixN_own w W3 _) ⟨fun e he => (by cases he), Below.refl _ _⟩
      (fun e a' W' => a' = { tmps := #[.pointer (some ⟨s, 0, none⟩), .int .i64 now, .pointer (some ⟨w.heap.size, 0, none⟩), .pointer (some ⟨w.heap.size + 1, 0, none⟩), .pointer (some ⟨w.heap.size + 1 + 1, 0, none⟩), .pointer (some ⟨w.heap.size + 1 + 1 + 1, 0, none⟩), .pointer (some ⟨w.heap.size + 1 + 1 + 1 + 1, 0, none⟩), u7, .pointer (some ⟨W.heap.size, 0, none⟩), .int .i64 e.1.1, u10, .pointer (some ⟨s, 0, none⟩), .agg #[.int .i64 1, .pointer (some ⟨s, 1, none⟩), .func (.func 53) #[] #[], .int .i64 2, .pointer (some ⟨s, 3, none⟩), .func (.func 54) #[] #[]], .int .i64 0, .bool true, .agg #[.int .i64 1, .pointer (some ⟨s, 1, none⟩), .func (.func 53) #[] #[]], .pointer (some ⟨W.heap.size, 1, none⟩), .pointer (some ⟨s, 1, none⟩), .func (.func 55) #[] #[.pointer (some ⟨W2.heap.size, 0, none⟩)], .int .i64 e.1.1, u20, u21, u22, u23, u24, u25, u26, u27, u28, u29, u30, u31, u32, u33, u34, u35, u36, u37, u38, u39, u40, u41, u42, u43, u44, u45, u46, u47, u48, u49, u50, u51, u52, u53, u54, u55, u56, u57, u58, u59], defers := [] }) (fun e a' => ownFrom_pure _ _) ?assign ?body ?done ?stop
    case assign =>
      rintro l pre e W' K ⟨hn, hB⟩ hK
      gi_wp2
      exact hK _ _ (KeepsFrom.refl _ _) (KpS.of_below (Below.refl _ _) hB.size) ⟨hn, hB⟩ rfl
    case body =>
      rintro l pre e a' W' hl ⟨rr, hrr⟩ ⟨hn, hB⟩ rfl hlt
      obtain ⟨⟨k, ky⟩, he⟩ := e
      have hke := (HL.out.r _).1 he
      obtain ⟨hk, hup⟩ := pR_iff.1 hke.1
      have HN4 := HN3.out.below hB
      have HS4 := HS3.out.below hB
      have Hw4 := (hB.block _ (Array.getElem?_eq_some_iff.1 Hway3.out).1).trans Hway3.out
      obtain ⟨A1, c1, A2, c2, hrow⟩ := HS4.row
      have a0 : W'.cell? ⟨w.heap.size, 0, none⟩ = some (.pointer (some ⟨s, 0, none⟩)) := HN4.bs.cell
      have a1 : W'.cell? ⟨w.heap.size + 1, 0, none⟩ = some (.int .i64 now) := HN4.bn.cell
      have a2 : W'.cell? ⟨s, 0, none⟩ = some (.map (some mf)) := row_cell hrow 0
      have a3 : W'.cell? ⟨W.heap.size, 0, none⟩ = some (.int .i64 1) := row_cell Hw4 0
      have a5 : W'.cell? ⟨W.heap.size, 2, none⟩ = some (.func (.func 53) #[] #[]) := row_cell Hw4 2
      obtain ⟨g, hg⟩ : ∃ g, bs k = g := ⟨_, rfl⟩
      obtain ⟨f, hf⟩ : ∃ f, F k = f := ⟨_, rfl⟩
      have hst := (HS4.st k hk).2.1
      have hok := HS4.ok k hk
      rw [hg, hf] at hst
      rw [hf] at hok
      have hst : IsSt W' g f (qs k) := hst
      have a6 := hst.c5
      have hbd := HS4.bd k hk
      have hCand : Due ks F now k ↔ byReserveF f.p f.c now = true := by rw [← hf]; exact ⟨fun h => h.2.2, fun h => ⟨hk, (by unfold inR at hup; rw [Bool.and_eq_true] at hup; exact hup.1), h⟩⟩
      have KM := Lib.hid (fun W => ByReserve_any f.p f.c now W hok.pol)
      obtain ⟨b, hb⟩ : ∃ b, byReserveF f.p f.c now = b := ⟨_, rfl⟩
      rw [hb] at hCand KM
      have HCand := Lib.hid hCand; have HS4 := Lib.hid HS4; have HN4 := Lib.hid HN4; have Hn := Lib.hid hn; have HB := Lib.hid hB; have Hk := Lib.hid hk; have Hg := Lib.hid hg; have Hf := Lib.hid hf; have Hbd := Lib.hid hbd; have Hst := Lib.hid hst; have Hpol := Lib.hid hok.pol
      have mixed : Tryz.prog.follows .mixedOrders = true := mixed_is
      have h1n : 1 ≤ 9 - 1 - 1 := by omega
      have ac1 := a1; have ac3 := a3; have ac5 := a5; have ac6 := a6
      have q1 : ∀ q : BelowOf W', q.v.cell? ⟨w.heap.size + 1, 0, none⟩ = some (.int .i64 now) := fun q => (q.h.cell (block_lt_of_cell ac1)).trans ac1
      have q3 : ∀ q : BelowOf W', q.v.cell? ⟨W.heap.size, 0, none⟩ = some (.int .i64 1) := fun q => (q.h.cell (block_lt_of_cell ac3)).trans ac3
      have q6 : ∀ q : BelowOf W', q.v.cell? ⟨g, 5, none⟩ = some (.int .i64 f.c.r) := fun q => (q.h.cell (block_lt_of_cell ac6)).trans ac6
      clear hCand hn hB hk hg hf hbd hst hok hrow hb hke hup hlt
      gi_wp2_with (gi_at_lookup; refine wpListIn_getP rfl (.tmp 23) (.tmp 24) rfl mf ks bs k rfl rfl HS4.out.flows (by have := Hbd.out; omega) (by have := Hbd.out; omega) Hk.out ?_; rw [Hg.out])
      by_cases hlate : now < f.c.r
      · have hd : decide (now < f.c.r) = true := decide_eq_true hlate
        refine wpIn_round_quiet mixed (by kernel_rfl) (by kernel_rfl) ?_
        repeat (quiet_step (fail))
        refine wpQuiet_nil ?_
        rintro V ⟨⟨_, hV⟩, rfl⟩
        gi_wp2
        exact ⟨keepsFrom_below hV, ⟨0, 0, false, ⟨pre, ⟨(k, ky), he⟩, rfl, Hn.out, .inl ⟨rfl, rfl, rfl, rfl, rfl, by rw [Hf.out]; exact hlate⟩⟩, HN4.out.three.below hV, Turned.of_below (HB.out.trans (hV.mono HB.out.size))⟩⟩
      have hd : decide (now < f.c.r) = false := decide_eq_false hlate
      refine wpIn_round_quiet mixed (by kernel_rfl) (by kernel_rfl) ?_
      repeat (quiet_step (fail))
      refine wpQuiet_nil ?_
      rintro V ⟨⟨_, hV⟩, rfl⟩
      have hlp : ∀ q : BelowOf V, _ := fun q => ldPol_run (w := q.v) ((Hst.out.below (hV.trans (q.h.mono hV.size))).polAt Hpol.out)
      have hlc : ∀ q : BelowOf V, _ := fun q => ldClk_at (w := q.v) (Hst.out.below (hV.trans (q.h.mono hV.size)))
      have v1 : ∀ q : BelowOf V, q.v.cell? ⟨w.heap.size + 1, 0, none⟩ = some (.int .i64 now) := fun q => (Below.cell (hV.trans (q.h.mono hV.size)) (block_lt_of_cell ac1)).trans ac1
      have v5 : ∀ q : BelowOf V, q.v.cell? ⟨W.heap.size, 2, none⟩ = some (.func (.func 53) #[] #[]) := fun q => (Below.cell (hV.trans (q.h.mono hV.size)) (block_lt_of_cell ac5)).trans ac5
      have HV := Lib.hid hV
      clear hV q1 q3 q6
      gi_wp2
      refine wpIn_round_quiet mixed (by kernel_rfl) (by kernel_rfl) ?_
      repeat (quiet_step (first | (go_at_call 53; exact Calls.below_of (KM.out _))))
      refine wpQuiet_nil ?_
      rintro w5 ⟨⟨_, hb5⟩, rfl⟩
      have Hb5 := Lib.hid (HV.out.trans (hb5.mono HV.out.size))
      clear hb5 hlp hlc v1 v5
      have HN5 := Lib.hid (HN4.out.below Hb5.out)
      have HB5 := Lib.hid (HB.out.trans (Hb5.out.mono HB.out.size))
      cases b with
      | false =>
        gi_wp2
        exact ⟨keepsFrom_below Hb5.out, KpS.of_below Hb5.out HB.out.size, fun y hy => by
          rcases List.mem_append.1 hy with hy | hy
          · exact Hn.out y hy
          · rw [List.mem_singleton.1 hy]
            intro hc
            exact absurd (HCand.out.1 hc) (by decide), HB5.out⟩
      | true =>
        have b3 : w5.cell? ⟨W.heap.size, 0, none⟩ = some (.int .i64 1) := (Hb5.out.cell (block_lt_of_cell ac3)).trans ac3
        have d2 := HN5.out.three.1.cell
        have d3 := HN5.out.three.2.1.cell
        have d4 := HN5.out.three.2.2.cell
        have z2 := row_frozen HN5.out.three.1 0
        have z3 := row_frozen HN5.out.three.2.1 0
        have z4 := row_frozen HN5.out.three.2.2 0
        have hw5 : w.heap.size + 1 + 1 + 1 + 1 < W.heap.size := five_lt HN.out.three
        gi_wp2
        gi_region_with_o (fail)
        all_goals
          gi_wp2
          obtain ⟨t1, t2, t3⟩ := three_left (B := W3.heap.size) (a := k) (b := 1) (c := true) Hb5.out HB5.out HN5.out.three rfl
          exact ⟨t1, k, 1, true, ⟨pre, ⟨(k, ky), he⟩, rfl, Hn.out, .inr ⟨rfl, HCand.out.2 (by first | rfl | trivial), rfl, rfl, rfl⟩⟩, t2, t3⟩
    case done =>
      rintro D ys W' hD rfl ⟨hn, hB⟩ hK
      have Hn := Lib.hid hn; have HB := Lib.hid hB; have HD := Lib.hid hD; have HK := Lib.hid hK
      clear hn hB hD hK
      go_wp2
      rw [Exit.noGoto_normal]
      go_wp2
      refine ⟨?_, by omega⟩
      unfold NextI
      have HN4 := HN3.out.below HB.out
      exact ⟨_, _, _, _, _, _, _, _, _, _, _, _, _, _, _, _, _, _, _, _, _, _, _, _, _, _, _, _, _, _, _, _, _, _, _, _, _, _, _, _, _, _, _, _, _, _, _, _, _, _, _, D :: Ds, rfl, rfl, ⟨HN4.low, HN4.bs, HN4.bn, HN4.three, List.nodup_cons.2 ⟨fun e => by
          have h1 := (HN3.out.marks.2 D e).2
          have h2 := (Array.getElem?_eq_some_iff.1 h1).1
          have h3 := HD.out
          omega, HN4.marks.1⟩, fun E hE => (List.mem_cons.1 hE).elim (fun e => by subst e; exact ⟨Nat.le_trans (five_lt HN3.out.three) HD.out, HK.out⟩) (HN4.marks.2 E)⟩, fun _ => (fun k => none_of (fun k hk => due_listed HL.out hk) (fun j r hr => Hn.out ⟨r, List.mem_iff_getElem?.2 ⟨j, hr⟩⟩ (List.mem_attach _ _)) k), fun h => absurd h (by omega)⟩
    case stop =>
      rintro D c pre W' hD ⟨kk, hkk, hp⟩ ⟨fl, ph, ok, ⟨pre0, e, rfl, hn, hc⟩, h3, ht⟩ hK
      obtain ⟨hx, hbe⟩ := take_split hp hkk
      have hnb : ∀ j, ResBox w j → w.heap.size ≤ j := fun j hj => by unfold ResBox at hj; omega
      have hlow : Below w.heap.size w W' := HN3.out.low.trans (ht.below hnb HN3.out.low.size)
      have hbs : BlkN W' w.heap.size _ _ := ht.heap HN3.out.bs fun e => by unfold ResBox at e; omega
      have hbn : BlkN W' (w.heap.size + 1) _ _ := ht.heap HN3.out.bn fun e => by unfold ResBox at e; omega
      have hmk := HN3.out.marks.turned ht
      have hm : MarksAt (w.heap.size + 5) (D :: Ds) W' := ⟨List.nodup_cons.2 ⟨fun e => by
          have h1 := (HN3.out.marks.2 D e).2
          have h2 := (Array.getElem?_eq_some_iff.1 h1).1
          omega, hmk.1⟩, fun E hE => (List.mem_cons.1 hE).elim (fun e => by subst e; exact ⟨Nat.le_trans (five_lt HN3.out.three) hD, hK⟩) (hmk.2 E)⟩
      have Hlow := Lib.hid hlow; have Hbs := Lib.hid hbs; have Hbn := Lib.hid hbn; have Hm := Lib.hid hm; have H3 := Lib.hid h3
      have Hn := Lib.hid (fun (j : Nat) r (hj : j < kk) (hr : xr[j]? = some r) => (show ¬ Due ks F now r.1 from by
        obtain ⟨hr2, hin⟩ := hbe j r hj hr
        exact hn _ hin))
      have Hx := Lib.hid hx
      have Hgd := Lib.hid (H.out.goods.1)
      clear hlow hbs hbn hmk hm h3 hn hx hbe hp hkk hnb ht hK hD
      rcases hc with ⟨rfl, hφ, rfl, rfl, rfl, hlate⟩ | ⟨rfl, hcand, rfl, rfl, rfl⟩
      · have Hl8 := Lib.hid hlate
        clear hlate hφ
        gi_wp2
        rw [Exit.noGoto_exit]
        go_wp2
        refine ⟨?_, by omega⟩
        unfold NextI
        exact ⟨_, _, _, _, _, _, _, _, _, _, _, _, _, _, _, _, _, _, _, _, _, _, _, _, _, _, _, _, _, _, _, _, _, _, _, _, _, _, _, _, _, _, _, _, _, _, _, _, _, _, _, D :: Ds, rfl, rfl, ⟨Hlow.out, Hbs.out, Hbn.out, H3.out, Hm.out⟩, fun _ k => not_due_behind HL.out Hgd.out Hx.out Hl8.out Hn.out k, fun h => absurd h (by omega)⟩
      · have HNx := Lib.hid (show Next ks F now e.1.1 1 true from .inl ⟨rfl, rfl, first_at HL.out.r Hgd.out (fun k hk => due_listed HL.out hk) Hx.out hcand Hn.out⟩)
        clear hcand
        have d2 := H3.out.1.cell
        have d3 := H3.out.2.1.cell
        have d4 := H3.out.2.2.cell
        have z2 := row_frozen H3.out.1 0
        have z3 := row_frozen H3.out.2.1 0
        have z4 := row_frozen H3.out.2.2 0
        gi_wp2
        rw [Exit.noGoto_exit]
        go_wp2
        go_region
        all_goals
          go_wp2
          obtain ⟨t1, t2, t3⟩ := end_ok H3.out Hm.out Hlow.out rfl
          exact next_leaves rfl rfl rfl HNx.out _ _ t2 t1 t3


  · obtain rfl : u13 = .int .i64 1 := hu
    have Hdue := Lib.hid (hdue (by omega))
    clear hdue hfree hi3
    refine wpIn_wide.2 ?_
    obtain ⟨W2, hW2, hb2, hway⟩ := way_box W 2 s 3 54
    obtain ⟨W1, hW1⟩ : ∃ W1, W.alloc (.cells #[.int .i64 0, .pointer none, .nilFunc] 90) = W1 := ⟨_, rfl⟩
    rw [hW1] at hW2
    have cw := row_cell hway 1
    change W2.cell? _ = some (.pointer (some ⟨s, 3, none⟩)) at cw
    have HN := Lib.hid hN; have Hb2 := Lib.hid hb2; have Hway := Lib.hid hway
    clear hN hb2 hway
    obtain ⟨X, Y, hH⟩ := H.out.hw
    have HH := Lib.hid hH; clear hH
    have hix := ways_at1 s W
    go_wp2
    go_step3
    go_wp2
    go_step3
    clear hix
    go_wp2_with (go_at_call 45; refine (rising_any (homeW s mf X Y) W2).mono ?_; rintro e w3 ⟨rfl, rfl⟩)
    clear hW1 hW2 cw
    obtain ⟨W3, hW3⟩ : ∃ W3, W2.alloc (.cells #[.pointer (some ⟨s, 3, none⟩)] 86) = W3 := ⟨_, rfl⟩
    have e3 : W2.alloc (.cells #[.pointer (some ⟨(homeW s mf X Y).b, (homeW s mf X Y).o, none⟩)] 86) = W3 := hW3
    rw [e3]
    have hb3 : Below W2.heap.size W2 W3 := by rw [← hW3]; exact below_box _ _
    have hz3 : W2.heap.size < W3.heap.size := by rw [← hW3]; simp
    have hbox : W3.cell? ⟨W2.heap.size, 0, none⟩ = some (.pointer (some ⟨s, 3, none⟩)) := by rw [← hW3]; exact new_one W2 _ _ rfl
    clear e3 hW3
    have HB3 := Lib.hid (Hb2.out.trans (hb3.mono Hb2.out.size))
    have HN3 := Lib.hid (HN.out.below (Hb2.out.trans (hb3.mono Hb2.out.size)))
    have HH3 := Lib.hid (HH.out.below (HN3.out.low.mono (Nat.le_refl _)))
    have HS3 := Lib.hid (H.out.below HN3.out.low)
    have Hway3 := Lib.hid ((hb3.block _ (Array.getElem?_eq_some_iff.1 Hway.out).1).trans Hway.out)
    have Hz3 := Lib.hid hz3
    have hlen : xw.length ≤ 50000 := by have := (H.out.lens HL.out).2; have := Hl.out; omega
    refine (wpIn_wide (n := 9)).1 ?_
    refine wpIn_rangeFunc_ownH (F := Fence.wide) rfl (by omega) (gf := 55) (lb := #[.pointer (some ⟨W2.heap.size, 0, none⟩)]) rfl trivial (enters_of Tryz.func55 (by kernel_rfl) rfl)
      (rising_stops 8 (by omega) W2.heap.size W3.heap.size B (homeW s mf X Y) q2 m2 xw hlen W3 hz3 (Nat.le_refl _) hbox HH3.out (fun k hk => (HH3.out.spares hk).2.1))
      (fun h k => h.trans k) (fun W l o o' hl h hc _ => KpS.put W l o o' hl h hc) (Below.refl _ _) (fun _ => rfl)
      (fun pre W' => (∀ e ∈ pre, ¬ Free ks F now e.1.1) ∧ Below W3.heap.size W3 W')
      (IxN w W3 (PuN ks F now (Free ks F now) 2))
      (OwnFrom.and (ownFrom_pure _ _) (ownFrom_below (Nat.le_refl _) (Nat.le_refl _))) (ixN_own w W3 _) ⟨fun e he => (by cases he), Below.refl _ _⟩
      (fun e a' W' => a' = { tmps := #[.pointer (some ⟨s, 0, none⟩), .int .i64 now, .pointer (some ⟨w.heap.size, 0, none⟩), .pointer (some ⟨w.heap.size + 1, 0, none⟩), .pointer (some ⟨w.heap.size + 1 + 1, 0, none⟩), .pointer (some ⟨w.heap.size + 1 + 1 + 1, 0, none⟩), .pointer (some ⟨w.heap.size + 1 + 1 + 1 + 1, 0, none⟩), u7, .pointer (some ⟨W.heap.size, 0, none⟩), .int .i64 e.1.1, u10, .pointer (some ⟨s, 0, none⟩), .agg #[.int .i64 1, .pointer (some ⟨s, 1, none⟩), .func (.func 53) #[] #[], .int .i64 2, .pointer (some ⟨s, 3, none⟩), .func (.func 54) #[] #[]], .int .i64 1, .bool true, .agg #[.int .i64 2, .pointer (some ⟨s, 3, none⟩), .func (.func 54) #[] #[]], .pointer (some ⟨W.heap.size, 1, none⟩), .pointer (some ⟨s, 3, none⟩), .func (.func 55) #[] #[.pointer (some ⟨W2.heap.size, 0, none⟩)], .int .i64 e.1.1, u20, u21, u22, u23, u24, u25, u26, u27, u28, u29, u30, u31, u32, u33, u34, u35, u36, u37, u38, u39, u40, u41, u42, u43, u44, u45, u46, u47, u48, u49, u50, u51, u52, u53, u54, u55, u56, u57, u58, u59], defers := [] }) (fun e a' => ownFrom_pure _ _) ?assign ?body ?done ?stop
    case assign =>
      rintro l pre e W' K ⟨hn, hB⟩ hK
      gi_wp2
      exact hK _ _ (KeepsFrom.refl _ _) (KpS.of_below (Below.refl _ _) hB.size) ⟨hn, hB⟩ rfl
    case body =>
      rintro l pre e a' W' hl ⟨rr, hrr⟩ ⟨hn, hB⟩ rfl hlt
      obtain ⟨⟨k, ky⟩, he⟩ := e
      have hke := (HL.out.w _).1 he
      obtain ⟨hk, hup⟩ := pW_iff.1 hke.1
      have HN4 := HN3.out.below hB
      have HS4 := HS3.out.below hB
      have Hw4 := (hB.block _ (Array.getElem?_eq_some_iff.1 Hway3.out).1).trans Hway3.out
      obtain ⟨A1, c1, A2, c2, hrow⟩ := HS4.row
      have a0 : W'.cell? ⟨w.heap.size, 0, none⟩ = some (.pointer (some ⟨s, 0, none⟩)) := HN4.bs.cell
      have a1 : W'.cell? ⟨w.heap.size + 1, 0, none⟩ = some (.int .i64 now) := HN4.bn.cell
      have a2 : W'.cell? ⟨s, 0, none⟩ = some (.map (some mf)) := row_cell hrow 0
      have a3 : W'.cell? ⟨W.heap.size, 0, none⟩ = some (.int .i64 2) := row_cell Hw4 0
      have a5 : W'.cell? ⟨W.heap.size, 2, none⟩ = some (.func (.func 54) #[] #[]) := row_cell Hw4 2
      obtain ⟨g, hg⟩ : ∃ g, bs k = g := ⟨_, rfl⟩
      obtain ⟨f, hf⟩ : ∃ f, F k = f := ⟨_, rfl⟩
      have hst := (HS4.st k hk).2.1
      have hok := HS4.ok k hk
      rw [hg, hf] at hst
      rw [hf] at hok
      have hst : IsSt W' g f (qs k) := hst
      have a6 := hst.c5
      have hbd := HS4.bd k hk
      have hCand : Free ks F now k ↔ byLimitF f.p f.c now = true := by rw [← hf]; exact ⟨fun h => h.2.2, fun h => ⟨hk, hup, h⟩⟩
      have KM := Lib.hid (fun W => ByLimit_any f.p f.c now W hok.pol)
      obtain ⟨b, hb⟩ : ∃ b, byLimitF f.p f.c now = b := ⟨_, rfl⟩
      rw [hb] at hCand KM
      have HCand := Lib.hid hCand; have HS4 := Lib.hid HS4; have HN4 := Lib.hid HN4; have Hn := Lib.hid hn; have HB := Lib.hid hB; have Hk := Lib.hid hk; have Hg := Lib.hid hg; have Hf := Lib.hid hf; have Hbd := Lib.hid hbd; have Hst := Lib.hid hst; have Hpol := Lib.hid hok.pol
      have mixed : Tryz.prog.follows .mixedOrders = true := mixed_is
      have h1n : 1 ≤ 9 - 1 - 1 := by omega
      have ac1 := a1; have ac3 := a3; have ac5 := a5; have ac6 := a6
      have q1 : ∀ q : BelowOf W', q.v.cell? ⟨w.heap.size + 1, 0, none⟩ = some (.int .i64 now) := fun q => (q.h.cell (block_lt_of_cell ac1)).trans ac1
      have q3 : ∀ q : BelowOf W', q.v.cell? ⟨W.heap.size, 0, none⟩ = some (.int .i64 2) := fun q => (q.h.cell (block_lt_of_cell ac3)).trans ac3
      have q6 : ∀ q : BelowOf W', q.v.cell? ⟨g, 5, none⟩ = some (.int .i64 f.c.r) := fun q => (q.h.cell (block_lt_of_cell ac6)).trans ac6
      clear hCand hn hB hk hg hf hbd hst hok hrow hb hke hup hlt
      gi_wp2_with (gi_at_lookup; refine wpListIn_getP rfl (.tmp 23) (.tmp 24) rfl mf ks bs k rfl rfl HS4.out.flows (by have := Hbd.out; omega) (by have := Hbd.out; omega) Hk.out ?_; rw [Hg.out])
      refine wpIn_round_quiet mixed (by kernel_rfl) (by kernel_rfl) ?_
      repeat (quiet_step (fail))
      refine wpQuiet_nil ?_
      rintro V ⟨⟨_, hV⟩, rfl⟩
      have hlp : ∀ q : BelowOf V, _ := fun q => ldPol_run (w := q.v) ((Hst.out.below (hV.trans (q.h.mono hV.size))).polAt Hpol.out)
      have hlc : ∀ q : BelowOf V, _ := fun q => ldClk_at (w := q.v) (Hst.out.below (hV.trans (q.h.mono hV.size)))
      have v1 : ∀ q : BelowOf V, q.v.cell? ⟨w.heap.size + 1, 0, none⟩ = some (.int .i64 now) := fun q => (Below.cell (hV.trans (q.h.mono hV.size)) (block_lt_of_cell ac1)).trans ac1
      have v5 : ∀ q : BelowOf V, q.v.cell? ⟨W.heap.size, 2, none⟩ = some (.func (.func 54) #[] #[]) := fun q => (Below.cell (hV.trans (q.h.mono hV.size)) (block_lt_of_cell ac5)).trans ac5
      have HV := Lib.hid hV
      clear hV q1 q3 q6
      gi_wp2
      refine wpIn_round_quiet mixed (by kernel_rfl) (by kernel_rfl) ?_
      repeat (quiet_step (first | (go_at_call 54; exact Calls.below_of (KM.out _))))
      refine wpQuiet_nil ?_
      rintro w5 ⟨⟨_, hb5⟩, rfl⟩
      have Hb5 := Lib.hid (HV.out.trans (hb5.mono HV.out.size))
      clear hb5 hlp hlc v1 v5
      have HN5 := Lib.hid (HN4.out.below Hb5.out)
      have HB5 := Lib.hid (HB.out.trans (Hb5.out.mono HB.out.size))
      cases b with
      | false =>
        gi_wp2
        exact ⟨keepsFrom_below Hb5.out, KpS.of_below Hb5.out HB.out.size, fun y hy => by
          rcases List.mem_append.1 hy with hy | hy
          · exact Hn.out y hy
          · rw [List.mem_singleton.1 hy]
            intro hc
            exact absurd (HCand.out.1 hc) (by decide), HB5.out⟩
      | true =>
        have b3 : w5.cell? ⟨W.heap.size, 0, none⟩ = some (.int .i64 2) := (Hb5.out.cell (block_lt_of_cell ac3)).trans ac3
        have d2 := HN5.out.three.1.cell
        have d3 := HN5.out.three.2.1.cell
        have d4 := HN5.out.three.2.2.cell
        have z2 := row_frozen HN5.out.three.1 0
        have z3 := row_frozen HN5.out.three.2.1 0
        have z4 := row_frozen HN5.out.three.2.2 0
        have hw5 : w.heap.size + 1 + 1 + 1 + 1 < W.heap.size := five_lt HN.out.three
        gi_wp2
        gi_region_with_o (fail)
        all_goals
          gi_wp2
          obtain ⟨t1, t2, t3⟩ := three_left (B := W3.heap.size) (a := k) (b := 2) (c := true) Hb5.out HB5.out HN5.out.three rfl
          exact ⟨t1, k, 2, true, ⟨pre, ⟨(k, ky), he⟩, rfl, Hn.out, .inr ⟨rfl, HCand.out.2 (by first | rfl | trivial), rfl, rfl, rfl⟩⟩, t2, t3⟩
    case done =>
      rintro D ys W' hD rfl ⟨hn, hB⟩ hK
      have Hn := Lib.hid hn; have HB := Lib.hid hB; have HD := Lib.hid hD; have HK := Lib.hid hK
      clear hn hB hD hK
      go_wp2
      rw [Exit.noGoto_normal]
      go_wp2
      refine ⟨?_, by omega⟩
      unfold NextI
      have HN4 := HN3.out.below HB.out
      exact ⟨_, _, _, _, _, _, _, _, _, _, _, _, _, _, _, _, _, _, _, _, _, _, _, _, _, _, _, _, _, _, _, _, _, _, _, _, _, _, _, _, _, _, _, _, _, _, _, _, _, _, _, D :: Ds, rfl, rfl, ⟨HN4.low, HN4.bs, HN4.bn, HN4.three, List.nodup_cons.2 ⟨fun e => by
          have h1 := (HN3.out.marks.2 D e).2
          have h2 := (Array.getElem?_eq_some_iff.1 h1).1
          have h3 := HD.out
          omega, HN4.marks.1⟩, fun E hE => (List.mem_cons.1 hE).elim (fun e => by subst e; exact ⟨Nat.le_trans (five_lt HN3.out.three) HD.out, HK.out⟩) (HN4.marks.2 E)⟩, fun _ => Hdue.out, fun _ => (fun k => none_of (fun k hk => free_listed HL.out hk) (fun j r hr => Hn.out ⟨r, List.mem_iff_getElem?.2 ⟨j, hr⟩⟩ (List.mem_attach _ _)) k)⟩
    case stop =>
      rintro D c pre W' hD ⟨kk, hkk, hp⟩ ⟨fl, ph, ok, ⟨pre0, e, rfl, hn, hc⟩, h3, ht⟩ hK
      obtain ⟨hx, hbe⟩ := take_split hp hkk
      have hnb : ∀ j, ResBox w j → w.heap.size ≤ j := fun j hj => by unfold ResBox at hj; omega
      have hlow : Below w.heap.size w W' := HN3.out.low.trans (ht.below hnb HN3.out.low.size)
      have hbs : BlkN W' w.heap.size _ _ := ht.heap HN3.out.bs fun e => by unfold ResBox at e; omega
      have hbn : BlkN W' (w.heap.size + 1) _ _ := ht.heap HN3.out.bn fun e => by unfold ResBox at e; omega
      have hmk := HN3.out.marks.turned ht
      have hm : MarksAt (w.heap.size + 5) (D :: Ds) W' := ⟨List.nodup_cons.2 ⟨fun e => by
          have h1 := (HN3.out.marks.2 D e).2
          have h2 := (Array.getElem?_eq_some_iff.1 h1).1
          omega, hmk.1⟩, fun E hE => (List.mem_cons.1 hE).elim (fun e => by subst e; exact ⟨Nat.le_trans (five_lt HN3.out.three) hD, hK⟩) (hmk.2 E)⟩
      have Hlow := Lib.hid hlow; have Hbs := Lib.hid hbs; have Hbn := Lib.hid hbn; have Hm := Lib.hid hm; have H3 := Lib.hid h3
      have Hn := Lib.hid (fun (j : Nat) r (hj : j < kk) (hr : xw[j]? = some r) => (show ¬ Free ks F now r.1 from by
        obtain ⟨hr2, hin⟩ := hbe j r hj hr
        exact hn _ hin))
      have Hx := Lib.hid hx
      have Hgd := Lib.hid (H.out.goods.2)
      clear hlow hbs hbn hmk hm h3 hn hx hbe hp hkk hnb ht hK hD
      rcases hc with ⟨rfl, hφ, rfl, rfl, rfl, hlate⟩ | ⟨rfl, hcand, rfl, rfl, rfl⟩
      · exact absurd hφ (by decide)
      · have HNx := Lib.hid (show Next ks F now e.1.1 2 true from .inr (.inl ⟨rfl, rfl, Hdue.out, first_at HL.out.w Hgd.out (fun k hk => free_listed HL.out hk) Hx.out hcand Hn.out⟩))
        clear hcand
        have d2 := H3.out.1.cell
        have d3 := H3.out.2.1.cell
        have d4 := H3.out.2.2.cell
        have z2 := row_frozen H3.out.1 0
        have z3 := row_frozen H3.out.2.1 0
        have z4 := row_frozen H3.out.2.2 0
        gi_wp2
        rw [Exit.noGoto_exit]
        go_wp2
        go_region
        all_goals
          go_wp2
          obtain ⟨t1, t2, t3⟩ := end_ok H3.out Hm.out Hlow.out rfl
          exact next_leaves rfl rfl rfl HNx.out _ _ t2 t1 t3


  · obtain rfl : u13 = .int .i64 2 := hu
    have HNx := Lib.hid (show Next ks F now 0 0 false from .inr (.inr ⟨rfl, rfl, rfl, hfree (by omega)⟩))
    have HN := Lib.hid hN
    clear hdue hfree hi3 hN
    refine wpIn_wide.2 ?_
    have d2 := HN.out.three.1.cell
    have d3 := HN.out.three.2.1.cell
    have d4 := HN.out.three.2.2.cell
    have z2 := row_frozen HN.out.three.1 0
    have z3 := row_frozen HN.out.three.2.1 0
    have z4 := row_frozen HN.out.three.2.2 0
    go_wp2
    go_region
    all_goals
      go_wp2
      obtain ⟨t1, t2, t3⟩ := end_ok HN.out.three HN.out.marks HN.out.low rfl
      exact next_leaves rfl rfl rfl HNx.out _ _ t2 t1 t3
end Go.Proofs.YtbfjakchgmdldaaGreat
